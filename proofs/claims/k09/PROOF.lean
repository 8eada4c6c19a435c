import PyProof.Rows.All
import Wide.All
import OpenK.AllK
import Wide.FinOn
import PyProof.EqAt
import PyProof.EqKinds
import PyProof.TupleCall
import KE.GoesEnum
import HandS.Base
import HandS.Call
import HandS.List
import HandS.Comp
import HandS.Dict
import HandS.Iter
import HandS.Walk
import HandS.Words
import KE.KEqDict
import HandS.More
import KE.KFromBytes
import KE.KExcSuper
import HandS.Ends
import HandS.Exc
import HandS.TryOnly
import HandS.ExcOwn
import HandS.WordsExc
import HandS.ForMost
import HandS.IsInst
import HandS.DictComp
import HandS.Deep
import HandS.TupAny
import HandS.WideBits
import PyProof.Rows.SortShell
import KE.KSortTup
import HandS.Sort
import HandS.SortOrd
import HandS.SortRule
import PyProof.StrOps
import PyProof.InstEq
import HandS.DictEq
import PyProof.P3Eq
import HandS.Codes
import HandS.DeepEq
import PyProof.NeKinds
import PySem.Challenge.RW_quietpairs_k09_other_names
set_option Elab.async false
set_option linter.all false
set_option maxRecDepth 100000
set_option maxHeartbeats 8000000
/-! enumerate over a tuple -/
namespace L2
open PySem PySem.Spec PyProof.Rows

theorem q_enum_newT {t : Addr} {items : Array Value} :
    Meets (Builtin.«enumerate.__new__» ⟨[.type "enumerate", .ref t], []⟩) (fun _ R s => s.heap.IsTuple t items ∧
      R (.ok (.ret (.ref (s.heap.push { cls := .type "tuple_iterator", data := .fields #[.ref t, .int 0 0] }).objs.size))) { s with heap := (s.heap.push { cls := .type "tuple_iterator", data := .fields #[.ref t, .int 0 0] }).push { cls := .type "enumerate", data := .fields #[.none, .bool false, .ref s.heap.objs.size, rawInt 0, .none, .none] } }) :=
  .of_wp fun prog w A R s h => by
    obtain ⟨hp, g, d, tk, os⟩ := s; obtain ⟨h1, h⟩ := h
    have hsub := sub_enumerate
    have q1 : ∀ {A' : Around} {E : Value → Shared → Prop} {Q : Value → Shared → Prop}, Q (.ref hp.objs.size) ⟨hp.push { cls := .type "tuple_iterator", data := .fields #[.ref t, .int 0 0] }, g, d, tk, os⟩ → wpAny (model prog w) A' (pyIter (.ref t)) Q E ⟨hp, g, d, tk, os⟩ :=
      fun q => (begins_tuple t items).iter prog w _ _ ⟨hp, g, d, tk, os⟩ _ h1 q
    wp_walk using q1
    refine wpAny_stack_any fun st => wpAny_pure ?_
    split
    · rename_i c _ _ _ _ _
      cases (c == Value.type "enumerate")
      · wp_walk using q1
        exact ⟨_, rfl, h⟩
      · wp_walk using q1
        exact ⟨_, rfl, h⟩
    · wp_walk using q1
      exact ⟨_, rfl, h⟩
theorem q_call_enumT {prog : Program} {w : World} {A : Around} {E : Value → Shared → Prop} {s : Shared} {l : Addr} {items : Array Value} {Q : Value → Shared → Prop} (hL : s.heap.IsTuple l items)
    (h : ∀ h', IsEnum h' (s.heap.objs.size + 1) s.heap.objs.size 0 .none → h'.IsTupleIter s.heap.objs.size l 0 → h'.objs.size = s.heap.objs.size + 2 →
      (∀ b o, s.heap.get? b = some o → h'.get? b = some o) → Q (.ref (s.heap.objs.size + 1)) { s with heap := h' }) :
    wpAny (model prog w) A (call (.type "enumerate") [.ref l]) Q E s := by
  refine callType_new F.called_enumerate (by decide) (F.typeCall_enumerate_1 _) (F.newCall_enumerate_1 _) (fun obj => F.args_object_init_2 obj _) F.entry_enumerate_new
    (q_enum_newT (items := items)) ⟨hL, ?_⟩
  have hz : (s.heap.push { cls := .type "tuple_iterator", data := .fields #[.ref l, .int 0 0] }).objs.size = s.heap.objs.size + 1 := Heap.size_push ..
  show _ ∧ _
  rw [hz]
  have he : IsEnum ((s.heap.push { cls := .type "tuple_iterator", data := .fields #[.ref l, .int 0 0] }).push
      { cls := .type "enumerate", data := .fields #[.none, .bool false, .ref s.heap.objs.size, rawInt 0, .none, .none] }) (s.heap.objs.size + 1) s.heap.objs.size 0 .none := by
    have := Heap.get?_push_size (s.heap.push { cls := .type "tuple_iterator", data := .fields #[.ref l, .int 0 0] })
      (o := { cls := .type "enumerate", data := .fields #[.none, .bool false, .ref s.heap.objs.size, rawInt 0, .none, .none] }) rfl
    rw [hz] at this; exact this
  refine ⟨⟨_, he, rfl⟩, h _ he ⟨_, Heap.get?_push_of_some _ (Heap.get?_push_size _ rfl), rfl, rfl⟩ (by rw [Heap.size_push, hz]) fun b o x => Heap.get?_push_of_some _ (Heap.get?_push_of_some _ x)⟩

def IteT (K : PySem.W.Frag) (a : Addr) : It :=
  ⟨fun i H => ∃ (xs : List V) (x : V), SqT K H a xs ∧ xs[i]? = some x, fun i H v H' => ∃ T x, v = .ref T ∧ H T = none ∧ H' = upd H T (.tup [.int (i : Nat), x]) ∧ ∀ xs, SqT K H a xs → xs[i]? = some x, fun i H => ∃ xs : List V, SqT K H a xs ∧ xs.length ≤ i⟩
theorem tupIter_isTuple {h : Heap} {a : Addr} {its : Array Value} (p : IsTup h a its) : h.IsTuple a its := p
theorem turn_enumT {P : Program} {w : World} {K : PySem.W.Frag} {elts : List Expr} {kk : Nat} {tpos : Pos} (a e it : Addr) :
    Turn P w K (.Tuple elts kk tpos) (IteT K a) [e, it] e (fun i h => (∃ old, IsEnum h e it ((i : Nat) : Int) old) ∧ h.IsTupleIter it a i ∧ e ≠ it) where
  mem := by simp
  obj := fun i h st b hb => by
    obtain ⟨⟨old, he⟩, ⟨o, ho, hc, hd⟩, _⟩ := st
    have e' : b = e ∨ b = it := by simpa using hb
    rcases e' with z | z
    · rw [z]; exact ⟨_, he, fun v q => nomatch q⟩
    · rw [z]; exact ⟨o, ho, fun v q => by rw [hd] at q; cases q⟩
  keep := fun i h h' st k => let ⟨⟨old, he⟩, hi, hne⟩ := st; ⟨⟨old, k e (by simp) _ he⟩, hi.at fun o q => k it (by simp) o q, hne⟩
  item := by
    intro X hP hw hK hc i pins s σ H E I hf st hg
    subst hP hw hK
    obtain ⟨⟨old, he⟩, hit, hne⟩ := st
    obtain ⟨xs, x, hq, hx⟩ := hg
    obtain ⟨its, rv, p, hz⟩ := I.tuple hq
    obtain ⟨u, hu, ru⟩ := rv.get hx
    have hel : e < s.heap.objs.size := Heap.lt_size he
    have hil : it < s.heap.objs.size := by obtain ⟨_, q, _⟩ := hit; exact Heap.lt_size q
    have hilt : i < its.toArray.size := by
      have := (List.getElem?_eq_some_iff.mp hu).1
      simpa using this
    have hai : a ≠ it := by
      obtain ⟨o1, e1, _, n1, d1⟩ := p
      obtain ⟨o2, e2, _, d2⟩ := hit
      intro z; rw [z, e2] at e1; cases e1; rw [d2] at d1; cases d1
    have hae : a ≠ e := by
      obtain ⟨o1, e1, _, n1, d1⟩ := p
      intro z
      rw [z, he] at e1; cases e1; cases d1
    have D := Draws.tuple (prog := X.prog) (w := X.w) (A := X.A.in1) (by rw [show X.A.in1.handled = none from I.ok.hd hc]) it a hai its.toArray
    refine wpAny_pyNext_enum_itemD D he ⟨hit, p⟩ hilt hne (by
      intro z
      have z' : e = it ∨ e = a := by simpa using z
      rcases z' with z | z
      · exact hne z
      · exact hae z.symm) fun x' h' tk hx' ho hst' hT hsz hk => ?_
    have hxu : x' = u := by
      have e1 : its.toArray[i]? = some u := by simpa using hu
      rw [e1] at hx'; exact (Option.some.inj hx').symm
    subst hxu
    obtain ⟨hit', _⟩ := hst'
    refine ⟨_, rfl, wpAny_letOwnedTupleGo_enum (s := { s with heap := h', toks := tk + 1 }) ho fun h'' he' sb => ?_⟩
    have hT2 : h''.get? s.heap.objs.size = some { cls := .type "tuple", data := .seq #[.int i tk, x'] } := (sb.2 _ (Nat.ne_of_gt hel)).trans hT
    have new : ObjOk X.prog X.w (upd H s.heap.objs.size (.tup [.int (i : Nat), x])) h'' s.heap.objs.size (.tup [.int (i : Nat), x]) :=
      ⟨by show 2 ≤ sizeLine; decide, [.int i tk, x'], .cons ⟨_, rfl⟩ (.cons ru .nil), ⟨_, hT2, rfl, _, rfl⟩⟩
    have I1 : Inv X pins σ (upd H s.heap.objs.size (.tup [.int (i : Nat), x])) { s with heap := h'', toks := tk + 1 } :=
      I.turnedNew (ch := [e, it]) (fun b ob hb q => (sb.2 b (fun z => hb (by simp [z]))).trans (hk b ob (fun z => hb (by simp [z])) (fun z => hb (by simp [z])) q)) hf (Nat.le_refl _) new
    refine ⟨.ref s.heap.objs.size, _, I1, rfl, ⟨_, x, rfl, I.hok.fresh (Nat.le_refl _), rfl, fun ys hy => by rw [I.tuple_inj hy hq]; exact hx⟩, ⟨⟨x', ?_⟩, hit'.at fun o q => (sb.2 it (Ne.symm hne)).trans q, hne⟩, fun b hb => ?_⟩
    · have e1 : ((i + 1 : Nat) : Int) = (i : Int) + 1 := by omega
      rw [e1]; exact he'
    · have hb' : b < s.heap.objs.size := by
        have e' : b = e ∨ b = it := by simpa using hb
        rcases e' with z | z
        · rw [z]; exact hel
        · rw [z]; exact hil
      rw [upd_ne (Nat.ne_of_lt hb')]
      exact (hf b hb).1
  done := by
    intro X hP hw hK hc i pins s σ H E I hf st hg
    subst hP hw hK
    obtain ⟨⟨old, he⟩, hit, hne⟩ := st
    obtain ⟨xs, hq, hx⟩ := hg
    obtain ⟨its, rv, p, hz⟩ := I.tuple hq
    obtain ⟨f0, f1, f2, f3, f4, f5⟩ := hf it (by simp)
    have hl := rv.length
    have hai : a ≠ it := by
      obtain ⟨o1, e1, _, n1, d1⟩ := p
      obtain ⟨o2, e2, _, d2⟩ := hit
      intro z; rw [z, e2] at e1; cases e1; rw [d2] at d1; cases d1
    have hnone : its.toArray[i]? = none := by simp; omega
    unfold pyNext
    have hT : s.TypeIs (.ref e) "enumerate" := ⟨_, he, rfl⟩
    refine wpAny_bind (wpAny_attempt (wpAny_callSpecial?_slot (name := Str.ofString "__next__") hT F.slot_enumerate_next
      (wpAny_call_entry F.slot_enumerate_next hT F.entry_enumerate_next ?_ (F.args_enumerate_next_1 _))))
    show wpAny _ _ (field (.ref e) 2 >>= _) _ _ _
    refine wpAny_bind (wpAny_field he rfl (x := .ref it) rfl ?_)
    refine wpAny_bind (wpAny_nextOf_tuple_end (by rw [show X.A.in1.handled = none from I.ok.hd hc]) hit p hnone fun h' x he' hx' => ?_)
    obtain ⟨o, ho, hc'⟩ := hx'
    refine wpAny_bind (wpAny_isInstance (T := "StopIteration") (b := true) ⟨o, ho, hc'⟩ isSubtype_stop ?_)
    exact wpAny_pure ⟨rfl, I.turned (t' := s.toks) (fun b o hb q => he' b o hb q) f0 f1 f3 f4 f5⟩
  self := fun A i s Q E st h => let ⟨⟨_, he⟩, _⟩ := st; wpAny_pyIter_enum he h
theorem walk_enumT {K : PySem.W.Frag} {a : Addr} {xs : List V} : Walk (IteT K a) xs.length (fun H => SqT K H a xs) (YPair (fun i => some (.int (i : Nat))) (fun i => xs[i]?)) := by
  refine ⟨fun i _ hi q => ⟨xs, xs[i], q, by simp [hi]⟩, fun _ q => ⟨xs, q, Nat.le_refl _⟩, fun i H v H' _ q y => ?_⟩
  obtain ⟨T, x, h1, h2, h3, h4⟩ := y
  exact ⟨T, .int (i : Nat), x, h1, h2, h3, rfl, h4 xs q⟩
theorem enum_or {K : PySem.W.Frag} {H : Hp} {a : Addr} {xs : List V} {R : It → Hp → Prop} (hq : SqL K H a xs ∨ SqT K H a xs)
    (key : ∀ (J : It) (G : Hp → Prop), Walk J xs.length G (YPair (fun i => some (.int (i : Nat))) (fun i => xs[i]?)) → (∀ H', Same H H' → G H') → R J H) : (SqL K H a xs ∧ R (Ite K a) H) ∨ (SqT K H a xs ∧ R (IteT K a) H) := by
  rcases hq with hq | hq
  · exact .inl ⟨hq, key _ _ walk_enum fun H' s => s.seq hq⟩
  · exact .inr ⟨hq, key _ _ walk_enumT fun H' s => by
      rcases hq with (h | ⟨o, h⟩) | h
      · exact .inl (.inl (s _ _ h))
      · exact .inl (.inr ⟨o, s _ _ h⟩)
      · exact .inr h⟩
def iEnumT (K : PySem.W.Frag) (ta : TA) : TI := fun σ H R => ta σ H fun vs H1 => ∃ a xs, vs = [.ref a] ∧ (SqL K H1 a xs ∨ SqT K H1 a xs) ∧
  ∀ (J : It) (G : Hp → Prop), Walk J xs.length G (YPair (fun i => some (.int (i : Nat))) (fun i => xs[i]?)) → (∀ H', Same H1 H' → G H') → R J H1
theorem pi_enumT {X : Cx} {e : Expr} {ta : TA} {p pos tpos : Pos} {elts : List Expr} {kk : Nat} (hg : Gl X "enumerate") (hm : X.mg "enumerate" = none) (ha : PA X [e] ta) (hs : starEach [e] X.env = [(false, eval e X.env)] := by rfl) :
    PI X (.Tuple elts kk tpos) (.Call (.Name "enumerate" p) [e] [] pos) (iEnumT X.K ta) := by
  refine ⟨fun pins s σ H R I h => ?_⟩
  refine Call_ (ld_blt I hg hm boot_enumerate (PyProof.Rows.callWith_type1 (thn (ha.run pos pins s σ H _ I h) fun us s1 ⟨vs, H1, I1, r1, q1⟩ => ?_) hs rfl))
  obtain ⟨a, xs, ex, hq0, key⟩ := q1
  have hq := enum_or (R := R) hq0 key
  subst ex
  cases r1 with
  | cons r rr =>
    cases rr
    cases r
    rcases hq with ⟨hq, q⟩ | ⟨hq, q⟩
    · obtain ⟨its, rv, p', hz⟩ := I1.list hq
      refine call_enumerate_list p'.isList fun h' he hit hsz hk => wpAny_pyIter_enum he ?_
      have I2 : Inv X pins σ H1 { s1 with heap := h' } := I1.kept (t' := s1.toks) hk
      refine ⟨s1.heap.objs.size + 1, [s1.heap.objs.size + 1, s1.heap.objs.size], _, _, H1, rfl, I2, turn_enum a (s1.heap.objs.size + 1) s1.heap.objs.size, ⟨⟨.none, he⟩, hit, Nat.succ_ne_self _⟩, fun b hb => ?_, q⟩
      have e' : b = s1.heap.objs.size + 1 ∨ b = s1.heap.objs.size := by simpa using hb
      have hle : s1.heap.objs.size ≤ b := by
        rcases e' with z | z
        · rw [z]; exact Nat.le_add_right _ _
        · rw [z]; exact Nat.le_refl _
      exact I1.fpOk hle (I1.hok.fresh hle)
    · obtain ⟨its, rv, p', hz⟩ := I1.tuple hq
      refine q_call_enumT p' fun h' he hit hsz hk => wpAny_pyIter_enum he ?_
      have I2 : Inv X pins σ H1 { s1 with heap := h' } := I1.kept (t' := s1.toks) hk
      refine ⟨s1.heap.objs.size + 1, [s1.heap.objs.size + 1, s1.heap.objs.size], _, _, H1, rfl, I2, turn_enumT a (s1.heap.objs.size + 1) s1.heap.objs.size, ⟨⟨.none, he⟩, hit, Nat.succ_ne_self _⟩, fun b hb => ?_, q⟩
      have e' : b = s1.heap.objs.size + 1 ∨ b = s1.heap.objs.size := by simpa using hb
      have hle : s1.heap.objs.size ≤ b := by
        rcases e' with z | z
        · rw [z]; exact Nat.le_add_right _ _
        · rw [z]; exact Nat.le_refl _
      exact I1.fpOk hle (I1.hok.fresh hle)
end L2
/-! x in a list or tuple of texts, x of any kind -/
namespace L2
open PySem PySem.Spec PyProof.Rows
open AutoSeq1 (wpAny_loadPart')
open MeetsSeq MeetsSeq2 MeetsSeq3 SeqRoads2 SeqAt
theorem q_str_eq_dict (b : Str) (u : Tok) (l : Addr) (o : Obj) (hc : o.cls = .type "dict") (hd : ∃ es ep, o.data = .dict es ep) :
    Meets (Builtin.«str.__eq__» ⟨[.str b u, .ref l], []⟩) (fun _ R s => s.heap.get? l = some o ∧ R (.ok (.ret .notImplemented)) s) :=
  .of_wp fun prog w A R s h => by
    obtain ⟨hp, g, d, tk, os⟩ := s; obtain ⟨hl, h⟩ := h
    obtain ⟨c, dd, dt, sl⟩ := o
    obtain ⟨es, ep, hd⟩ := hd
    simp only at hc hd
    subst hc hd
    wp_walk using wpAny_loadPart' hl, wpAny_load hl; exact ⟨_, rfl, h⟩
theorem q_dict_eq_str (l : Addr) (o : Obj) (hc : o.cls = .type "dict") (b : Str) (u : Tok) :
    Meets (Builtin.«dict.__eq__» ⟨[.ref l, .str b u], []⟩) (fun _ R s => s.heap.get? l = some o ∧ R (.ok (.ret .notImplemented)) s) :=
  .of_wp fun prog w A R s h => by
    obtain ⟨hp, g, d, tk, os⟩ := s; obtain ⟨hl, h⟩ := h
    have f1 := F.sub_str_dict
    show wpAny _ _ (Builtin.Dict.dictSlotArgs "__eq__" ⟨[.ref l, .str b u], []⟩ >>= _) _ _ _
    refine wpAny_bind ?_
    unfold Builtin.Dict.dictSlotArgs
    refine wpAny_bind (wpAny_notOrdered_dict (show Shared.TypeIs ⟨hp, g, d, tk, os⟩ (.ref l) "dict" from ⟨_, hl, hc⟩) ?_)
    show wpAny _ _ (pure (Value.ref l, Value.str b u)) _ _ _
    refine wpAny_pure ?_
    wp_walk
    exact ⟨_, rfl, h⟩
theorem q_str_dict {A : Around} {s : Shared} {l : Addr} {o : Obj} (b : Str) (u : Tok) (hl : s.heap.get? l = some o) (hc : o.cls = .type "dict") (hd : ∃ es ep, o.data = .dict es ep) (hu : A.units < cLine) : EqAt A s (.str b u) (.ref l) false := fun prog w E Q h => by
  unfold eqBool
  refine wpAny_holding ?_
  refine wpAny_ite_split (fun hab => absurd (eq_of_beq hab) nofun) (fun _ => ?_)
  refine wpAny_bind ?_
  refine rc_eq_decline_or (k := false) (typeIs_str s b u) ⟨_, hl, hc⟩ (by decide) F.sub_dict_str F.slot_str_eq F.slot_dict_eq_refl
    (fun _ hq => call_meets F.slot_str_eq (typeIs_str s b u) F.entry_str_eq (F.args_str_eq_2 _ _) (q_str_eq_dict b u l o hc hd) ⟨hl, hq⟩)
    (fun _ hq => call_meets F.slot_dict_eq_refl ⟨_, hl, hc⟩ F.entry_dict_eq (F.args_dict_eq_2 _ _) (q_dict_eq_str l o hc b u) ⟨hl, hq⟩)
    (fun _ hq => wpAny_of_eq (rfl : isSame (.str b u) (.ref l) = pure false) hq) (.inr hu) (wpAny_truthy_bool h)
/-- a value that may stand where a name is asked -/
inductive EltV (H : Hp) : V → Prop where
  | flat {x : V} (h : flatV x = true) : EltV H x
  | lst {a : Addr} {xs : List V} (h : H a = some (.lst xs)) : EltV H (.ref a)
  | tup {a : Addr} {xs : List V} (h : H a = some (.tup xs)) : EltV H (.ref a)
  | dct {a : Addr} {kvs : List (Key × V)} (h : H a = some (.dK kvs)) : EltV H (.ref a)
theorem EltV.same {H H' : Hp} (s : Same H H') {x : V} (h : EltV H x) : EltV H' x := by
  cases h with
  | flat h => exact .flat h
  | lst h => exact .lst (s _ _ h)
  | tup h => exact .tup (s _ _ h)
  | dct h => exact .dct (s _ _ h)
def inS (x : V) (ss : List Str) : Bool := ss.any fun z => decide (x = .str z)
theorem inS_iff {x : V} {ss : List Str} : inS x ss = true ↔ ∃ z ∈ ss, x = .str z := by
  unfold inS
  rw [List.any_eq_true]
  simp
theorem inS_str {z : Str} {ss : List Str} : inS (.str z) ss = decide (z ∈ ss) := by
  by_cases h : z ∈ ss
  · rw [decide_eq_true h]
    exact inS_iff.mpr ⟨z, h, rfl⟩
  · rw [decide_eq_false h]
    cases e : inS (.str z) ss with
    | false => rfl
    | true =>
      obtain ⟨y, hy, e⟩ := inS_iff.mp e
      cases e
      exact absurd hy h
def eqS (x : V) (u : Value) : Bool := match u with
  | .str z _ => decide (x = .str z)
  | _ => false
theorem any_eqS {x : V} : ∀ {ss : List Str} {us : List Value}, Vals (ss.map V.str) us → us.any (eqS x) = inS x ss
  | [], _, .nil => rfl
  | z :: ss, u :: us, .cons r t => by
    obtain ⟨k, rfl⟩ := r
    have e := any_eqS (x := x) (ss := ss) (us := us) t
    show (eqS x (.str z k) || us.any (eqS x)) = (decide (x = .str z) || ss.any fun z => decide (x = .str z))
    rw [e]
    rfl
theorem eqAt_S {X : Cx} {pins : List (Addr × Obj)} {σ : St} {H : Hp} {s : Shared} {A : Around} (I : Inv X pins σ H s) (hu : A.units < cLine) {x : V} {v : Value} (rx : RelV x v) (ex : EltV H x) (z : Str) (k : Tok) : EqAt A s (.str z k) v (decide (x = .str z)) := by
  cases ex with
  | flat fx =>
    cases x with
    | non => cases rx; exact EqAt.str_none z k
    | bl b => cases rx; exact EqAt.str_bool z k b
    | int b => obtain ⟨t, rfl⟩ := rx; exact EqAt.str_int z k b t
    | str b =>
      obtain ⟨t, rfl⟩ := rx
      have e := EqAt.str_str (A := A) (s := s) z k b t
      have q : (z == b) = decide (V.str b = V.str z) := by
        by_cases h : z = b
        · subst h; simp
        · have h2 : ¬ V.str b = V.str z := fun y => h (V.str.inj y).symm
          rw [decide_eq_false h2]
          simpa using h
      rw [← q]
      exact e
    | _ => exact absurd (show false = true from fx) Bool.false_ne_true
  | @lst a xs h =>
    cases (show v = Value.ref a from rx)
    obtain ⟨_, its, n, _, h1⟩ := (show ObjOk X.prog X.w H s.heap a (.lst xs) from I.hok a _ h)
    exact EqAt.str_list z k (items := its.toArray) ⟨_, h1, rfl, n, rfl⟩ hu
  | @tup a xs h =>
    cases (show v = Value.ref a from rx)
    obtain ⟨_, its, _, h1⟩ := (show ObjOk X.prog X.w H s.heap a (.tup xs) from I.hok a _ h)
    exact EqAt.str_tuple z k h1 hu
  | @dct a kvs h =>
    cases (show v = Value.ref a from rx)
    obtain ⟨_, _, vs, _, o, es, ep, h1, h2, h3, _⟩ := (show ObjOk X.prog X.w H s.heap a (.dK kvs) from I.hok a _ h)
    exact q_str_dict z k h1 h2.1 ⟨_, _, h3⟩ hu
theorem mem_eqS {X : Cx} {pins : List (Addr × Obj)} {σ : St} {H : Hp} {s : Shared} {A : Around} (I : Inv X pins σ H s) (hu : A.units < cLine) {x : V} {v : Value} (rx : RelV x v) (ex : EltV H x) : ∀ {ss : List Str} {us : List Value}, Vals (ss.map V.str) us → ∀ u ∈ us, EqAt A s u v (eqS x u)
  | [], _, .nil => fun u hu => by cases hu
  | z :: ss, u :: us, .cons r t => fun u' hu' => by
    rcases List.mem_cons.mp hu' with rfl | hu'
    · obtain ⟨k, rfl⟩ := r
      exact eqAt_S I hu rx ex z k
    · exact mem_eqS I hu rx ex t u' hu'
def rInS (K : PySem.W.Frag) (neg : Bool) : R2 := fun x y H Q => ∃ p ss, y = .ref p ∧ (SqL K H p (ss.map V.str) ∨ SqT K H p (ss.map V.str)) ∧ EltV H x ∧ Q (.bl (if neg then !inS x ss else inS x ss)) H
theorem op_inS {X : Cx} (hu : X.A.units + 64 < cLine) : OpR X (compareOp .In) (rInS X.K false) := by
  intro pins s σ H x y v u Q I rx ry h
  obtain ⟨p, ss, rfl, hq, ex, q⟩ := h
  cases ry
  rcases hq with hq | hq
  · obtain ⟨its, r, pl, hz⟩ := I.list hq
    refine SeqAt.in_listAt (eqS x) pl.isList (fun w hw => mem_eqS I (by first | exact Nat.lt_of_le_of_lt (Nat.le_add_right _ 64) hu | exact Nat.lt_of_le_of_lt (Nat.add_le_add_left (by decide) _) hu) rx ex r w (by simpa using hw)) ⟨.bl _, H, I, rfl, ?_⟩
    rw [show its.toArray.any (eqS x) = its.any (eqS x) by simp, any_eqS r]
    exact q
  · obtain ⟨its, r, pl, hz⟩ := I.tuple hq
    refine SeqAt.in_tupleAt (eqS x) pl (fun w hw => mem_eqS I (by first | exact Nat.lt_of_le_of_lt (Nat.le_add_right _ 64) hu | exact Nat.lt_of_le_of_lt (Nat.add_le_add_left (by decide) _) hu) rx ex r w (by simpa using hw)) ⟨.bl _, H, I, rfl, ?_⟩
    rw [show its.toArray.any (eqS x) = its.any (eqS x) by simp, any_eqS r]
    exact q
theorem op_notInS {X : Cx} (hu : X.A.units + 64 < cLine) : OpR X (compareOp .NotIn) (rInS X.K true) := by
  intro pins s σ H x y v u Q I rx ry h
  obtain ⟨p, ss, rfl, hq, ex, q⟩ := h
  cases ry
  rcases hq with hq | hq
  · obtain ⟨its, r, pl, hz⟩ := I.list hq
    refine SeqAt.notIn_listAt (eqS x) pl.isList (fun w hw => mem_eqS I (by first | exact Nat.lt_of_le_of_lt (Nat.le_add_right _ 64) hu | exact Nat.lt_of_le_of_lt (Nat.add_le_add_left (by decide) _) hu) rx ex r w (by simpa using hw)) ⟨.bl _, H, I, rfl, ?_⟩
    rw [show its.toArray.any (eqS x) = its.any (eqS x) by simp, any_eqS r]
    exact q
  · obtain ⟨its, r, pl, hz⟩ := I.tuple hq
    refine SeqAt.notIn_tupleAt (eqS x) pl (fun w hw => mem_eqS I (by first | exact Nat.lt_of_le_of_lt (Nat.le_add_right _ 64) hu | exact Nat.lt_of_le_of_lt (Nat.add_le_add_left (by decide) _) hu) rx ex r w (by simpa using hw)) ⟨.bl _, H, I, rfl, ?_⟩
    rw [show its.toArray.any (eqS x) = its.any (eqS x) by simp, any_eqS r]
    exact q
end L2
/-! sorted(t), t a tuple of texts -/
namespace L2
open PySem PySem.Spec PyProof.Rows
theorem q_collectT {prog : Program} {w : World} {A : Around} {E : Value → Shared → Prop} {s : Shared} {l : Addr} {vs : List Value} {Q : List Value → Shared → Prop} (hl : IsTup s.heap l vs.toArray)
    (h : ∀ h', (∀ b o, s.heap.get? b = some o → h'.get? b = some o) → Q vs { s with heap := h' }) (hsz : vs.length ≤ sizeLine) :
    wpAny (model prog w) A (collect (.ref l)) Q E s := by
  obtain ⟨o, ho, hc, n, hd⟩ := id hl
  have F := h ((s.heap.push (seqObj "list" #[] 0)).update s.heap.objs.size (Obj.mapSeq (· ++ vs.toArray))) (fun b u e => by
    rw [Heap.get?_update_ne _ _ _ _ (Nat.ne_of_lt (Heap.lt_size e))]
    exact Heap.get?_push_of_some _ e)
  unfold collect
  refine wpAny_bind (wpAny_runValue (codeAny_builtin entry_proto_collect' ?_))
  show wpAny _ _ (do again (.builtin "list.__iadd__" ⟨[← newList [], .ref l], []⟩)) _ _ s
  refine wpAny_bind (wpAny_newList (wpAny_pure ⟨Code.quiet_builtin _ (by decide +kernel), codeAny_builtin entry_list_iadd' ?_⟩))
  show wpAny _ _ (Builtin.List.listExtendWith (.ref s.heap.objs.size) (.ref l) (.ref s.heap.objs.size)) _ _ { s with heap := s.heap.push (seqObj "list" #[] 0) }
  unfold Builtin.List.listExtendWith
  have ho' : (s.heap.push (seqObj "list" #[] 0)).get? l = some o := Heap.get?_push_of_some _ ho
  refine wpAny_bind (wpAny_typeOf (T := "tuple") ⟨o, ho', hc⟩ ?_)
  rw [if_pos (by rw [show (Value.type "tuple" == Value.type "tuple") = true by rfl]; simp)]
  refine wpAny_bind (listItems_at ho' hd ?_)
  refine wpAny_bind (listItems_at (xs := #[]) (n := 0) (Heap.get?_push_size _ rfl) rfl ?_)
  rw [if_neg (by simp)]
  refine wpAny_bind (listUpdate_at (xs := #[]) (n := 0) (Heap.get?_push_size _ rfl) rfl ?_ (Nat.zero_le _) (by show (#[] ++ vs.toArray).size ≤ sizeLine + 1; simp only [Array.size_append, List.size_toArray, List.length_nil]; omega))
  refine wpAny_pure ?_
  show wpAny (model prog w) A (do
      let o ← load s.heap.objs.size
      match o.data with
      | .seq xs _ => pure xs.toList
      | _ => unsupported "internal:collect") Q E { s with heap := (s.heap.push (seqObj "list" #[] 0)).update s.heap.objs.size (Obj.mapSeq (· ++ vs.toArray)) }
  refine wpAny_bind (wpAny_load (get?_update_seq (Heap.get?_push_size _ rfl) _) ?_)
  show wpAny _ _ (pure ((#[] : Array Value) ++ vs.toArray).toList) Q E _
  rw [show ((#[] : Array Value) ++ vs.toArray).toList = vs by simp]
  exact wpAny_pure F
section
variable {X : Cx}
def rSortedST (K : PySem.W.Frag) : List V → Hp → VK → Prop := fun vs H Q => ∃ (a : Addr) (xs : List Str), vs = [V.ref a] ∧ SqT K H a (xs.map V.str) ∧ xs.length < 64 ∧
  ∀ (ys : List Str) (p : Addr), ys.Perm xs → sortedS ys = true → H p = none → Q (.ref p) (upd H p (.lst (ys.map V.str)))
theorem cr_sortedST : CallR X (.builtin "sorted") (rSortedST X.K) := by
  intro pins s σ H xs us Q I r q
  obtain ⟨a, ks, ex, hd, h64, q⟩ := q
  subst ex
  obtain ⟨u, eu, rx⟩ := vals1 r
  subst eu
  cases rx
  obtain ⟨its, rv, ht, hz⟩ := I.tuple hd
  have hal : its.length = ks.length := by
    have e := rv.length
    rw [List.length_map] at e
    exact e.symm
  have hS : StrsAre its ks := rv.strs
  refine Calls.call_function_entry PyProof.Rows.kind_sorted PyProof.Rows.plain_sorted PyProof.Rows.entry_sorted (PyProof.Rows.args_sorted1 _) ?_
  unfold Builtin.«sorted»
  refine wpAny_bind (m := checkCount "sorted" 1 1 _) (wpAny_pure ?_)
  refine wpAny_bind (q_collectT ht (fun h' hk => ?_) (by rw [hal, sizeLine_eq]; omega))
  have I1 : Inv X pins σ H { s with heap := h' } := I.kept (t' := s.toks) hk
  refine wpAny_bind (wpAny_newList ?_ (by rw [hal, sizeLine_eq]; omega))
  have hoL : (h'.push (seqObj "list" its.toArray 0)).get? h'.objs.size = some (seqObj "list" its.toArray 0) := Heap.get?_push_size _ rfl
  show wpAny _ _ _ _ _ { s with heap := h'.push (seqObj "list" its.toArray 0) }
  refine wpAny_bind (wpAny_holding (wpAny_call_entry PyProof.Rows.slot_list_sort ⟨_, hoL, rfl⟩ PyProof.Rows.entry_list_sort
    (list_sort_treeK strKind_oneLt (s := { s with heap := h'.push (seqObj "list" its.toArray 0) }) hoL hS.keysOf (fun v₁ v₂ rest e => keyKind_strs (by rw [← e]; exact hS)) (by rw [hal]; exact h64) fun st' hp hs => ⟨_, rfl, ?_⟩)
    (PyProof.Rows.args_list_sort _)))
  obtain ⟨ys, g1, g2, g3⟩ := sorted_out_str hS hp hs
  obtain ⟨e', he'⟩ := PyProof.Rows.sortedHeap_at (vs := its) (out := (arrOf st').map (·.2)) hoL
  have hlen : (ys.map V.str).length ≤ sizeLine := by
    rw [List.length_map, g2.length_eq]
    exact Nat.le_trans (Nat.le_of_lt h64) (by decide)
  refine wpAny_pure ⟨_, rfl, .ref h'.objs.size, upd H h'.objs.size (.lst (ys.map V.str)), I1.laid (t' := s.toks) (fun b u e => ?_) (Nat.le_refl _)
    (show ObjOk X.prog X.w _ _ _ (.lst (ys.map V.str)) from ⟨hlen, ((arrOf st').map (·.2)).toList, e', vals_of_strs g1, by rw [Array.toArray_toList]; exact he'⟩), rfl, q ys _ g2 g3 (I1.hok.fresh (Nat.le_refl _))⟩
  have hb : b < h'.objs.size := Heap.lt_size e
  rw [PyProof.Rows.sortedHeap_old (Nat.ne_of_lt hb) (by rw [size_push']; exact Nat.lt_succ_of_lt hb)]
  exact Heap.get?_push_of_some _ e
end
end L2
/-! an own error over ValueError whose __init__ says super().__init__('..') and then self.f = f -/
namespace PySem
namespace QX
open PySem.W PySem.Calls PyProof.Rows PySem.HandSPX
def iA (f : Str) (p1 p2 : Pos) : Arguments := { posonlyargs := [], args := [{ arg := "self", annotation := none, pos := p1 }, { arg := f, annotation := none, pos := p2 }], vararg := none, kwonlyargs := [], kw_defaults := [], kwarg := none, defaults := [] }
def iB (f t : Str) (k : Nat) (q1 q2 q3 q4 q5 q6 q7 q8 q9 q10 : Pos) : List Stmt :=
  [.Expr (.Call (.Attribute (.Call (.Name "super" q1) [] [] q2) "__init__" q3) [.Constant (.str t) k q4] [] q5) q6, .Assign [.Attribute (.Name "self" q7) f q8] (.Name f q9) q10]
def iS (f : Str) : Scope := { kind := .function, names := [("self", .local), (f, .local), ("__class__", .free), ("super", .globalImplicit)], isGenerator := false, isCoroutine := false, more := [] }
/-- what the written part says of the class at C (its __init__ at fI, the cell of __class__ at cc, the code at cda) -/
structure OwnTxt (P : Program) (K : Frag) (mg : Str → Option Value) (cn f : Str) (C fI : Addr) : Prop where
  gC : mg cn = some (.ref C)
  gS : mg "super" = none
  cls : ∃ nm q N bs bm sn sub ab col dd k0 k1 k2 k3 k5, K.lookup C = some (excClassObj nm q C N bs bm true sn sub ab col dd k0 k1 k2 k3 k5 "ValueError.__new__") ∧ refsVE bm = true ∧ alongIn K "__init__" bm = some (some (.builtin "ValueError.__init__"))
  sa : findIn K (.ref C) "__setattr__" = some (some (.builtin "object.__setattr__"))
  ga : findIn K (.ref C) "__getattribute__" = some (some (.builtin "BaseException.__getattribute__"))
  gg : findIn K (.ref C) "__getattr__" = some none
  noN : findIn K (.ref C) f = some none
  iC : findIn K (.ref C) "__init__" = some (some (.ref fI))
  tC : typeIn K (.ref fI) = some (.type "function")
  kC : keepIn K (.ref C) = true
  exC : subIn K (.ref C) (.type "BaseException") = some true
  veC : subIn K (.ref C) (.type "ValueError") = some true
  slC : mroIn K C (.ref C) = some true
  tyC : typeIn K (.ref C) = some (.type "type")
  hdC : hasDictIn K C = true
  te : exmOne K (.ref C) (.ref C) = some true
  op : nsIn K cStatics "thirdparty.any" = some none
  top : (P.main.scope.names.lookup ("super" : Str)).isSome = false
  fn : ∃ (qual t : Str) (kk : Nat) (oc : Value) (od : Option Addr) (doc pm : Value) (an : Option Addr) (cda cc : Addr) (ct : Value) (osl : Array (Option Value)) (p1 p2 q1 q2 q3 q4 q5 q6 q7 q8 q9 q10 : Pos),
    K.lookup fI = some ⟨oc, od, .func (ksFn "__init__" qual (iA f p1 p2) (iB f t kk q1 q2 q3 q4 q5 q6 q7 q8 q9 q10) (iS f) .none .none doc pm an (.ref cda) ct cc), osl⟩ ∧ codeIn K (.ref cda) qual = true ∧ (q3.endLine == q5.line) = true ∧
    (∃ ccl cdd vs ccs file tf, K.lookup cda = some ⟨ccl, cdd, .fields vs, ccs⟩ ∧ vs[2]? = some (.str file tf) ∧ ((P.main.file : Str) == file) = true) ∧
    ∃ cl cld csl, K.lookup cc = some ⟨cl, cld, .cell (some (.ref C)), csl⟩
  sc1 : (iS f).names.lookup f = some .local
  sc2 : (iS f).names.lookup ("super" : Str) = some .globalImplicit
  sc3 : (iS f).names.lookup ("__class__" : Str) = some .free
  sc4 : (iS f).names.lookup ("self" : Str) = some .local
  dbg : (f == ("__debug__" : Str)) = false
  bnd : ∀ (qual : Str) (p1 p2 : Pos) (b : List Stmt) (doc pm : Value) (an : Option Addr) (cdv ct : Value) (cc : Addr) (s : Shared) (u v : Value), BindsTo s (ksFn "__init__" qual (iA f p1 p2) b (iS f) .none .none doc pm an cdv ct cc) ⟨[u, v], []⟩ [("self", u), (f, v)]
  lk1 : ∀ (u v : Value), ([("self", u), (f, v)] : List (Str × Value)).reverse.lookup ("self" : Str) = some u
  lk2 : ∀ (u v : Value), ([("self", u), (f, v)] : List (Str × Value)).reverse.lookup f = some v
/-- what __init__ leaves of a fresh exception at x -/
structure InitEnd (f : Str) (h h' : Heap) (x C dx t1 : Addr) (v : Value) : Prop where
  keep : ∀ b o, b ≠ x → h.get? b = some o → h'.get? b = some o
  obj : h'.get? x = some { cls := .ref C, dict := some dx, data := .fields #[.ref t1, .none, .none, .none, .bool false, .none] }
  dbig : h.objs.size ≤ dx
  dne : dx ≠ x
  ns : h'.Ns1 dx (fun y => if y = f then some v else none)
section
variable {prog : Program} {w : World} {A : Around} {E : Value → Shared → Prop} {h : Heap} {g : Array GenState} {d : Drawn} {t : Nat} {os : OsState}
variable {nm q : Str} {C N : Addr} {bs bm : List Value} {hdct : Bool} {sn : List Str} {sub : List Value} {ab : Bool} {col : Option Bool} {dd : Option Addr} {k0 k1 k2 k3 k5 : Option Value}
/-- the bound ValueError.__init__, called -/
theorem q_call_bw {u e t0 : Addr} {rest : List Value} {Q : Value → Shared → Prop}
    (hC : h.get? C = some (excClassObj nm q C N bs bm hdct sn sub ab col dd k0 k1 k2 k3 k5 "ValueError.__new__")) (he : h.get? e = some (excO C t0)) (hu : h.get? u = some (kxs_mw "ValueError.__init__" e)) (hrest : rest.length ≤ sizeLine)
    (hq : ∀ h' t1, (∀ b o, b ≠ e → h.get? b = some o → h'.get? b = some o) → h'.get? e = some (excO C t1) → Q .none ⟨h', g, d, t, os⟩) :
    wpAny (model prog w) A (call (.ref u) rest) Q E ⟨h, g, d, t, os⟩ := by
  have F := F.excBase_ValueError
  refine wpAny_call (codeAny_of_tree ?_)
  show wpAny _ A.in1 (callAny (.ref u) ⟨rest, []⟩) _ _ _
  simp only [callAny]
  refine wpAny_bind (wpAny_load hu ?_)
  simp only [kxs_mw, show (Value.type "method-wrapper" == Value.type "method" || Value.type "method-wrapper" == Value.type "builtin_function_or_method" || Value.type "method-wrapper" == Value.type "method-wrapper") = true by decide, if_true]
  refine KFB.if_so (by decide) ?_
  refine wpAny_bind (check_bound_init F.toExcCallFacts hC he rfl ?_)
  refine wpAny_bind (wpAny_pure (wpAny_pure ?_))
  refine ⟨plainId_quiet F.init.plain _, codeAny_builtin F.initEntry ?_⟩
  rw [Around.under_plainId F.init.plain _]
  wp_walk
  refine hq _ h.objs.size (fun b o hb ho => ?_) ?_
  · rw [Heap.get?_update_other _ _ (Ne.symm hb)]
    exact Heap.get?_push_of_some _ ho
  · rw [Heap.get?_update_self _ (Heap.get?_push_of_some _ he) rfl]
    rfl
end
section
variable {prog : Program} {w : World} {A : Around} {E : Value → Shared → Prop} {R : Result → Shared → Prop} {s : Shared} {K : Frag} {mg : Str → Option Value} {C fI : Addr} {cn f : Str}
theorem one_size (v : Value) : [v].length ≤ sizeLine := by
  rw [sizeLine_eq]
  exact (by decide : 1 ≤ 16777216)
theorem ldX {M : Model} {s : Shared} {env : Env} {m : Str → Option Value} {x : Str} {pos : Pos} {v : Value} {Q : Value → Shared → Prop} {A : Around} {E : Value → Shared → Prop} (hn : s.heap.Ns env.locals m) (hv : m x = some v) (h : Q v s)
    (hk : env.scope.kind = .function) (hl : env.kindOf x = some .local) (hd : (x == ("__debug__" : Str)) = false) : wpAny M A (eval (.Name x pos) env) Q E s := wpAny_Name (wpAny_loadName_local hk hl hn hv h) hd
theorem own_init (T : OwnTxt prog K mg cn f C fI) {x t0 : Addr} {v : Value} (X : K.In s.heap) (hlim : s.heap.NoLimit) (hgl : s.heap.Ns mainGlobals mg) (hbl : ∃ mb, s.heap.Ns builtinsNs mb ∧ ∀ x : Str, x ≠ "__name__" → mb x = bootBuiltins x)
    (hx : s.heap.get? x = some (excO C t0)) (hnx : K.lookup x = none) (hroom : A.depth < recursionLimit)
    (hq : ∀ h' tk dx t1, InitEnd f s.heap h' x C dx t1 v → R (.ok (.ret .none)) { s with heap := h', toks := tk }) :
    codeAny (model prog w) A (.call (.ref fI) ⟨[.ref x, v], []⟩) R s := by
  obtain ⟨qual, tx, kk, oc, od, doc, pm, an, cda, cc, ct, osl, p1, p2, q1, q2, q3, q4, q5, q6, q7, q8, q9, q10, ho, hcd, hl, ⟨ccl, cdd, vs, ccs, file, tf, hcda, hvs, hfile⟩, ⟨cl, cld, csl, hcell⟩⟩ := T.fn
  obtain ⟨nm, q, N, bs, bm, sn, sub, ab, col, dd, k0, k1, k2, k3, k5, hC, hbm, hal⟩ := T.cls
  obtain ⟨mb, hmb, hmb2⟩ := hbl
  have hcl : clsIn K C = some { name := nm, bases := bs, mro := .ref C :: bm, ns := N, qualname := q, hasDict := true, slotNames := sn, subclasses := sub, abstract := ab, collection := col, hasDel := false } := by unfold clsIn; rw [hC] <;> rfl
  refine ks_codeAny_call_defAt (binds := [("self", .ref x), (f, v)]) hroom (X _ _ ho) rfl hlim (PySem.W.codeRec_of X hcd) rfl (T.bnd _ _ _ _ _ _ _ _ _ _ _ _ _) ?hcell ?hloc (fun h₁ hns k => ?_) rfl rfl rfl
  case hcell =>
    intro y hy
    have hy' : y = (("self" : Str), NameKind.local) ∨ y = (f, NameKind.local) ∨ y = (("__class__" : Str), NameKind.free) ∨ y = (("super" : Str), NameKind.globalImplicit) := by
      have z : y ∈ (iS f).names := hy
      simpa [iS] using z
    rcases hy' with e | e | e | e <;> (rw [e]; intro z; cases z)
  case hloc =>
    intro y hy
    have hy' : y = (("self" : Str), Value.ref x) ∨ y = (f, v) := by simpa using hy
    rcases hy' with e | e
    · rw [e]; rfl
    · rw [e]; exact T.sc1
  have hxL : s.heap.objs.size ≠ x := Nat.ne_of_gt (Heap.lt_size hx)
  have X₁ : K.In h₁ := X.keeps k
  have hx₁ := k _ _ hx
  have hC₁ := X₁ _ _ hC
  have lt₁ : s.heap.objs.size < h₁.objs.size := hns.lt
  have hgl₁ : h₁.Ns mainGlobals mg := hgl.keeps k
  have hmb₁ : h₁.Ns builtinsNs mb := hmb.keeps k
  have hsn : mb "super" = some (.type "super") := (hmb2 "super" (by decide)).trans (by first | boot_by_name | rfl | kernel_rfl)
  refine ks_wpAt_execs_cons (ks_wpAt_Expr_any (ks_wpAt_MethodCall (pl := (do return (← importBound (.Call (.Name "super" q1) [] [] q2) (callEnv (ksFn "__init__" qual (iA f p1 p2) (iB f tx kk q1 q2 q3 q4 q5 q6 q7 q8 q9 q10) (iS f) .none .none doc pm an (.ref cda) ct cc) s.heap.objs.size fI)).getD true)) ?_ (by
    rw [arm_eval_Call]
    unfold methodCall methodCallPos
    simp only [hl, Bool.or_true, if_true]
    rfl)) (by rfl) (by rfl))
  refine ks_wpAt_super_base T.sc2 T.sc3 (by decide) rfl (X₁ _ _ ho) rfl (by rfl) rfl (X₁ _ _ hcda) rfl hvs hfile T.top ?_
  refine ks_loadName_global rfl T.sc2 (Calls.loadGlobal_builtin hgl₁ T.gS hmb₁ hsn ⟨rfl, ?_⟩)
  refine wpAny_loadName_free rfl T.sc3 (by rfl) ⟨_, X₁ _ _ hcell, rfl⟩ ?_
  refine wpAny_loadName_local rfl T.sc4 hns (T.lk1 _ _) ?_
  refine ks_wpAny_isType_cls hC₁ rfl ⟨rfl, ?_⟩
  refine ks_wpAny_call_super hC₁ rfl hx₁ rfl (fun c e => by cases e) (looks_mroIn X₁ T.slC) (fun h₂ eso k₂ => ?_)
  have X₂ : K.In h₂ := X₁.keeps k₂
  have I₂ : PySem.W.InstAt h₂ x (excO C t0) C none := ⟨k₂ _ _ hx₁, rfl, rfl, trivial⟩
  have hxC : x ≠ C := fun z => by rw [z, hC] at hnx; cases hnx
  refine kxs_getMethod kxs_ValueError eso (looks_opaque X₂ T.op) (l₀ := .ref C :: bm) (l := bm) (fun A' Q' E' s' k' q' => wpAny_bind ((looks_clsIn X₂ hcl) A' _ E' s' k' (wpAny_pure q'))) (by simp [List.dropWhile_cons]) X₂ hal (I₂.type.andThen (looks_subIn X₂ T.veC)) hxC (by decide) ?_
  refine kxs_callWith (i := "ValueError.__init__") (x := x) (by rfl) ?_
  refine evalArgs_plain (Calls.spliced_cons (Calls.Constant_str (k := kk) (pos := q4) (Calls.spliced_nil ?_)))
  refine ⟨Heap.get?_push_at rfl rfl, ?_⟩
  have hC₃ : (h₂.push (kxs_mw "ValueError.__init__" x)).get? C = some (excClassObj nm q C N bs bm true sn sub ab col dd k0 k1 k2 k3 k5 "ValueError.__new__") := Heap.get?_push_of_some _ (k₂ _ _ hC₁)
  have hx₃ : (h₂.push (kxs_mw "ValueError.__init__" x)).get? x = some (excO C t0) := Heap.get?_push_of_some _ (k₂ _ _ hx₁)
  refine q_call_bw hC₃ hx₃ (Heap.get?_push_at rfl rfl) (one_size _) (fun h₄ t1 k₄ hx₄ => ?_)
  have kall : ∀ b o, b ≠ x → s.heap.get? b = some o → h₄.get? b = some o := fun b o hb e => k₄ b o hb (Heap.get?_push_of_some _ (k₂ _ _ (k _ _ e)))
  have k14 : ∀ b o, b ≠ x → h₁.get? b = some o → h₄.get? b = some o := fun b o hb e => k₄ b o hb (Heap.get?_push_of_some _ (k₂ _ _ e))
  have X₄ : K.In h₄ := fun a o e => by
    by_cases ha : a = x
    · rw [ha, hnx] at e; cases e
    · exact kall a o ha (X a o e)
  have hLx : s.heap.objs.size ≠ x := hxL
  have hns₄ : h₄.Ns s.heap.objs.size fun y => ([(("self" : Str), Value.ref x), (f, v)] : List (Str × Value)).reverse.lookup y := by
    obtain ⟨o, es, ep, e1, r⟩ := hns
    exact ⟨o, es, ep, k14 _ _ hLx e1, r⟩
  have sz₄ : s.heap.objs.size ≤ h₄.objs.size := Nat.le_of_lt hns₄.lt
  refine wpAt_of_wpAny ?_
  refine wpAny_execs_cons (plainObj_wpAny_Assign_Attribute ?_ (by rfl))
  refine ldX hns₄ (T.lk2 _ _) (ldX hns₄ (T.lk1 _ _) ?_ rfl T.sc4 (by decide)) rfl T.sc1 T.dbg
  refine set_plain X₄ (ox := excO C t1) (od := none) ⟨hx₄, rfl, rfl, trivial⟩ T.sa ?_
  refine exc_osa X₄ hx₄ hcl (show refsVE (.ref C :: bm) = true from hbm) rfl T.noN (fun h₅ tk₅ dx k₅ dn dne hx₅ hn₅ => ?_)
  show wpAny _ _ (execs _ _) _ _ _
  exact wpAny_execs_nil (hq h₅ tk₅ dx t1 ⟨fun b o hb e => k₅ b o hb (kall b o hb e), hx₅, Nat.le_trans sz₄ dn, dne, hn₅⟩)
end
/-- a made error -/
structure OwnMade (f : Str) (h h' : Heap) (e C d : Addr) (v : Value) : Prop where
  keep : ∀ b o, h.get? b = some o → h'.get? b = some o
  new : h.objs.size ≤ e
  obj : ∃ oe vs, h'.get? e = some oe ∧ oe.cls = .ref C ∧ oe.dict = some d ∧ oe.data = .fields vs ∧ vs[1]? = some .none
  dbig : h.objs.size ≤ d
  dne : d ≠ e
  ns : h'.Ns1 d (fun y => if y = f then some v else none)
section
variable {prog : Program} {w : World} {A : Around} {R : Result → Shared → Prop} {s : Shared} {K : Frag} {mg : Str → Option Value} {C fI : Addr} {cn f : Str}
theorem own_made (T : OwnTxt prog K mg cn f C fI) {v : Value} (X : K.In s.heap) (hlim : s.heap.NoLimit) (hgl : s.heap.Ns mainGlobals mg) (hbl : ∃ mb, s.heap.Ns builtinsNs mb ∧ ∀ x : Str, x ≠ "__name__" → mb x = bootBuiltins x)
    (hroom : A.depth + 1 < recursionLimit)
    (hq : ∀ h' tk e d, OwnMade f s.heap h' e C d v → R (.ok (.ret (.ref e))) { s with heap := h', toks := tk }) :
    codeAny (model prog w) A (.call (.ref C) ⟨[v], []⟩) R s := by
  obtain ⟨nm, q, N, bs, bm, sn, sub, ab, col, dd, k0, k1, k2, k3, k5, hC, hbm, _⟩ := T.cls
  obtain ⟨mb, hmb, hmb2⟩ := hbl
  obtain ⟨hp, g, dr, tk, os⟩ := s
  have k : ∀ b o, hp.get? b = some o → ((hp.push (kdv_tup [v])).push (excO C hp.objs.size)).get? b = some o := fun b o e => Heap.get?_push_of_some _ (Heap.get?_push_of_some _ e)
  have hget : ((hp.push (kdv_tup [v])).push (excO C hp.objs.size)).get? (hp.objs.size + 1) = some (excO C hp.objs.size) := by heap_get
  have hnx : K.lookup (hp.objs.size + 1) = none := by
    cases e : K.lookup (hp.objs.size + 1) with
    | none => rfl
    | some o =>
      have z : hp.get? (hp.objs.size + 1) = some o := X _ _ e
      exact absurd (Nat.lt_of_succ_lt (Heap.lt_size z)) (Nat.lt_irrefl _)
  refine call_own F.excBase_ValueError (fun X => refsVE_contains X bm hbm) (X _ _ hC) (looks_findIn X T.iC) (fun self => bind_fn X self T.tC) (one_size v) ?_
  refine own_init (s := ⟨(hp.push (kdv_tup [v])).push (excO C hp.objs.size), g, dr, tk, os⟩) T (X.keeps k) (hlim.keeps k) (hgl.keeps k) ⟨mb, hmb.keeps k, hmb2⟩ hget hnx ?_ fun h' tk' dx t1 ⟨k', hx, dn, dne, hns⟩ => ?_
  · show A.depth + 1 < recursionLimit
    exact hroom
  · have old : ∀ b o, hp.get? b = some o → h'.get? b = some o := fun b o e => k' b o (Nat.ne_of_lt (Nat.lt_succ_of_lt (Heap.lt_size e))) (k b o e)
    have z : hp.objs.size + 1 + 1 ≤ dx := by
      first
        | (simpa only [Heap.size_push] using dn)
        | exact dn
        | (have q := dn; rw [Heap.size_push, Heap.size_push] at q; exact q)
    exact ⟨rfl, hq h' tk' (hp.objs.size + 1) dx ⟨old, Nat.le_succ _, ⟨_, _, hx, rfl, rfl, rfl, rfl⟩, Nat.le_trans (Nat.le_trans (Nat.le_succ _) (Nat.le_succ _)) z, dne, hns⟩⟩
end
end QX
end PySem
namespace L2
open PySem PySem.Spec PyProof.Rows
theorem relO_one {f : Str} {v : V} {v' : Value} (r : RelV v v') (g : Str) : RelO (List.lookup g [(f, v)]) (if g = f then some v' else none) := by
  by_cases hw : g = f
  · subst hw
    rw [if_pos rfl]
    have q : List.lookup g [(g, v)] = some v := by simp [List.lookup]
    rw [q]
    exact r
  · rw [if_neg hw]
    have qw : (g == f) = false := by simpa using hw
    have q2 : List.lookup g [(f, v)] = none := by simp [List.lookup, qw]
    rw [q2]
    trivial
section
variable {X : Cx} {C fI : Addr} {cn f : Str}
/-- C(e) -/
def tMkOwn (C : Addr) (f : Str) (ta : TA) : St → Hp → XK → Prop := fun σ H Q => ta σ H fun vs H1 => ∃ v, vs = [v] ∧ ∀ d, H1 d = none → Q (.ref C) (some d) (upd H1 d (.xd [(f, v)]))
theorem pmk_ownS {a : Expr} {ta : TA} {p pos : Pos} {k : Nat} (T : PySem.QX.OwnTxt X.prog X.K X.mg cn f C fI) (hr : Room k X.A) (ha : PA X [a] ta) (hg : Gl X cn) (hdb : (cn == ("__debug__" : Str)) = false := by decide)
    (he : starEach (a :: []) X.env = (false, eval a X.env) :: starEach [] X.env := by rfl) (hpl : (backTo pos (starEach [] X.env)).any (·.1) = false := by rfl) :
    PMk X (.Call (.Name cn p) [a] [] pos) (tMkOwn C f ta) := by
  intro pins s σ H Q I h
  refine wpAny_Call_Name_kw (ld_glob I hg T.gC ?_ hdb)
  refine PySem.W.callWith_K (h₀ := X.base) I.ok.mod.kin T.kC (thn (ha.run pos pins s σ H _ I h) fun us s1 hh => ?_) he hpl
  obtain ⟨vs, H1, I1, r1, v, ev, q1⟩ := hh
  subst ev
  refine ⟨I1.kIn, ?_⟩
  cases r1 with
  | cons rv rn =>
    rename_i v' us'
    cases rn
    show wpAny _ _ (call (.ref C) [v']) _ _ _
    have hlim := I1.nolimit
    have hgl := I1.mod.glob.keeps I1.bk
    have hbl : ∃ mb, s1.heap.Ns builtinsNs mb ∧ ∀ x : Str, x ≠ "__name__" → mb x = bootBuiltins x := by
      obtain ⟨mb, h1, h2⟩ := I1.mod.blt
      exact ⟨mb, h1.keeps I1.bk, h2⟩
    obtain ⟨hp, g, dr, tk, os⟩ := s1
    refine wpAny_call (PySem.QX.own_made T I1.kIn hlim hgl hbl (by have := hr.dp; omega) fun h' tk' e d M => ?_)
    show MkP X pins σ Q (.ref e) ⟨h', g, dr, tk', os⟩
    obtain ⟨oe, fv, hoe, hc, hd, hdat, h1⟩ := M.obj
    have hns := M.ns
    obtain ⟨G', g1, g2⟩ := restrict h' fun b => decide (b ≠ e)
    have gk : ∀ b, b ≠ e → G'.get? b = h'.get? b := fun b hb => g1 b (decide_eq_true hb)
    have ge : G'.get? e = none := g2 e (by simp)
    have old : ∀ b o, hp.get? b = some o → G'.get? b = some o := fun b o q => (gk b (Nat.ne_of_lt (Nat.lt_of_lt_of_le (Heap.lt_size q) M.new))).trans (M.keep b o q)
    have ob : ObjOk X.prog X.w (upd H1 d (.xd [(f, v)])) G' d (.xd [(f, v)]) :=
      ⟨_, hns.at (fun o q => (gk d M.dne).trans q), fun g => relO_one rv g⟩
    have J : Inv X pins σ (upd H1 d (.xd [(f, v)])) ⟨G', g, dr, tk', os⟩ := I1.laid (t' := tk') old M.dbig ob
    refine ⟨e, oe, fv, ⟨G', g, dr, tk', os⟩, _, .ref C, some d, rfl, J, fun b o q => ?_, ge, hoe, ⟨hc, hd⟩, hdat, h1, ?_, rfl, I1.bare, raises_own T.exC T.tyC, q1 d (I1.hok.fresh M.dbig)⟩
    · by_cases hb : b = e
      · have q' : G'.get? b = some o := q
        rw [hb, ge] at q'; cases q'
      · exact (gk b hb).symm.trans q
    · rw [upd_ne (Ne.symm M.dne)]
      exact I1.hok.fresh M.new
/-- raise C(e) -/
def tRaiseS (C : Addr) (f : Str) (W : WX) (ta : TA) : TS := fun _ σ H => tMkOwn C f ta σ H fun cls d H' => W cls d σ H'
theorem ps_raiseS {a : Expr} {ta : TA} {W : WX} {p pos pos2 : Pos} {k : Nat} (hc : X.calm = true) (T : PySem.QX.OwnTxt X.prog X.K X.mg cn f C fI) (hr : Room k X.A) (tk : Takes X W) (ha : PA X [a] ta) (hg : Gl X cn) (hdb : (cn == ("__debug__" : Str)) = false := by decide)
    (he : starEach (a :: []) X.env = (false, eval a X.env) :: starEach [] X.env := by rfl) (hpl : (backTo pos (starEach [] X.env)).any (·.1) = false := by rfl) :
    PS X (.Raise (some (.Call (.Name cn p) [a] [] pos)) none pos2) (tRaiseS C f W ta) := ps_raise hc tk (pmk_ownS T hr ha hg hdb he hpl)
/-- e.f, e the exception that the suite holds (at a; its class cls, its dict d) -/
def tByOwn (C : Addr) (f : Str) (a : Addr) (cls : Value) (d : Option Addr) (te : TE) : TE := fun σ H Q => te σ H fun x H1 => x = .ref a ∧ cls = .ref C ∧ ∃ (dd : Addr) (v : V), d = some dd ∧ H1 dd = some (.xd [(f, v)]) ∧ Q v H1
theorem pe_byOwn {a : Addr} {oe : Obj} {cls : Value} {d : Option Addr} {pn : List (Addr × Obj)} {e : Expr} {te : TE} {pos : Pos} (T : PySem.QX.OwnTxt X.prog X.K X.mg cn f C fI) (hz : Zc cls d oe) (hf : ∃ vs, oe.data = .fields vs) (he : PE (X.suite a ((a, oe) :: pn)) e te)
    (hb : attributeBase e f X.env (eval e X.env) = eval e X.env := by rfl) :
    PE (X.suite a ((a, oe) :: pn)) (.Attribute e f pos) (tByOwn C f a cls d te) := by
  refine ⟨fun pins s σ H Q I h => ?_⟩
  refine attr_of hb (thn (he.run pins s σ H _ I h) fun u s1 hh => ?_)
  obtain ⟨x, H1, I1, rx, ex, ec, dd, v, ed, ea, q⟩ := hh
  subst ex
  obtain rfl : u = Value.ref a := rx
  subst ec
  subst ed
  obtain ⟨ha, _⟩ := I1.pin (a, oe) (List.mem_append_left _ List.mem_cons_self)
  obtain ⟨vs, hd⟩ := hf
  have hx : ObjOk X.prog X.w H1 s1.heap dd (.xd [(f, v)]) := I1.hok dd _ ea
  obtain ⟨mA, hns, hr⟩ := hx
  obtain ⟨od, ho, hl⟩ := lookIn_ns hns
  have l : List.lookup f [(f, v)] = some v := by simp [List.lookup]
  obtain ⟨u, hu, ru⟩ := RelO.some_of (v := v) (o := mA f) (by rw [← l]; exact hr f)
  have J : PySem.W.InstAt s1.heap a oe C (some od) := ⟨ha, hz.1, by unfold PySem.W.notCls; rw [hd] <;> rfl, by rw [hz.2]; exact ho⟩
  exact HandSPX.exc_get I1.kIn J T.ga T.gg T.exC (PySem.W.findObj_own T.hdC T.noN rfl (by rw [hl, hu])) (handed_of ru) ⟨v, H1, I1.tok _, ru, q⟩
end
end L2
namespace L2
open PySem PySem.Spec PyProof.Rows
/-! ### a def that is called -/
structure CF (P : Program) (w : World) (K : PySem.W.Frag) (mg : Str → Option Value) (base : Heap) (CX : CXT) (k : Nat) (x : Str) (ps : List Str) (sp : Sp) : Prop where
  ex : ∃ f fd, FnOk P w K mg base CX k f fd ps sp ∧ mg x = some (.ref f) ∧ PySem.W.keepIn K (.ref f) = true ∧ Binds K fd ps []
section
variable {X : Cx} {CX : CXT} {k : Nat} {ps : List Str} {sp : Sp} {E : XK} {x : Str} {p pos : Pos} {e : Expr} {es : List Expr} {ta : TE} {t : TA}
theorem pe_cf (c : CF X.prog X.w X.K X.mg X.base CX k x ps sp) (hr : Room k X.A) (hx : Passes CX X E) (ha : PA X (e :: es) t) (hg : Gl X x := by rfl)
    (hdb : (x == ("__debug__" : Str)) = false := by decide) (he : starEach (e :: es) X.env = (false, eval e X.env) :: starEach es X.env := by rfl) (hpl : (backTo pos (starEach es X.env)).any (·.1) = false := by rfl) :
    PE X (.Call (.Name x p) (e :: es) [] pos) (tCall sp [] E t) := by
  obtain ⟨f, fd, F, hm, hk, hb⟩ := c.ex
  exact pe_call F hr hg hm hk hb .nil hx ha hdb he hpl
theorem pe_cfS {E : St → XK} (c : CF X.prog X.w X.K X.mg X.base CX k x ps sp) (hr : Room k X.A) (hx : ∀ σ, PassesAt CX X σ (E σ)) (ha : PA X (e :: es) t) (hg : Gl X x := by rfl)
    (hdb : (x == ("__debug__" : Str)) = false := by decide) (he : starEach (e :: es) X.env = (false, eval e X.env) :: starEach es X.env := by rfl) (hpl : (backTo pos (starEach es X.env)).any (·.1) = false := by rfl) :
    PE X (.Call (.Name x p) (e :: es) [] pos) (tCallS sp E t) := by
  obtain ⟨f, fd, F, hm, hk, hb⟩ := c.ex
  exact pe_callS F hr hg hm hk hb hx ha hdb he hpl
end
/-! ### kinds -/
inductive Kd where | non | bl | int | str | lst | tup | dct
  deriving DecidableEq
def Kd.ty : Kd → String
  | .non => "NoneType" | .bl => "bool" | .int => "int" | .str => "str" | .lst => "list" | .tup => "tuple" | .dct => "dict"
/-- x is of that kind -/
inductive IsK (H : Hp) : V → Kd → Prop where
  | non : IsK H .non .non
  | bl (b : Bool) : IsK H (.bl b) .bl
  | int (i : Int) : IsK H (.int i) .int
  | str (z : Str) : IsK H (.str z) .str
  | lst {a : Addr} {xs : List V} (h : H a = some (.lst xs)) : IsK H (.ref a) .lst
  | tup {a : Addr} {xs : List V} (h : H a = some (.tup xs)) : IsK H (.ref a) .tup
  | dct {a : Addr} {kvs : List (Key × V)} (h : H a = some (.dK kvs)) : IsK H (.ref a) .dct
theorem IsK.same {H H' : Hp} (s : Same H H') {x : V} {k : Kd} (h : IsK H x k) : IsK H' x k := by
  cases h with
  | non => exact .non
  | bl b => exact .bl b
  | int i => exact .int i
  | str z => exact .str z
  | lst h => exact .lst (s _ _ h)
  | tup h => exact .tup (s _ _ h)
  | dct h => exact .dct (s _ _ h)
theorem IsK.elt {H : Hp} {x : V} {k : Kd} (h : IsK H x k) : EltV H x := by
  cases h with
  | non => exact .flat rfl
  | bl b => exact .flat rfl
  | int i => exact .flat rfl
  | str z => exact .flat rfl
  | lst h => exact .lst h
  | tup h => exact .tup h
  | dct h => exact .dct h
theorem IsK.tyX {K : PySem.W.Frag} {H : Hp} {x : V} {k : Kd} (h : IsK H x k) : TyX K H x (.type k.ty) := by
  cases h with
  | non => exact .base .non
  | bl b => exact .base (.bl b)
  | int i => exact .base (.int i)
  | str z => exact .base (.str z)
  | lst h => exact .base (.lst h)
  | tup h => exact .base (.tup h)
  | dct h => exact .base (.dK h)
/-- isinstance of a kind -/
def isaB (k : Kd) (T : String) : Bool := match k with
  | .bl => T == "bool" || T == "int"
  | k => T == k.ty
theorem kit_str (k : Kd) : kitB k.ty "str" = some (isaB k "str") := by cases k <;> decide +kernel
theorem kit_tuple (k : Kd) : kitB k.ty "tuple" = some (isaB k "tuple") := by cases k <;> decide +kernel
theorem kit_list (k : Kd) : kitB k.ty "list" = some (isaB k "list") := by cases k <;> decide +kernel
theorem kit_dict (k : Kd) : kitB k.ty "dict" = some (isaB k "dict") := by cases k <;> decide +kernel
theorem kit_int (k : Kd) : kitB k.ty "int" = some (isaB k "int") := by cases k <;> decide +kernel
theorem kit_bool (k : Kd) : kitB k.ty "bool" = some (isaB k "bool") := by cases k <;> decide +kernel
def rIs (T : String) : List V → Hp → VK → Prop := fun xs H Q => ∃ (x : V) (k : Kd), xs = [x, .ty T] ∧ IsK H x k ∧ Q (.bl (isaB k T)) H
section
variable {X : Cx} {p p2 pos : Pos} {e : Expr} {te : TE}
theorem call_is {T : String} (hk : ∀ k : Kd, kitB k.ty T = some (isaB k T)) : CallR X (.builtin "isinstance") (rIs T) := fun pins s σ H xs us Q I r ⟨x, k, ex, ik, q⟩ =>
  call_isi pins s σ H xs us Q I r ⟨x, .ty T, .type k.ty, .type T, isaB k T, ex, .ty T, ik.tyX, kit_ty (hk k), q⟩
theorem pe_isi {T : String} (hk : ∀ k : Kd, kitB k.ty T = some (isaB k T)) (hm : X.mg "isinstance" = none) (hT : X.mg T = none) (he : PE X e te) (hb : bootBuiltins T = some (.type T) := by decide +kernel) (hg : Gl X "isinstance" := by rfl) (hgT : Gl X T := by rfl)
    (hn : (PySem.Str.ofString T) ≠ "__name__" := by decide +kernel) (hd : ((PySem.Str.ofString T) == ("__debug__" : Str)) = false := by decide +kernel)
    (hs : starEach [e, .Name T p2] X.env = (false, eval e X.env) :: starEach [.Name T p2] X.env := by rfl) (hs2 : starEach [.Name T p2] X.env = (false, eval (.Name T p2) X.env) :: starEach [] X.env := by rfl) (hpl : (backTo pos (starEach [.Name T p2] X.env)).any (·.1) = false := by rfl) :
    PE X (.Call (.Name "isinstance" p) [e, .Name T p2] [] pos) (tCB (rIs T) (tCons te (tCons (tC (.ty T)) tNil))) :=
  pe_callB (X := X) (p := p) (pos := pos) (call_is hk) hg hm (by decide +kernel) (pa_cons he (pa_cons (pe_bltn (v := .ty T) hgT hT hb rfl hn hd) pa_nil hs2) hs) (by decide) (by decide) hs hpl
end
/-! ### slices of a list or a tuple -/
def rSlQ (K : PySem.W.Frag) : V → Option Int → Option Int → Hp → VK → Prop := fun x lo hi H Q => ∃ a xs, x = .ref a ∧ ((SqL K H a xs ∧ ∀ p, H p = none → Q (.ref p) (upd H p (.lst (cutV xs lo hi)))) ∨
  (SqT K H a xs ∧ (HT.sIx xs.length 0 lo = 0 ∧ HT.sIx xs.length xs.length hi = xs.length → Q (.ref a) H) ∧ (¬ (HT.sIx xs.length 0 lo = 0 ∧ HT.sIx xs.length xs.length hi = xs.length) → ∀ p, H p = none → Q (.ref p) (upd H p (.tup (cutV xs lo hi))))))
theorem Same.new {H : Hp} {p : Addr} {o : HO} (h : H p = none) : Same H (upd H p o) := fun b u e => by rw [upd_ne (ne_of_none e h)]; exact e
theorem sl_both {X : Cx} : SlR X (fun x lo hi H Q => rSlL X.K x lo hi H Q ∨ rSlA X.K x lo hi H Q) := sl_list.or sl_tupA
theorem cut_take (xs : List V) (i : Nat) (h : i ≤ xs.length) : cutV xs none (some (i : Int)) = xs.take i := by
  unfold cutV
  rw [HT.sIx_none, HT.sIx_nat, List.drop_zero, Nat.sub_zero, Nat.min_eq_left h]
/-- xs[:i], xs a list or a tuple -/
theorem take_both {K : PySem.W.Frag} {H : Hp} {a : Addr} {xs : List V} {i : Nat} {Q : VK} (hq : SqL K H a xs ∨ SqT K H a xs) (hi : i < xs.length) (h : ∀ p H', Same H H' → (SqL K H' p (xs.take i) ∨ SqT K H' p (xs.take i)) → Q (.ref p) H') :
    rSlL K (.ref a) none (some (i : Int)) H Q ∨ rSlA K (.ref a) none (some (i : Int)) H Q := by
  rcases hq with hq | hq
  · refine .inl ⟨a, xs, rfl, hq, fun p hp => h p _ (Same.new hp) (.inl (SqL.of ?_))⟩
    rw [upd_same, cut_take xs i (Nat.le_of_lt hi)]
  · refine .inr ⟨a, xs, rfl, hq, fun z => ?_, fun _ p hp => h p _ (Same.new hp) (.inr (SqT.of ?_))⟩
    · rw [HT.sIx_nat] at z
      have := z.2
      omega
    · rw [upd_same, cut_take xs i (Nat.le_of_lt hi)]
/-! ### names -/
def lowC (c : Nat) : Bool := decide (97 ≤ c) && decide (c ≤ 122)
def nameS (z : Str) : Bool := decide (1 ≤ z.length) && decide (z.length ≤ 8) && z.cps.toList.all lowC
def nameV : V → Bool
  | .str z => nameS z
  | _ => false
/-- the first place of an item that is not right or stands ahead; pre: what stands ahead of the rest -/
def badFrom (ok : V → Bool) : List V → List V → Option Nat
  | _, [] => none
  | pre, x :: r => if ok x && !pre.contains x then badFrom ok (pre ++ [x]) r else some pre.length
theorem badFrom_cons {ok : V → Bool} {pre r : List V} {x : V} : badFrom ok pre (x :: r) = if ok x && !pre.contains x then badFrom ok (pre ++ [x]) r else some pre.length := rfl
theorem badFrom_congr {ok ok' : V → Bool} : ∀ {pre l : List V}, (∀ x ∈ l, ok x = ok' x) → badFrom ok pre l = badFrom ok' pre l
  | _, [], _ => rfl
  | pre, x :: r, h => by
    unfold badFrom
    rw [h x List.mem_cons_self, badFrom_congr (pre := pre ++ [x]) (l := r) fun y hy => h y (List.mem_cons_of_mem _ hy)]
def vOpt : Option Nat → V
  | none => .non
  | some k => .int k
theorem badFrom_none {ok : V → Bool} : ∀ {pre l : List V}, pre.Nodup → badFrom ok pre l = none → (∀ x ∈ l, ok x = true) ∧ (pre ++ l).Nodup
  | pre, [], hn, _ => ⟨fun _ h => (by cases h), by simpa using hn⟩
  | pre, x :: r, hn, h => by
    unfold badFrom at h
    by_cases c : (ok x && !pre.contains x) = true
    · rw [if_pos c] at h
      rw [Bool.and_eq_true] at c
      have hx : x ∉ pre := by
        intro z
        have e : pre.contains x = true := by simpa using z
        rw [e] at c
        exact absurd c.2 (by decide)
      have hn' : (pre ++ [x]).Nodup := by
        rw [List.nodup_append]
        refine ⟨hn, by simp, fun a ha b hb => ?_⟩
        have : b = x := by simpa using hb
        subst this
        intro e
        subst e
        exact hx ha
      have ih := badFrom_none (pre := pre ++ [x]) (l := r) hn' h
      refine ⟨fun y hy => ?_, by simpa using ih.2⟩
      rcases List.mem_cons.mp hy with e | hy
      · rw [e]; exact c.1
      · exact ih.1 y hy
    · rw [if_neg c] at h
      cases h
theorem badFrom_lt {ok : V → Bool} : ∀ {pre l : List V} {k : Nat}, badFrom ok pre l = some k → k < pre.length + l.length
  | pre, [], _, h => by cases h
  | pre, x :: r, k, h => by
    unfold badFrom at h
    by_cases c : (ok x && !pre.contains x) = true
    · rw [if_pos c] at h
      have ih := badFrom_lt h
      simp only [List.length_append, List.length_cons, List.length_nil] at ih ⊢
      omega
    · rw [if_neg c] at h
      cases h
      simp only [List.length_cons]
      omega
theorem strs_of : ∀ {l : List V}, (∀ x ∈ l, nameV x = true) → ∃ zs : List Str, l = zs.map V.str ∧ ∀ z ∈ zs, nameS z = true
  | [], _ => ⟨[], rfl, fun _ h => by cases h⟩
  | x :: r, h => by
    obtain ⟨zs, e, hz⟩ := strs_of (l := r) fun y hy => h y (List.mem_cons_of_mem _ hy)
    have hx := h x List.mem_cons_self
    cases x with
    | str z => exact ⟨z :: zs, by rw [e]; rfl, fun y hy => by
        rcases List.mem_cons.mp hy with q | hy
        · rw [q]; exact hx
        · exact hz y hy⟩
    | _ => cases hx
theorem cmp_low1 (c : Nat) : (!decide (([c] : List Nat) < [97])) = decide (97 ≤ c) := by
  by_cases h : 97 ≤ c
  · have q : ¬ (([c] : List Nat) < [97]) := by
      intro z
      cases z with
      | cons z => cases z
      | rel z => exact absurd z (by omega)
    rw [decide_eq_true h, decide_eq_false q]
    rfl
  · have q : (([c] : List Nat) < [97]) := List.Lex.rel (by omega)
    rw [decide_eq_false h, decide_eq_true q]
    rfl
theorem cmp_low2 (c : Nat) : (!decide (([122] : List Nat) < [c])) = decide (c ≤ 122) := by
  by_cases h : c ≤ 122
  · have q : ¬ (([122] : List Nat) < [c]) := by
      intro z
      cases z with
      | cons z => cases z
      | rel z => exact absurd z (by omega)
    rw [decide_eq_true h, decide_eq_false q]
    rfl
  · have q : (([122] : List Nat) < [c]) := List.Lex.rel (by omega)
    rw [decide_eq_false h, decide_eq_true q]
    rfl
/-- a comprehension's turn that keeps its item -/
theorem lcTurn {te : TE} {σ : St} {H : Hp} {R : VK} {N : Hp → Prop} (h : te σ H R) : tYes σ H (fun b H3 => if b = true then te σ H3 R else N H3) := h
/-! ### heaps -/
/-- all but st as it was -/
def SameBut (st : Addr) (H H' : Hp) : Prop := ∀ b o, b ≠ st → H b = some o → H' b = some o
theorem SameBut.refl (st : Addr) (H : Hp) : SameBut st H H := fun _ _ _ h => h
theorem SameBut.trans {st : Addr} {H H1 H2 : Hp} (a : SameBut st H H1) (b : SameBut st H1 H2) : SameBut st H H2 := fun c o n h => b c o n (a c o n h)
theorem Same.but {H H' : Hp} (s : Same H H') (st : Addr) : SameBut st H H' := fun b o _ h => s b o h
theorem Same.seqT {K : PySem.W.Frag} {H H' : Hp} {a : Addr} {xs : List V} (e : Same H H') (h : SqT K H a xs) : SqT K H' a xs := by
  rcases h with (h | ⟨o, h⟩) | h
  · exact .inl (.inl (e _ _ h))
  · exact .inl (.inr ⟨o, e _ _ h⟩)
  · exact .inr h
/-- a drawing state: a list of two ints -/
def StAt (H : Hp) (st : Addr) : Prop := ∃ n s : Int, H st = some (.lst [.int n, .int s]) ∧ 0 ≤ n ∧ 0 ≤ s ∧ s < 2147483629
theorem SameBut.set {st : Addr} {H : Hp} {o : HO} : SameBut st H (upd H st o) := fun b u n e => by rw [upd_ne n]; exact e
theorem StAt.same {H H' : Hp} {st : Addr} (s : Same H H') (h : StAt H st) : StAt H' st := by
  obtain ⟨n, z, e, r⟩ := h
  exact ⟨n, z, s _ _ e, r⟩
/-! ### names are unlike each other -/
theorem nodup_sub_length {α : Type} [DecidableEq α] : ∀ {l m : List α}, l.Nodup → (∀ x ∈ l, x ∈ m) → l.length ≤ m.length
  | [], _, _, _ => Nat.zero_le _
  | x :: l, m, hn, h => by
    obtain ⟨hx, hl⟩ := List.nodup_cons.mp hn
    have hm : x ∈ m := h x List.mem_cons_self
    have ih := nodup_sub_length (l := l) (m := m.erase x) hl fun y hy => by
      have hne : y ≠ x := fun e => hx (e ▸ hy)
      exact (List.mem_erase_of_ne hne).mpr (h y (List.mem_cons_of_mem _ hy))
    rw [List.length_erase_of_mem hm] at ih
    have : 0 < m.length := List.length_pos_of_mem hm
    simp only [List.length_cons]
    omega
/-! ### for x in xs, xs a list or a tuple -/
def iSeq (K : PySem.W.Frag) (i : Nat) : TI := fun σ H R => ∃ (a : Addr) (xs : List V), σ[i]? = some (some (.ref a)) ∧ (SqL K H a xs ∨ SqT K H a xs) ∧ ∀ (J : It) (G : Hp → Prop), Walk J xs.length G (YAt xs) → (∀ H', Same H H' → G H') → R J H
theorem pi_seq {X : Cx} {tg : Expr} (i : Nat) {x : Str} {pos : Pos} (hN : X.N[i]? = some x := by rfl) (hv : Vis X.env.scope x := by first | exact Or.inl rfl | exact Or.inr (Or.inl rfl) | exact Or.inr (Or.inr rfl)) (hd : (x == ("__debug__" : Str)) = false := by decide)
    (hcd : (x == ("__classdict__" : Str)) = false := by decide) : PI X tg (.Name x pos) (iSeq X.K i) := by
  refine ⟨fun pins s σ H R I h => ?_⟩
  obtain ⟨a, xs, e, hq, key⟩ := h
  rcases hq with hq | hq
  · exact (pi_list (pe_var hN hv hd hcd)).run pins s σ H R I ⟨_, e, a, rfl, ⟨xs, hq⟩, key _ _ walk_list fun H' s => s.seq hq⟩
  · exact (pi_tup (pe_var hN hv hd hcd)).run pins s σ H R I ⟨_, e, a, rfl, ⟨xs, hq⟩, key _ _ walk_tup fun H' s => s.seqT hq⟩
def hasB (kvs : List (Key × V)) (ss : List Str) : Bool := decide (kvs.length = ss.length) && ss.all fun z => (valV kvs (Sum.inr z)).isSome
/-- an item of a list or tuple that is asked -/
def GoodE (H : Hp) (x : V) : Prop := (∃ k, IsK H x k) ∧ ∀ z, x = .str z → z.length ≤ 1000
theorem GoodE.same {H H' : Hp} (s : Same H H') {x : V} (h : GoodE H x) : GoodE H' x := ⟨h.1.imp fun _ q => q.same s, h.2⟩
theorem GoodE.elt {H : Hp} {x : V} (h : GoodE H x) : EltV H x := by
  obtain ⟨⟨k, q⟩, _⟩ := h
  exact q.elt
theorem GoodE.str {H : Hp} {z : Str} (h : z.length ≤ 1000) : GoodE H (.str z) := ⟨⟨_, .str z⟩, fun y e => by
  cases e
  exact h⟩
end L2
namespace L2
open PySem PySem.Spec PyProof.Rows
/-- a dict comprehension over it -/
theorem dc_it {J : It} {n : Nat} {G : Hp → Prop} {Y : Nat → Hp → V → Hp → Prop} (w : Walk J n G Y) {g : TG} {tt : TT} {tk tv : TE} {vs : List Nat} {σ : St} {H1 : Hp} {D : Addr} {Qd : Hp → Prop} (Pv : Nat → Hp → Prop) (h0 : Pv 0 (upd H1 D (.dK []))) (hG : ∀ i H, i ≤ n → Pv i H → G H)
    (hs : ∀ i x H H', i < n → Pv i H → Y i H x H' → g x (wipe σ vs) H' fun σ2 H2 => wipe σ2 vs = wipe σ vs ∧ tt σ2 H2 fun b H3 =>
      if b = true then tk σ2 H3 fun y H4 => tv σ2 H4 fun z H5 => ∃ kvs k, y = kV k ∧ H5 D = some (.dK kvs) ∧ kvs.length < sizeLine ∧ Pv (i + 1) (upd H5 D (.dK (putK kvs k z))) else Pv (i + 1) H3) (hd : ∀ H, Pv n H → Qd H) :
    ∃ W : Nat → Nat → Hp → Prop, (∃ m, W 0 m (upd H1 D (.dK []))) ∧ ∀ i m H, W i m H →
      (J.stop i H ∧ Qd H) ∨ (J.go i H ∧ ∃ Nx : Hp → Prop, (∀ H', Nx H' → ∃ m', m' < m ∧ W (i + 1) m' H') ∧ ∀ x H', J.yld i H x H' → g x (wipe σ vs) H' fun σ2 H2 => wipe σ2 vs = wipe σ vs ∧ tt σ2 H2 fun b H3 =>
        if b = true then tk σ2 H3 fun y H4 => tv σ2 H4 fun z H5 => ∃ kvs k, y = kV k ∧ H5 D = some (.dK kvs) ∧ kvs.length < sizeLine ∧ Nx (upd H5 D (.dK (putK kvs k z))) else Nx H3) := by
  refine ⟨fun i m H => m = n - i ∧ i ≤ n ∧ Pv i H, ⟨n, by simp, Nat.zero_le _, h0⟩, ?_⟩
  rintro i m H ⟨rfl, hi, p⟩
  have q := hG i H hi p
  by_cases hlt : i < n
  · exact .inr ⟨w.goes i H hlt q, Pv (i + 1), fun H' p' => ⟨n - (i + 1), by omega, rfl, hlt, p'⟩, fun x H' y => hs i x H H' hlt p (w.yields i H x H' hlt q y)⟩
  · have e : i = n := by omega
    subst e
    exact .inl ⟨w.stops H q, hd H p⟩
theorem dcTurn {tk tv : TE} {σ : St} {H : Hp} {R : V → VK} {N : Hp → Prop} (h : tk σ H fun y H4 => tv σ H4 (R y)) : tYes σ H (fun b H3 => if b = true then tk σ H3 (fun y H4 => tv σ H4 (R y)) else N H3) := h
/-- a dict from names to objects -/
def RowsG (H : Hp) (d : Addr) (ps : List Str) (cnt : Str → HO) : Prop := ∃ ad : Str → Addr, H d = some (.dK (ps.map fun a => (Sum.inr a, V.ref (ad a)))) ∧ ∀ a ∈ ps, H (ad a) = some (cnt a) ∧ ad a ≠ d
theorem RowsG.same {H H' : Hp} (s : Same H H') {d : Addr} {ps : List Str} {cnt : Str → HO} (h : RowsG H d ps cnt) : RowsG H' d ps cnt := by
  obtain ⟨ad, e, q⟩ := h
  exact ⟨ad, s _ _ e, fun a ha => ⟨s _ _ (q a ha).1, (q a ha).2⟩⟩
theorem RowsG.nil {H : Hp} {d : Addr} {cnt : Str → HO} (h : H d = some (.dK [])) : RowsG H d [] cnt := ⟨fun _ => 0, h, fun _ h => by cases h⟩
theorem valV_rows {ad : Str → Addr} : ∀ {ps : List Str} {a : Str}, a ∈ ps → valV (ps.map fun a => ((Sum.inr a : Key), V.ref (ad a))) (Sum.inr a) = some (.ref (ad a))
  | [], _, h => by cases h
  | b :: ps, a, h => by
    rw [List.map_cons]
    by_cases e : b = a
    · rw [valV_pos (by rw [e]), e]
    · rw [valV_neg (fun q => e (Sum.inr.inj q))]
      refine valV_rows ?_
      rcases List.mem_cons.mp h with q | q
      · exact absurd q.symm e
      · exact q
theorem valV_rows_none {ad : Str → Addr} : ∀ {ps : List Str} {a : Str}, a ∉ ps → valV (ps.map fun a => ((Sum.inr a : Key), V.ref (ad a))) (Sum.inr a) = none
  | [], _, _ => rfl
  | b :: ps, a, h => by
    rw [List.map_cons, valV_neg (fun q => h (by rw [Sum.inr.inj q]; exact List.mem_cons_self))]
    exact valV_rows_none fun q => h (List.mem_cons_of_mem _ q)
theorem RowsG.snoc {H H1 : Hp} {D p : Addr} {qs : List Str} {cnt : Str → HO} {a : Str} (R : RowsG H D qs cnt) (s : Same H H1) (ha : a ∉ qs) (hp : H1 p = some (cnt a)) (hpd : p ≠ D) :
    ∃ kvs, H1 D = some (.dK kvs) ∧ kvs.length = qs.length ∧ RowsG (upd H1 D (.dK (putK kvs (Sum.inr a) (.ref p)))) D (qs ++ [a]) cnt := by
  obtain ⟨ad, e, q⟩ := R
  refine ⟨_, s _ _ e, by rw [List.length_map], fun x => if x = a then p else ad x, ?_, fun x hx => ?_⟩
  · rw [upd_same, putK_new _ (valV_rows_none ha), List.map_append]
    have e1 : (qs.map fun x => ((Sum.inr x : Key), V.ref (if x = a then p else ad x))) = qs.map fun x => (Sum.inr x, V.ref (ad x)) := by
      refine List.map_congr_left fun x hx => ?_
      rw [if_neg (fun z : x = a => ha (z ▸ hx))]
    rw [e1]
    simp
  · by_cases hxa : x = a
    · subst hxa
      show upd H1 D _ (if x = x then p else ad x) = some (cnt x) ∧ (if x = x then p else ad x) ≠ D
      rw [if_pos rfl, upd_ne hpd]
      exact ⟨hp, hpd⟩
    · show upd H1 D _ (if x = a then p else ad x) = some (cnt x) ∧ (if x = a then p else ad x) ≠ D
      rw [if_neg hxa]
      have hx' : x ∈ qs := by
        rcases List.mem_append.mp hx with h | h
        · exact h
        · exact absurd (by simpa using h) hxa
      rw [upd_ne (q x hx').2]
      exact ⟨s _ _ (q x hx').1, (q x hx').2⟩
/-- a list of texts, as it stands -/
def lstO (ss : List Str) : HO := .lst (ss.map V.str)
/-- a dict of indexes -/
def rnkO (ss : List Str) : HO := .dK (ss.zipIdx.map fun q => (Sum.inr q.1, V.int (q.2 : Nat)))
def opn (ws : Str → List Str) (a : Str) : List Str := (ws a).filter fun b => decide (a ∈ ws b)
theorem take_snoc {α : Type} {l : List α} {i : Nat} {x : α} (h : l[i]? = some x) : l.take (i + 1) = l.take i ++ [x] := by
  rw [List.take_add_one, h]
  rfl
theorem not_mem_take {α : Type} {l : List α} (hn : l.Nodup) {i : Nat} {x : α} (h : l[i]? = some x) : x ∉ l.take i := by
  intro hm
  obtain ⟨j, hj⟩ := List.mem_iff_getElem?.mp hm
  have hji : j < i := by
    have := (List.getElem?_eq_some_iff.mp hj).1
    rw [List.length_take] at this
    omega
  rw [List.getElem?_take_of_lt hji] at hj
  have := nd_ix hn hj h
  omega
/-! ### the scope of a comprehension -/
def cScope (e : Expr) : Scope := match e with
  | .DictComp _ _ _ sc _ => sc
  | .ListComp _ _ sc _ => sc
  | _ => { kind := .function, names := [], isGenerator := false, isCoroutine := false }
def retE (b : List Stmt) (i : Nat) : Expr := match b.getD i (.Pass ⟨0, 0, 0, 0⟩) with
  | .Return (some e) _ => e
  | .Assign _ e _ => e
  | .Expr e _ => e
  | _ => .Constant .none 0 ⟨0, 0, 0, 0⟩
theorem lookup_rel {env : Env} : ∀ {names : List (Str × NameKind)} {x : Str}, names.lookup x = some .cell ∨ names.lookup x = some .free →
    (names.map fun (n, k) => if (k == NameKind.free && env.scope.kind == .function && env.kindOf n == some .cell) then (n, NameKind.cell) else (n, k)).lookup x = some .cell ∨
    (names.map fun (n, k) => if (k == NameKind.free && env.scope.kind == .function && env.kindOf n == some .cell) then (n, NameKind.cell) else (n, k)).lookup x = some .free
  | [], _, h => by simp at h
  | (n, k) :: r, x, h => by
    have ih := @lookup_rel env r x
    rw [List.map_cons]
    by_cases e : x = n
    · subst e
      have hk : k = .cell ∨ k = .free := by simpa [List.lookup] using h
      by_cases c : (k == NameKind.free && env.scope.kind == .function && env.kindOf x == some .cell) = true
      · refine .inl ?_
        simp only [if_pos c]
        simp [List.lookup]
      · simp only [if_neg c]
        rcases hk with hk | hk
        · exact .inl (by simp [List.lookup, hk])
        · exact .inr (by simp [List.lookup, hk])
    · have e' : (x == n) = false := by simpa using e
      have h' : r.lookup x = some .cell ∨ r.lookup x = some .free := by simpa [List.lookup, e'] using h
      have q := ih h'
      by_cases c : (k == NameKind.free && env.scope.kind == .function && env.kindOf n == some .cell) = true
      · simp only [if_pos c]
        simpa [List.lookup, e'] using q
      · simp only [if_neg c]
        simpa [List.lookup, e'] using q
/-- a comprehension within a comprehension -/
theorem BlkOk.rel {N : List Str} {sc scope : Scope} {own : List (Str × Nat)} {env : Env} (h : BlkOk N sc scope own) : BlkOk N (relabel sc env) scope own :=
  ⟨h.kind, h.uniq, h.ix, fun y hy e => lookup_rel (h.free y hy e), h.own⟩
/-! ### rules that name the written part, for a block within a block -/
section
variable {X : Cx} {K : PySem.W.Frag}
theorem pi_listK {tg e : Expr} {te : TE} (hK : X.K = K) (he : PE X e te) : PI X tg e (iList K te) := by
  subst hK
  exact pi_list he
theorem op_inSK (hK : X.K = K) (hu : X.A.units + 64 < cLine) : OpR X (compareOp .In) (rInS K false) := by
  subst hK
  exact op_inS hu
theorem pi_enumK {e : Expr} {ta : TA} {p pos tpos : Pos} {elts : List Expr} {kk : Nat} (hK : X.K = K) (hg : Gl X "enumerate") (hm : X.mg "enumerate" = none) (ha : PA X [e] ta) (hs : starEach [e] X.env = [(false, eval e X.env)] := by rfl) :
    PI X (.Tuple elts kk tpos) (.Call (.Name "enumerate" p) [e] [] pos) (iEnumT K ta) := by
  subst hK
  exact pi_enumT hg hm ha hs
theorem pg_tupK {es : List Expr} {k : Nat} {t : TGs} {n : Nat} {pos : Pos} (hK : X.K = K) (hc : X.calm = true) (h : PGs X es t)
    (hn : (assignEach es X.env).length = n := by rfl) (hst : (assignEach es X.env).findIdx? (·.1) = none := by rfl) : PG X (.Tuple es k pos) (gTup K n t) := by
  subst hK
  exact pg_tup hc h hn hst
end
theorem valV_rnk_none : ∀ {ss : List Str} {k : Nat} {a : Str}, a ∉ ss → valV ((ss.zipIdx k).map fun q => ((Sum.inr q.1 : Key), V.int (q.2 : Nat))) (Sum.inr a) = none
  | [], _, _, _ => rfl
  | b :: ss, k, a, h => by
    rw [List.zipIdx_cons, List.map_cons, valV_neg (fun q => h (by
      have e : b = a := Sum.inr.inj q
      rw [e]; exact List.mem_cons_self))]
    exact valV_rnk_none fun q => h (List.mem_cons_of_mem _ q)
theorem zip_snoc {ss : List Str} {b : Str} : ((ss ++ [b]).zipIdx.map fun q => ((Sum.inr q.1 : Key), V.int (q.2 : Nat))) = (ss.zipIdx.map fun q => ((Sum.inr q.1 : Key), V.int (q.2 : Nat))) ++ [(Sum.inr b, V.int (ss.length : Nat))] := by
  rw [List.zipIdx_append, List.map_append]
  simp
theorem call_listK {X : Cx} {K : PySem.W.Frag} (hK : X.K = K) : CallR X (.type "list") (fun xs H Q => ∃ p ys, xs = [.ref p] ∧ (SqL K H p ys ∨ SqT K H p ys) ∧ ∀ l, H l = none → Q (.ref l) (upd H l (.lst ys))) := by
  subst hK
  exact call_list_of
end L2
namespace L2
open PySem PySem.Spec PyProof.Rows
/-- no dict, whatever it is -/
def NotD (K : PySem.W.Frag) (H : Hp) (x : V) : Prop := ∀ H', Same H H' → ∃ t, TyX K H' x t ∧ PySem.W.kitOne K t (.type "dict") = some false
theorem NotD.same {K : PySem.W.Frag} {H H' : Hp} (s : Same H H') {x : V} (h : NotD K H x) : NotD K H' x := fun H2 s2 => h H2 (s.trans s2)
def rNotD (K : PySem.W.Frag) : List V → Hp → VK → Prop := fun xs H Q => ∃ x : V, xs = [x, .ty "dict"] ∧ NotD K H x ∧ Q (.bl false) H
section
variable {X : Cx} {p p2 pos : Pos} {e : Expr} {te : TE}
theorem call_notD : CallR X (.builtin "isinstance") (rNotD X.K) := fun pins s σ H xs us Q I r ⟨x, ex, hx, q⟩ => by
  obtain ⟨t, h1, h2⟩ := hx H (Same.refl H)
  exact call_isi pins s σ H xs us Q I r ⟨x, .ty "dict", t, .type "dict", false, ex, .ty "dict", h1, h2, q⟩
/-- isinstance(e, dict), e of a kind or no dict at all -/
theorem pe_isiD (hm : X.mg "isinstance" = none) (hT : X.mg "dict" = none) (he : PE X e te) (hg : Gl X "isinstance" := by rfl) (hgT : Gl X "dict" := by rfl)
    (hs : starEach [e, .Name "dict" p2] X.env = (false, eval e X.env) :: starEach [.Name "dict" p2] X.env := by rfl) (hs2 : starEach [.Name "dict" p2] X.env = (false, eval (.Name "dict" p2) X.env) :: starEach [] X.env := by rfl) (hpl : (backTo pos (starEach [.Name "dict" p2] X.env)).any (·.1) = false := by rfl) :
    PE X (.Call (.Name "isinstance" p) [e, .Name "dict" p2] [] pos) (tCB (fun xs H Q => rIs "dict" xs H Q ∨ rNotD X.K xs H Q) (tCons te (tCons (tC (.ty "dict")) tNil))) :=
  pe_callB (X := X) (p := p) (pos := pos) ((call_is kit_dict).or call_notD) hg hm (by decide +kernel) (pa_cons he (pa_cons (pe_bltn (v := .ty "dict") hgT hT (by decide +kernel) rfl (by decide +kernel) (by decide +kernel)) pa_nil hs2) hs) (by decide) (by decide) hs hpl
end
end L2
namespace Qp
open PySem L2
def topS (i : Nat) : Stmt := PySem.Challenge.pw_quietpairs_k09_other_names.main.body.getD i (.Pass ⟨0, 0, 0, 0⟩)
abbrev swall : Stmt := topS 0
abbrev scopied : Stmt := topS 2
abbrev sBadPeopleinit : Stmt := inClass (topS 4) 0
abbrev sBadWishesinit : Stmt := inClass (topS 5) 0
abbrev sBadNamesinit : Stmt := inClass (topS 6) 0
abbrev sNoPersoninit : Stmt := inClass (topS 7) 0
abbrev sisname : Stmt := topS 9
abbrev shaskeys : Stmt := topS 10
abbrev sbadindex : Stmt := topS 11
abbrev sislot : Stmt := topS 12
abbrev scheckpeople : Stmt := topS 15
abbrev scheckwishes : Stmt := topS 16
abbrev sopenrows : Stmt := topS 17
abbrev srankrows : Stmt := topS 18
abbrev sGroupinit : Stmt := inClass (topS 19) 0
abbrev sGrouppeople : Stmt := inClass (topS 19) 1
abbrev sGroupwishes : Stmt := inClass (topS 19) 2
abbrev sGroupopento : Stmt := inClass (topS 19) 3
abbrev sGrouprank : Stmt := inClass (topS 19) 4
abbrev sGrouppairs : Stmt := inClass (topS 19) 5
abbrev sGroupwithwishes : Stmt := inClass (topS 19) 6
abbrev sGroupwithout : Stmt := inClass (topS 19) 7
abbrev sGroupjoined : Stmt := inClass (topS 19) 8
abbrev sGrouprenamed : Stmt := inClass (topS 19) 9
abbrev sGroupinside : Stmt := inClass (topS 19) 10
abbrev sGroupoutside : Stmt := inClass (topS 19) 11
abbrev sGroupexchanged : Stmt := inClass (topS 19) 12
abbrev sGroupstruck : Stmt := inClass (topS 19) 13
abbrev sGrouplen : Stmt := inClass (topS 19) 14
abbrev sGroupcontains : Stmt := inClass (topS 19) 15
abbrev sGroupgetitem : Stmt := inClass (topS 19) 16
abbrev sGroupiter : Stmt := inClass (topS 19) 17
abbrev sGroupeq : Stmt := inClass (topS 19) 18
abbrev sGrouphas : Stmt := inClass (topS 19) 19
abbrev sGroupcheckperson : Stmt := inClass (topS 19) 20
abbrev sGroupcheckopen : Stmt := inClass (topS 19) 21
abbrev sGroupcheckplaces : Stmt := inClass (topS 19) 22
abbrev sGroupchecknames : Stmt := inClass (topS 19) 23
abbrev sGroupchecklot : Stmt := inClass (topS 19) 24
abbrev sGroupwithrow : Stmt := inClass (topS 19) 25
abbrev sGroupwithonly : Stmt := inClass (topS 19) 26
abbrev sLcell : Stmt := topS 21
abbrev sLtake : Stmt := topS 22
abbrev sLname : Stmt := topS 23
abbrev sLnames : Stmt := topS 24
abbrev sLmixed : Stmt := topS 25
abbrev sLothers : Stmt := topS 26
abbrev sLblockwishes : Stmt := topS 27
abbrev sLsidewishes : Stmt := topS 28
abbrev sLplainwishes : Stmt := topS 29
abbrev sLwishes : Stmt := topS 30
abbrev sLgroup : Stmt := topS 31
abbrev sLcopy : Stmt := topS 32
abbrev sLrow : Stmt := topS 33
abbrev sLisname : Stmt := topS 34
abbrev sLvalue : Stmt := topS 35
abbrev sLmodel : Stmt := topS 36
abbrev sLshows : Stmt := topS 37
abbrev sLtruth : Stmt := topS 38
abbrev sLdue : Stmt := topS 39
abbrev slaw : Stmt := topS 40
theorem scisname : FnScope ["value", "letter"] ["value"] (defScope sisname) := ⟨rfl, rfl, rfl, by decide +kernel, rfl, by decide +kernel, by decide +kernel⟩
theorem schaskeys : FnScope ["value", "names", "name"] ["value", "names"] (defScope shaskeys) := ⟨rfl, rfl, rfl, by decide +kernel, rfl, by decide +kernel, by decide +kernel⟩
theorem scbadindex : FnScope ["items", "names", "index", "item"] ["items", "names"] (defScope sbadindex) := ⟨rfl, rfl, rfl, by decide +kernel, rfl, by decide +kernel, by decide +kernel⟩
theorem scislot : FnScope ["value", "names"] ["value", "names"] (defScope sislot) := ⟨rfl, rfl, rfl, by decide +kernel, rfl, by decide +kernel, by decide +kernel⟩
theorem sccheckpeople : FnScope ["people", "index", "person"] ["people"] (defScope scheckpeople) := ⟨rfl, rfl, rfl, by decide +kernel, rfl, by decide +kernel, by decide +kernel⟩
theorem sccheckwishes : FnScope ["people", "wishes", "person", "other"] ["people", "wishes"] (defScope scheckwishes) := ⟨rfl, rfl, rfl, by decide +kernel, rfl, by decide +kernel, by decide +kernel⟩
theorem scopenrows : FnScope ["wishes", "a", "b"] ["wishes"] (defScope sopenrows) := ⟨rfl, rfl, rfl, by decide +kernel, rfl, by decide +kernel, by decide +kernel⟩
theorem scrankrows : FnScope ["rows", "a", "index", "b"] ["rows"] (defScope srankrows) := ⟨rfl, rfl, rfl, by decide +kernel, rfl, by decide +kernel, by decide +kernel⟩
theorem scGroupinit : FnScope ["self", "people", "wishes", "a"] ["self", "people", "wishes"] (defScope sGroupinit) := ⟨rfl, rfl, rfl, by decide +kernel, rfl, by decide +kernel, by decide +kernel⟩
theorem scGrouppeople : FnScope ["self"] ["self"] (defScope sGrouppeople) := ⟨rfl, rfl, rfl, by decide +kernel, rfl, by decide +kernel, by decide +kernel⟩
theorem scGroupwishes : FnScope ["self", "a"] ["self", "a"] (defScope sGroupwishes) := ⟨rfl, rfl, rfl, by decide +kernel, rfl, by decide +kernel, by decide +kernel⟩
theorem scGrouprenamed : FnScope ["self", "names", "people", "a", "b"] ["self", "names"] (defScope sGrouprenamed) := ⟨rfl, rfl, rfl, by decide +kernel, rfl, by decide +kernel, by decide +kernel⟩
theorem scGroupeq : FnScope ["self", "other"] ["self", "other"] (defScope sGroupeq) := ⟨rfl, rfl, rfl, by decide +kernel, rfl, by decide +kernel, by decide +kernel⟩
theorem scGrouphas : FnScope ["self", "value"] ["self", "value"] (defScope sGrouphas) := ⟨rfl, rfl, rfl, by decide +kernel, rfl, by decide +kernel, by decide +kernel⟩
theorem scGroupcheckperson : FnScope ["self", "value"] ["self", "value"] (defScope sGroupcheckperson) := ⟨rfl, rfl, rfl, by decide +kernel, rfl, by decide +kernel, by decide +kernel⟩
theorem scGroupchecknames : FnScope ["self", "names", "taken", "a"] ["self", "names"] (defScope sGroupchecknames) := ⟨rfl, rfl, rfl, by decide +kernel, rfl, by decide +kernel, by decide +kernel⟩
theorem scLcell : FnScope ["_law_script", "_law_k", "_law_number", "_law_seed"] ["_law_script", "_law_k"] (defScope sLcell) := ⟨rfl, rfl, rfl, by decide +kernel, rfl, by decide +kernel, by decide +kernel⟩
theorem scLtake : FnScope ["_law_state", "_law_many", "_law_digit", "_law_mixed_here"] ["_law_state", "_law_many"] (defScope sLtake) := ⟨rfl, rfl, rfl, by decide +kernel, rfl, by decide +kernel, by decide +kernel⟩
theorem scLname : FnScope ["_law_state", "_law_taken", "_law_letters", "_law_size", "_law_k", "_law_name_here", "_law_last", "_law_other"] ["_law_state", "_law_taken"] (defScope sLname) := ⟨rfl, rfl, rfl, by decide +kernel, rfl, by decide +kernel, by decide +kernel⟩
theorem scLnames : FnScope ["_law_state", "_law_many", "_law_names_here", "_law_k"] ["_law_state", "_law_many"] (defScope sLnames) := ⟨rfl, rfl, rfl, by decide +kernel, rfl, by decide +kernel, by decide +kernel⟩
theorem scLmixed : FnScope ["_law_state", "_law_items", "_law_pool", "_law_row_here", "_law_k"] ["_law_state", "_law_items"] (defScope sLmixed) := ⟨rfl, rfl, rfl, by decide +kernel, rfl, by decide +kernel, by decide +kernel⟩
theorem scLothers : FnScope ["_law_names_here", "_law_a", "_law_b"] ["_law_names_here", "_law_a"] (defScope sLothers) := ⟨rfl, rfl, rfl, by decide +kernel, rfl, by decide +kernel, by decide +kernel⟩
theorem scLblockwishes : FnScope ["_law_state", "_law_names_here", "_law_order", "_law_wishes_here", "_law_at", "_law_turn", "_law_size", "_law_block", "_law_k", "_law_ring", "_law_head", "_law_tail", "_law_b"] ["_law_state", "_law_names_here"] (defScope sLblockwishes) := ⟨rfl, rfl, rfl, by decide +kernel, rfl, by decide +kernel, by decide +kernel⟩
theorem scLsidewishes : FnScope ["_law_state", "_law_names_here", "_law_order", "_law_left", "_law_right", "_law_turned", "_law_wishes_here", "_law_k"] ["_law_state", "_law_names_here"] (defScope sLsidewishes) := ⟨rfl, rfl, rfl, by decide +kernel, rfl, by decide +kernel, by decide +kernel⟩
theorem scLplainwishes : FnScope ["_law_state", "_law_names_here", "_law_mode", "_law_order", "_law_wishes_here", "_law_k", "_law_others_here", "_law_b"] ["_law_state", "_law_names_here", "_law_mode"] (defScope sLplainwishes) := ⟨rfl, rfl, rfl, by decide +kernel, rfl, by decide +kernel, by decide +kernel⟩
theorem scLwishes : FnScope ["_law_state", "_law_names_here", "_law_mode"] ["_law_state", "_law_names_here"] (defScope sLwishes) := ⟨rfl, rfl, rfl, by decide +kernel, rfl, by decide +kernel, by decide +kernel⟩
theorem scLgroup : FnScope ["_law_state", "_law_top", "_law_names_here", "_law_wishes_here"] ["_law_state", "_law_top"] (defScope sLgroup) := ⟨rfl, rfl, rfl, by decide +kernel, rfl, by decide +kernel, by decide +kernel⟩
theorem scLcopy : FnScope ["_law_wishes_here", "_law_copy_here", "_law_a"] ["_law_wishes_here"] (defScope sLcopy) := ⟨rfl, rfl, rfl, by decide +kernel, rfl, by decide +kernel, by decide +kernel⟩
theorem scLrow : FnScope ["_law_actual", "_law_due_here"] ["_law_actual", "_law_due_here"] (defScope sLrow) := ⟨rfl, rfl, rfl, by decide +kernel, rfl, by decide +kernel, by decide +kernel⟩
theorem scLisname : FnScope ["_law_value_here", "_law_letter"] ["_law_value_here"] (defScope sLisname) := ⟨rfl, rfl, rfl, by decide +kernel, rfl, by decide +kernel, by decide +kernel⟩
theorem scLvalue : FnScope ["_law_state", "_law_deep", "_law_k", "_law_values"] ["_law_state"] (defScope sLvalue) := ⟨rfl, rfl, rfl, by decide +kernel, rfl, by decide +kernel, by decide +kernel⟩
theorem scLmodel : FnScope ["_law_names_here", "_law_wishes_here", "_law_rows", "_law_a"] ["_law_names_here", "_law_wishes_here"] (defScope sLmodel) := ⟨rfl, rfl, rfl, by decide +kernel, rfl, by decide +kernel, by decide +kernel⟩
theorem scLshows : FnScope ["_law_group_here", "_law_rows", "_law_a"] ["_law_group_here"] (defScope sLshows) := ⟨rfl, rfl, rfl, by decide +kernel, rfl, by decide +kernel, by decide +kernel⟩
theorem scLtruth : FnScope ["_law_actual", "_law_due_here"] ["_law_actual", "_law_due_here"] (defScope sLtruth) := ⟨rfl, rfl, rfl, by decide +kernel, rfl, by decide +kernel, by decide +kernel⟩
theorem scLdue : FnScope ["_law_names_here", "_law_new", "_law_a", "_law_taken"] ["_law_names_here", "_law_new"] (defScope sLdue) := ⟨rfl, rfl, rfl, by decide +kernel, rfl, by decide +kernel, by decide +kernel⟩
theorem sclaw : FnScope ["_law_script", "_law_state", "_law_spoil", "_law_names_here", "_law_wishes_here", "_law_group_here", "_law_row_here", "_law_new", "_law_k", "_law_other", "_law_due_here", "_law_handed", "_law_told", "_law_turned", "e", "_law_rows", "_law_back", "_law_a", "_law_b"] ["_law_script"] (defScope slaw) := ⟨rfl, rfl, rfl, by decide +kernel, rfl, by decide +kernel, by decide +kernel⟩
/-- built-in names that the module does not bind -/
structure Bl (mg : Str → Option Value) : Prop where
  len : mg "len" = none
  isi : mg "isinstance" = none
  all : mg "all" = none
  enum : mg "enumerate" = none
  str : mg "str" = none
  tup : mg "tuple" = none
  lst : mg "list" = none
  dct : mg "dict" = none
  srt : mg "sorted" = none
  rng : mg "range" = none
  abs : mg "abs" = none
  int : mg "int" = none
  min : mg "min" = none
  bool : mg "bool" = none
end Qp
namespace Qp
open PySem L2
section
variable {P : Program} {w : World} {K : PySem.W.Frag} {mg : Str → Option Value} {base : Heap}
/-- is_name(value) -/
def spIsName : Sp := fun vs H Q _ => ∃ (x : V) (k : Kd), vs = [x] ∧ IsK H x k ∧ (∀ z, x = .str z → z.length ≤ 1000) ∧ ∀ H', Same H H' → Q (.bl (nameV x)) H'
theorem ok_isname {f : Addr} {fd : FuncData} (F : Fun K "is_name" "is_name" sisname f fd) (B : Bl mg) : FnOk P w K mg base CX0 1 f fd ["value"] spIsName := by
  refine F.ok scisname (fun vs H Q E h => ?_) (fun cdv A outer s H vs Q E hr h => ?_)
  · obtain ⟨x, k, rfl, _⟩ := h
    rfl
  · obtain ⟨x, k, rfl, ik, hz, kq⟩ := h
    refine ⟨_, pss_one (ps_ret (pe_and (pe_isi kit_str B.isi B.str (pv 0)) (pe_and (pe_chain op_le op_le pe_int (pe_callB call_len (by rfl) B.len PySem.boot_len (pa_cons (pv 0) pa_nil)) pe_int)
      (pe_one (pe_callB (cr_all rfl) (by rfl) B.all (by decide +kernel) (pa_cons (pe_lc (own := [("letter", 1)]) (g := gName 1) (tt := tYes) rfl scisname.nd (pi_str (pv 0)) (blkOk_by (own := [("letter", 1)]) (N := ["value", "letter"]) (sc := defScope sisname) (by decide +kernel))
        (fun _ _ _ _ _ => pg_name (i := 1) scisname.nd rfl (Or.inl rfl)) (fun _ _ _ _ _ => pts_nil) (fun _ _ _ _ _ => pe_chain op_le_str op_le_str pe_str (pv 1) pe_str)) pa_nil)))))), ?_⟩
    refine ⟨_, rfl, x, k, rfl, ik, ?_⟩
    cases ik with
    | str z =>
      refine ⟨true, rfl, iteT ?_⟩
      have hl := hz z rfl
      have e2 : sizeLine = 16777216 := sizeLine_eq
      refine ⟨_, rfl, .str z, z.length, rfl, ⟨by omega, rfl⟩, _, _, rfl, rfl, _, rfl, ?_⟩
      have nf : ∀ {b : Bool}, nameS z = b → nameV (V.str z) = b := fun e => e
      refine ite2 (fun h1 => ?_) (fun h1 => ?_)
      · refine ⟨_, _, rfl, rfl, _, rfl, ite2 (fun h2 => ?_) (fun h2 => ?_)⟩
        · refine ⟨_, rfl, z, rfl, fun D hD => lc_it walk_str (fun i H' => H' = upd H D (.lst (((z.cps.toList.take i).map lowC).map V.bl))) rfl (fun _ _ _ _ => True.intro) ?_ ?_⟩
          · rintro i y H1 H' hi rfl ⟨rfl, c, hc, rfl⟩
            have ea : ("a" : Str).cps.toList = [97] := by decide +kernel
            have ez : ("z" : Str).cps.toList = [122] := by decide +kernel
            have k1 : (!decide (((⟨#[c]⟩ : Str).cps.toList) < ("a" : Str).cps.toList)) = decide (97 ≤ c) := by rw [ea]; exact cmp_low1 c
            have k2 : (!decide (("z" : Str).cps.toList < ((⟨#[c]⟩ : Str).cps.toList))) = decide (c ≤ 122) := by rw [ez]; exact cmp_low2 c
            have hc' : z.cps.toList[i]? = some c := by rw [Array.getElem?_toList]; exact hc
            have tk : (((z.cps.toList.take (i + 1)).map lowC).map V.bl) = (((z.cps.toList.take i).map lowC).map V.bl) ++ [V.bl (lowC c)] := by
              rw [List.take_add_one, hc']
              simp
            have sz : z.cps.toList.length = z.length := by simp [Str.length]
            have fin : ∀ b, b = lowC c → ∃ acc, (upd H D (.lst (((z.cps.toList.take i).map lowC).map V.bl))) D = some (.lst acc) ∧ acc.length < sizeLine ∧
                upd (upd H D (.lst (((z.cps.toList.take i).map lowC).map V.bl))) D (.lst (acc ++ [V.bl b])) = upd H D (.lst (((z.cps.toList.take (i + 1)).map lowC).map V.bl)) := by
              intro b eb
              refine ⟨_, upd_same, ?_, ?_⟩
              · rw [List.length_map, List.length_map, List.length_take]
                omega
              · rw [upd_upd, eb, tk]
            refine ⟨rfl, lcTurn ⟨_, rfl, _, _, rfl, rfl, _, rfl, ite2 (fun h3 => ?_) (fun h3 => ?_)⟩⟩
            · refine ⟨_, _, rfl, rfl, fin _ ?_⟩
              rw [k1] at h3
              rw [k2]
              unfold lowC
              rw [h3, Bool.true_and]
            · refine fin _ ?_
              rw [k1] at h3
              unfold lowC
              cases e : decide (97 ≤ c) with
              | true => exact absurd e h3
              | false => rw [Bool.false_and]
          · rintro H' rfl
            refine ⟨D, z.cps.toList.map lowC, rfl, SqL.of ?_, ?_⟩
            · rw [upd_same, List.take_of_length_le (by simp)]
            · have e : nameV (V.str z) = ((z.cps.toList.map lowC).all id) := by
                refine nf ?_
                have h1' : decide (1 ≤ z.length) = true := by
                  have := of_decide_eq_true h1
                  exact decide_eq_true (by omega)
                have h2' : decide (z.length ≤ 8) = true := by
                  have := of_decide_eq_true h2
                  exact decide_eq_true (by omega)
                unfold nameS
                rw [h1', h2', List.all_map]
                rfl
              rw [← e]
              exact kq _ (Same.new hD)
        · have e : nameV (V.str z) = false := by
            refine nf ?_
            have h2' : decide (z.length ≤ 8) = false := decide_eq_false fun q => h2 (decide_eq_true (by omega))
            unfold nameS
            rw [h2', Bool.and_false, Bool.false_and]
          have q := kq H (Same.refl H)
          rw [e] at q
          exact q
      · have e : nameV (V.str z) = false := by
          refine nf ?_
          have h1' : decide (1 ≤ z.length) = false := decide_eq_false fun q => h1 (decide_eq_true (by omega))
          unfold nameS
          rw [h1', Bool.false_and, Bool.false_and]
        have q := kq H (Same.refl H)
        rw [e] at q
        exact ⟨false, rfl, iteF q⟩
    | _ => exact ⟨false, rfl, iteF (kq H (Same.refl H))⟩
end
end Qp
namespace Qp
open PySem L2
section
variable {P : Program} {w : World} {K : PySem.W.Frag} {mg : Str → Option Value} {base : Heap}
/-- bad_index(items, names) -/
def spBad (K : PySem.W.Frag) : Sp := fun vs H Q _ => ∃ (a b : Addr) (xs : List V) (ss : List Str), vs = [.ref a, .ref b] ∧ (SqL K H a xs ∨ SqT K H a xs) ∧ (SqL K H b (ss.map V.str) ∨ SqT K H b (ss.map V.str)) ∧ (∀ x ∈ xs, EltV H x) ∧
  ∀ H', Same H H' → Q (vOpt (badFrom (fun x => inS x ss) [] xs)) H'
theorem sq_same {K : PySem.W.Frag} {H H' : Hp} {a : Addr} {xs : List V} (s : Same H H') (h : SqL K H a xs ∨ SqT K H a xs) : SqL K H' a xs ∨ SqT K H' a xs := h.imp s.seq s.seqT
theorem ok_bad {f : Addr} {fd : FuncData} (F : Fun K "bad_index" "bad_index" sbadindex f fd) (B : Bl mg) : FnOk P w K mg base CX0 1 f fd ["items", "names"] (spBad K) := by
  refine F.ok scbadindex (fun vs H Q E h => ?_) (fun cdv A outer s H vs Q E hr h => ?_)
  · obtain ⟨a, b, xs, ss, rfl, _⟩ := h
    rfl
  · obtain ⟨a, b, xs, ss, rfl, ha, hb, hx, kq⟩ := h
    refine ⟨_, pss_cons (ps_for PassesOwn.never rfl (pi_enumT (by rfl) B.enum (pa_cons (pv 0) pa_nil))
        (pg_tup rfl (pgs_cons (pg_name (i := 2) scbadindex.nd rfl (Or.inl rfl)) (pgs_cons (pg_name (i := 3) scbadindex.nd rfl (Or.inl rfl)) pgs_nil)))
        (pss_one (ps_if (PW.pt (pw_or (pt_cmpR (op_notInS hr.units) (pv 3) (pv 1) (by rfl)) (pw_or1 (pt_cmpR (op_inS hr.units) (pv 3) (pe_slice sl_both (pv 0) po_none (po_some (pv 2))) (by rfl)))))
          (pss_one (ps_ret (pv 2))) pss_nil)))
      (pss_one (ps_ret pe_non)), ?_⟩
    refine ⟨_, rfl, a, xs, rfl, ha, fun J G wk hG => for_it wk (fun i σ H' => ∃ (v2 v3 : Option V) (zs : List Str), σ = [some (.ref a), some (.ref b), v2, v3] ∧ Same H H' ∧ xs.take i = zs.map V.str ∧
      badFrom (fun x => inS x ss) (xs.take i) (xs.drop i) = badFrom (fun x => inS x ss) [] xs) ⟨none, none, [], rfl, Same.refl H, rfl, rfl⟩ (fun i σ H' _ ⟨_, _, _, _, s, _⟩ => hG H' s) ?_ ?_⟩
    · rintro i v σ H1 H2 hi ⟨v2, v3, zs, rfl, s, htk, hbf⟩ ⟨T, x, y, rfl, hT, rfl, ex, ey⟩
      cases ex
      have ey : xs[i]? = some y := ey
      have s2 : Same H (upd H1 T (.tup [.int (i : Nat), y])) := s.trans (Same.new hT)
      have hlen : xs.drop i = y :: xs.drop (i + 1) := by
        have h1 := (List.getElem?_eq_some_iff.mp ey)
        rw [List.drop_eq_getElem_cons hi, h1.2]
      have htk2 : xs.take (i + 1) = xs.take i ++ [y] := by
        rw [List.take_add_one, ey]
        rfl
      have hli : (xs.take i).length = i := by
        rw [List.length_take]
        omega
      rw [hlen, badFrom_cons] at hbf
      have ey' : EltV (upd H1 T (.tup [.int (i : Nat), y])) y := (hx y (List.mem_of_getElem? ey)).same s2
      refine ⟨T, [.int (i : Nat), y], rfl, SqT.of upd_same, rfl, _, _, rfl, _, _, rfl, rfl, ?_⟩
      refine ⟨_, rfl, _, rfl, b, ss, rfl, sq_same s2 hb, ey', _, rfl, ?_⟩
      cases e1 : inS y ss with
      | false =>
        refine iteT (iteT ⟨_, rfl, ?_⟩)
        have q := kq _ s2
        rw [← hbf, e1, Bool.false_and, if_neg Bool.false_ne_true, hli] at q
        exact q
      | true =>
        obtain ⟨z, hz, rfl⟩ := inS_iff.mp e1
        refine iteF ⟨_, rfl, _, rfl, _, rfl, _, rfl, take_both (sq_same s2 ha) hi fun p H3 s3 hp => ⟨p, zs, rfl, by rw [← htk]; exact hp, ey'.same s3, _, rfl, ?_⟩⟩
        have ec : (xs.take i).contains (V.str z) = inS (V.str z) zs := by
          rw [htk, inS_str]
          simp
        cases e2 : inS (V.str z) zs with
        | true =>
          refine iteT ⟨_, rfl, ?_⟩
          have q := kq _ (s2.trans s3)
          rw [← hbf, e1, ec, e2, Bool.not_true, Bool.and_false, if_neg Bool.false_ne_true, hli] at q
          exact q
        | false =>
          refine iteF ⟨_, _, zs ++ [z], rfl, s2.trans s3, by rw [htk2, htk, List.map_append]; rfl, ?_⟩
          rw [e1, ec, e2, Bool.not_false, Bool.true_and, if_pos rfl] at hbf
          rw [htk2]
          exact hbf
    · rintro σ H1 ⟨v2, v3, zs, rfl, s, htk, hbf⟩
      have q := kq H1 s
      rw [← hbf, List.drop_length] at q
      exact q
end
end Qp
namespace Qp
open PySem L2
section
variable {P : Program} {w : World} {K : PySem.W.Frag} {mg : Str → Option Value} {base : Heap}
/-- has_keys(value, names) -/
def spHas (K : PySem.W.Frag) : Sp := fun vs H Q _ => (∃ (x : V) (b : Addr), vs = [x, .ref b] ∧ NotD K H x ∧ ∀ H', Same H H' → Q (.bl false) H') ∨ ∃ (x : V) (k : Kd) (b : Addr) (ss : List Str), vs = [x, .ref b] ∧ IsK H x k ∧ (SqL K H b (ss.map V.str) ∨ SqT K H b (ss.map V.str)) ∧ ss.length ≤ 1000 ∧
  (k ≠ .dct → ∀ H', Same H H' → Q (.bl false) H') ∧ ∀ d kvs, x = .ref d → H d = some (.dK kvs) → ∀ H', Same H H' → Q (.bl (hasB kvs ss)) H'
theorem ok_has {f : Addr} {fd : FuncData} (F : Fun K "has_keys" "has_keys" shaskeys f fd) (B : Bl mg) : FnOk P w K mg base CX0 1 f fd ["value", "names"] (spHas K) := by
  refine F.ok schaskeys (fun vs H Q E h => ?_) (fun cdv A outer s H vs Q E hr h => ?_)
  · rcases h with ⟨x, b, rfl, _⟩ | ⟨x, k, b, ss, rfl, _⟩ <;> rfl
  · have hu := hu_of hr
    refine ⟨_, pss_one (ps_ret (pe_and (pe_isiD B.isi B.dct (pv 0)) (pe_and (pe_cmpR op_eq (pe_callB call_lenD (by rfl) B.len PySem.boot_len (pa_cons (pv 0) pa_nil)) (pe_callB call_len_seq (by rfl) B.len PySem.boot_len (pa_cons (pv 1) pa_nil)) (nomark _))
      (pe_one (pe_callB (cr_all rfl) (by rfl) B.all (by decide +kernel) (pa_cons (pe_lc (own := [("name", 2)]) (g := gName 2) (tt := tYes) rfl schaskeys.nd (pi_seq 1) (blkOk_by (own := [("name", 2)]) (N := ["value", "names", "name"]) (sc := defScope shaskeys) (by decide +kernel))
        (fun _ _ _ _ _ => pg_name (i := 2) schaskeys.nd rfl (Or.inl rfl)) (fun _ _ _ _ _ => pts_nil) (fun _ _ _ _ _ => pe_cmp (pc_din hu (pv 2) (pv 0)) rfl)) pa_nil)))))), ?_⟩
    rcases h with ⟨x, b, rfl, hx, kq⟩ | ⟨x, k, b, ss, rfl, ik, hb, hl, kn, kq⟩
    · exact ⟨_, rfl, .inr ⟨x, rfl, hx, _, rfl, iteF (kq H (Same.refl H))⟩⟩
    refine ⟨_, rfl, .inl ⟨x, k, rfl, ik, ?_⟩⟩
    cases ik with
    | @dct d kvs hd =>
      have kq' := kq d kvs rfl hd
      have e2 : sizeLine = 16777216 := sizeLine_eq
      refine ⟨true, rfl, iteT ?_⟩
      refine ⟨_, rfl, d, kvs, rfl, hd, _, rfl, b, _, rfl, hb, rfl, ?_⟩
      by_cases hc : kvs.length = ss.length
      · have e1 : decide (V.int (kvs.length : Int) = V.int ((ss.map V.str).length : Int)) = true := by
          rw [List.length_map, hc]
          exact decide_eq_true rfl
        refine ⟨_, rfl, ?_⟩
        rw [e1]
        refine iteT ⟨b, ss.map V.str, rfl, hb, fun J G wk hG D hD => lc_it wk (fun i H' => Same H H' ∧ H' D = some (.lst (((ss.take i).map fun z => (valV kvs (Sum.inr z)).isSome).map V.bl))) ⟨Same.new hD, upd_same⟩ (fun i H' _ z => hG H' z.1) ?_ ?_⟩
        · rintro i y H1 H' hi ⟨s1, hD1⟩ ⟨rfl, hy⟩
          rw [List.getElem?_map] at hy
          cases ez : ss[i]? with
          | none => rw [ez] at hy; cases hy
          | some z =>
            rw [ez] at hy
            cases hy
            refine ⟨rfl, lcTurn ⟨_, rfl, _, rfl, d, _, rfl, DGet.k (k := Sum.inr z) (s1 _ _ hd), _, hD1, ?_, fun b' o' e' => ?_, ?_⟩⟩
            · rw [List.length_map, List.length_map, List.length_take]
              omega
            · rw [upd_ne (ne_of_none e' hD)]
              exact s1 _ _ e'
            · rw [upd_same, List.take_add_one, ez]
              simp
        · rintro H' ⟨s1, hD1⟩
          refine ⟨D, ss.map fun z => (valV kvs (Sum.inr z)).isSome, rfl, SqL.of ?_, ?_⟩
          · rw [hD1, List.take_of_length_le (by simp)]
          · have e : hasB kvs ss = (ss.map fun z => (valV kvs (Sum.inr z)).isSome).all id := by
              unfold hasB
              rw [decide_eq_true hc, Bool.true_and, List.all_map]
              rfl
            rw [← e]
            exact kq' _ s1
      · have e1 : decide (V.int (kvs.length : Int) = V.int ((ss.map V.str).length : Int)) = false := by
          rw [List.length_map]
          refine decide_eq_false fun z => hc ?_
          have := V.int.inj z
          omega
        refine ⟨_, rfl, ?_⟩
        rw [e1]
        have e : hasB kvs ss = false := by
          unfold hasB
          rw [decide_eq_false hc, Bool.false_and]
        have q := kq' H (Same.refl H)
        rw [e] at q
        exact iteF q
    | _ => exact ⟨false, rfl, iteF (kn (by intro z; cases z) H (Same.refl H))⟩
/-- is_lot(value, names) -/
def spLot (K : PySem.W.Frag) : Sp := fun vs H Q _ => ∃ (x : V) (k : Kd) (b : Addr) (ss : List Str), vs = [x, .ref b] ∧ IsK H x k ∧ (SqL K H b (ss.map V.str) ∨ SqT K H b (ss.map V.str)) ∧
  (k ≠ .lst → ∀ H', Same H H' → Q (.bl false) H') ∧ ∀ a xs, x = .ref a → H a = some (.lst xs) → (∀ y ∈ xs, EltV H y) ∧ ∀ H', Same H H' → Q (.bl (decide (vOpt (badFrom (fun x => inS x ss) [] xs) = .non))) H'
theorem ok_lot {f : Addr} {fd : FuncData} (F : Fun K "is_lot" "is_lot" sislot f fd) (B : Bl mg) (cB : CF P w K mg base CX0 1 "bad_index" ["items", "names"] (spBad K)) : FnOk P w K mg base CX0 2 f fd ["value", "names"] (spLot K) := by
  refine F.ok scislot (fun vs H Q E h => ?_) (fun cdv A outer s H vs Q E hr h => ?_)
  · obtain ⟨x, k, b, ss, rfl, _⟩ := h
    rfl
  · obtain ⟨x, k, b, ss, rfl, ik, hb, kn, kq⟩ := h
    refine ⟨_, pss_one (ps_ret (pe_and (pe_isi kit_list B.isi B.lst (pv 0)) (pe_one (pe_cmp (pc_isN (pe_cf cB hr pass0 (pa_cons (pv 0) (pa_cons (pv 1) pa_nil)))) rfl)))), ?_⟩
    refine ⟨_, rfl, x, k, rfl, ik, ?_⟩
    cases ik with
    | @lst a xs ha =>
      obtain ⟨hx, kq⟩ := kq a xs rfl ha
      exact ⟨true, rfl, iteT ⟨_, rfl, _, rfl, a, b, xs, ss, rfl, .inl (SqL.of ha), hb, hx, kq⟩⟩
    | _ => exact ⟨false, rfl, iteF (kn (by intro z; cases z) H (Same.refl H))⟩
end
end Qp
namespace Qp
open PySem L2
/-- what is wrong with people: none, or the index of BadPeople -/
def dueP : Option (List V) → Option Int
  | none => some (-1)
  | some xs => if xs.length ≤ 16 then (badFrom nameV [] xs).map Int.ofNat else some (-1)
section
variable {P : Program} {w : World} {K : PySem.W.Frag} {mg : Str → Option Value} {base : Heap}
/-- an error of the class at C with one field leaves -/
def Leaves (C : Addr) (f : Str) (v : V) (H : Hp) (E : XK) : Prop := ∀ (d : Addr) (H' : Hp), Same H H' → H' d = some (.xd [(f, v)]) → E (.ref C) (some d) H'
theorem Leaves.go {C : Addr} {f : Str} {v : V} {H H1 : Hp} {E : XK} (h : Leaves C f v H E) (s : Same H H1) (d : Addr) (hd : H1 d = none) : E (.ref C) (some d) (upd H1 d (.xd [(f, v)])) := h d _ (s.trans (Same.new hd)) upd_same
/-- people as a tuple, or none -/
def TupOf (H : Hp) (x : V) (o : Option (List V)) : Prop := ∃ k, IsK H x k ∧ match o with
  | none => k ≠ .tup
  | some xs => ∃ a, x = .ref a ∧ H a = some (.tup xs) ∧ (∀ y ∈ xs, GoodE H y) ∧ xs.length ≤ 1000
/-- _check_people(people) -/
def spCP (C : Addr) : Sp := fun vs H Q E => ∃ (x : V) (o : Option (List V)), vs = [x] ∧ TupOf H x o ∧ (dueP o = none → ∀ H', Same H H' → Q .non H') ∧ ∀ i, dueP o = some i → Leaves C "index" (.int i) H E
theorem names_ok {xs : List V} {zs : List Str} (h : xs.filter nameV = zs.map V.str) : badFrom (fun x => inS x zs) [] xs = badFrom nameV [] xs := by
  refine badFrom_congr fun x hx => ?_
  cases e : nameV x with
  | true =>
    have hm : x ∈ xs.filter nameV := List.mem_filter.mpr ⟨hx, e⟩
    rw [h] at hm
    obtain ⟨z, hz, rfl⟩ := List.mem_map.mp hm
    exact inS_iff.mpr ⟨z, hz, rfl⟩
  | false =>
    cases e2 : inS x zs with
    | false => rfl
    | true =>
      obtain ⟨z, hz, rfl⟩ := inS_iff.mp e2
      have hm : V.str z ∈ zs.map V.str := List.mem_map.mpr ⟨z, hz, rfl⟩
      rw [← h] at hm
      have := (List.mem_filter.mp hm).2
      rw [e] at this
      cases this
theorem ok_cp {f C fI : Addr} {fd : FuncData} {tk : Tok} (F : Fun K "_check_people" "_check_people" scheckpeople f fd) (B : Bl mg) (T : PySem.QX.OwnTxt P K mg "BadPeople" "index" C fI) (hM : mg "MOST_PEOPLE" = some (.int 16 tk))
    (cN : CF P w K mg base CX0 1 "is_name" ["value"] spIsName) (cB : CF P w K mg base CX0 1 "bad_index" ["items", "names"] (spBad K)) : FnOk P w K mg base (L2.CX P w) 2 f fd ["people"] (spCP C) := by
  refine F.okX sccheckpeople (fun vs H Q E h => ?_) (fun cdv A outer s H vs Q E hr h => ?_)
  · obtain ⟨x, o, rfl, _⟩ := h
    rfl
  · obtain ⟨x, o, rfl, ⟨k, ik, hx⟩, kq, kx⟩ := h
    refine ⟨_, pss_cons (ps_if (PW.pt (pw_or (pt_not (pt_val (pe_isi kit_tuple B.isi B.tup (pv 0)))) (pw_or1 (pt_cmpR op_gt (pe_callB call_len_seq (by rfl) B.len PySem.boot_len (pa_cons (pv 0) pa_nil)) (pe_glob (v := .int 16) rfl hM ⟨_, rfl⟩) (nomark _)))))
        (pss_one (ps_raiseS rfl T hr (takes_of rfl rfl rfl rfl) (pa_cons (pe_un un_neg pe_int) pa_nil) rfl)) pss_nil)
      (pss_cons (ps_set (i := 1) sccheckpeople.nd rfl (Or.inl rfl) (pe_cf cB hr pass0 (pa_cons (pv 0) (pa_cons
          (pe_lc (own := [("person", 2)]) (g := gName 2) rfl sccheckpeople.nd (pi_seq 0) (blkOk_by (own := [("person", 2)]) (N := ["people", "index", "person"]) (sc := defScope scheckpeople) (by decide +kernel))
            (fun _ _ _ _ _ => pg_name (i := 2) sccheckpeople.nd rfl (Or.inl rfl)) (fun _ _ _ _ _ => pts_one (pt_val (pe_cf cN hr pass0 (pa_cons (pv 2) pa_nil)))) (fun _ _ _ _ _ => pv 2)) pa_nil))))
      (pss_one (ps_if (pt_cmp (pc_notN (pv 1))) (pss_one (ps_raiseS rfl T hr (takes_of rfl rfl rfl rfl) (pa_cons (pv 1) pa_nil) rfl)) pss_nil))), ?_⟩
    refine ⟨_, rfl, x, k, rfl, ik, _, rfl, ?_⟩
    cases o with
    | none =>
      have e : isaB k "tuple" = false := by
        have hk : k ≠ .tup := hx
        cases k <;> first | rfl | exact absurd rfl hk
      rw [e]
      refine iteT (iteT ?_)
      exact ⟨_, rfl, _, rfl, fun d hd => (kx (-1) rfl).go (Same.refl H) d hd⟩
    | some xs =>
      obtain ⟨a, rfl, ha, hg, hlen⟩ := hx
      have e : isaB k "tuple" = true := by
        cases ik with
        | lst h => rw [ha] at h; cases h
        | tup h => rfl
        | dct h => rw [ha] at h; cases h
      rw [e]
      refine iteF ⟨_, rfl, a, xs, rfl, .inr (SqT.of ha), _, _, rfl, rfl, _, rfl, ?_⟩
      refine ite2 (fun h1 => ?_) (fun h1 => ?_)
      · have h2 := of_decide_eq_true h1
        have e2 : dueP (some xs) = some (-1) := if_neg (by omega)
        exact ⟨_, rfl, _, rfl, fun d hd => (kx (-1) e2).go (Same.refl H) d hd⟩
      · have h2 : xs.length ≤ 16 := by
          have q : ¬ ((16 : Int) < xs.length) := fun z => h1 (decide_eq_true z)
          omega
        have e2 : dueP (some xs) = (badFrom nameV [] xs).map Int.ofNat := if_pos h2
        have esz : sizeLine = 16777216 := sizeLine_eq
        refine ⟨_, rfl, a, xs, rfl, .inr (SqT.of ha), fun J G wk hG D hD => lc_it wk (fun i H' => Same H H' ∧ H' D = some (.lst ((xs.take i).filter nameV))) ⟨Same.new hD, upd_same⟩ (fun i H' _ z => hG H' z.1) ?_ ?_⟩
        · rintro i y H1 H' hi ⟨s1, hD1⟩ ⟨rfl, hy⟩
          obtain ⟨⟨ky, iy⟩, hz⟩ := hg y (List.mem_of_getElem? hy)
          refine ⟨rfl, _, rfl, y, ky, rfl, iy.same s1, hz, fun H2 s2 => ⟨_, rfl, ?_⟩⟩
          have tk : (xs.take (i + 1)).filter nameV = (xs.take i).filter nameV ++ [y].filter nameV := by
            rw [List.take_add_one, hy, List.filter_append]
            rfl
          have hD2 := s2 _ _ hD1
          have hlt : ((xs.take i).filter nameV).length < sizeLine := by
            have q1 := List.length_filter_le nameV (xs.take i)
            rw [List.length_take] at q1
            omega
          cases en : nameV y with
          | true =>
            refine iteT ⟨_, rfl, _, hD2, hlt, fun b' o' e' => ?_, ?_⟩
            · rw [upd_ne (ne_of_none e' hD)]
              exact s2 _ _ (s1 _ _ e')
            · rw [upd_same, tk, List.filter_cons_of_pos (by exact en)]
              rfl
          | false =>
            refine iteF ⟨s1.trans s2, ?_⟩
            rw [hD2, tk, List.filter_cons_of_neg (by rw [en]; decide), List.filter_nil, List.append_nil]
        · rintro H1 ⟨s1, hD1⟩
          obtain ⟨zs, ez, _⟩ := strs_of (l := xs.filter nameV) fun y hy => (List.mem_filter.mp hy).2
          rw [List.take_of_length_le (Nat.le_refl _), ez] at hD1
          refine ⟨a, D, xs, zs, rfl, .inr (SqT.of (s1 _ _ ha)), .inl (SqL.of hD1), fun y hy => (hg y hy).elt.same s1, fun H2 s2 => ?_⟩
          rw [names_ok ez]
          refine ⟨_, rfl, _, rfl, ?_⟩
          cases eb : badFrom nameV [] xs with
          | none =>
            refine iteF (kq ?_ H2 (s1.trans s2))
            rw [e2, eb]
            rfl
          | some i =>
            refine iteT ⟨_, rfl, _, rfl, fun d hd => (kx i ?_).go (s1.trans s2) d hd⟩
            rw [e2, eb]
            rfl
end
end Qp
namespace Qp
open PySem L2
/-- a list, or something else -/
def LstOf (H : Hp) (v : V) (o : Option (List V)) : Prop := ∃ k, IsK H v k ∧ match o with
  | none => k ≠ .lst
  | some xs => ∃ a, v = .ref a ∧ H a = some (.lst xs) ∧ ∀ y ∈ xs, EltV H y
theorem LstOf.same {H H' : Hp} (s : Same H H') {v : V} {o : Option (List V)} (h : LstOf H v o) : LstOf H' v o := by
  obtain ⟨k, ik, q⟩ := h
  refine ⟨k, ik.same s, ?_⟩
  cases o with
  | none => exact q
  | some xs =>
    obtain ⟨a, e, h, hy⟩ := q
    exact ⟨a, e, s _ _ h, fun y m => (hy y m).same s⟩
/-- the wishes of p are as they should be -/
def okW (ps : List Str) (p : Str) : Option (List V) → Bool
  | none => false
  | some xs => decide (vOpt (badFrom (fun x => inS x (ps.filter fun z => !decide (z = p))) [] xs) = .non)
section
variable {P : Program} {w : World} {K : PySem.W.Frag} {mg : Str → Option Value} {base : Heap}
/-- _check_wishes(people, wishes) -/
def spCW (C : Addr) : Sp := fun vs H Q E => ∃ (a : Addr) (x : V) (k : Kd) (ps : List Str), vs = [.ref a, x] ∧ H a = some (.tup (ps.map V.str)) ∧ ps.length ≤ 60 ∧ IsK H x k ∧
  (k ≠ .dct → Leaves C "person" (.str "") H E) ∧
  ∀ d kvs, x = .ref d → H d = some (.dK kvs) → (hasB kvs ps = false → Leaves C "person" (.str "") H E) ∧ (hasB kvs ps = true → ∃ wo : Str → Option (List V),
    (∀ p ∈ ps, ∃ v, valV kvs (Sum.inr p) = some v ∧ LstOf H v (wo p)) ∧ ((∀ p ∈ ps, okW ps p (wo p) = true) → ∀ H', Same H H' → Q .non H') ∧
    ∀ (ys pre post : List Str) (p : Str), ys.Perm ps → PyProof.Rows.sortedS ys = true → ys = pre ++ p :: post → (∀ q ∈ pre, okW ps q (wo q) = true) → okW ps p (wo p) = false → Leaves C "person" (.str p) H E)
theorem ok_cw {f C fI : Addr} {fd : FuncData} (F : Fun K "_check_wishes" "_check_wishes" scheckwishes f fd) (B : Bl mg) (T : PySem.QX.OwnTxt P K mg "BadWishes" "person" C fI)
    (cH : CF P w K mg base CX0 1 "has_keys" ["value", "names"] (spHas K)) (cL : CF P w K mg base CX0 2 "is_lot" ["value", "names"] (spLot K)) : FnOk P w K mg base (L2.CX P w) 3 f fd ["people", "wishes"] (spCW C) := by
  refine F.okX sccheckwishes (fun vs H Q E h => ?_) (fun cdv A outer s H vs Q E hr h => ?_)
  · obtain ⟨a, x, k, ps, rfl, _⟩ := h
    rfl
  · obtain ⟨a, x, k, ps, rfl, ha, hlen, ik, kn, kq⟩ := h
    have hu := hu_of hr
    have esz : sizeLine = 16777216 := sizeLine_eq
    refine ⟨_, pss_cons (ps_if (pt_not (pt_val (pe_cf cH (hr.mono (by decide)) pass0 (pa_cons (pv 1) (pa_cons (pv 0) pa_nil))))) (pss_one (ps_raiseS rfl T hr (takes_of rfl rfl rfl rfl) (pa_cons pe_str pa_nil) rfl)) pss_nil)
      (pss_one (ps_for (passes_of rfl) rfl (pi_list (pe_callB cr_sortedST (by rfl) B.srt (by decide +kernel) (pa_cons (pv 0) pa_nil))) (pg_name (i := 2) sccheckwishes.nd rfl (Or.inr rfl))
        (pss_one (ps_if (pt_not (pt_val (pe_cf cL hr pass0 (pa_cons (pe_dget hu (pv 1) (pv 2) (fun _ _ => rfl)) (pa_cons
          (pe_lc (own := [("other", 3)]) (g := gName 3) rfl sccheckwishes.nd (pi_seq 0) (blkOk_by (own := [("other", 3)]) (N := ["people", "wishes", "person", "other"]) (sc := defScope scheckwishes) (by decide +kernel))
            (fun _ _ _ _ _ => pg_name (i := 3) sccheckwishes.nd rfl (Or.inl rfl)) (fun _ _ _ _ _ => pts_one (pt_cmpR op_ne (pv 3) (pv 2) (nomark _))) (fun _ _ _ _ _ => pv 3)) pa_nil)))))
          (pss_one (ps_raiseS rfl T hr (takes_of rfl rfl rfl rfl) (pa_cons (pv 2) pa_nil) rfl)) pss_nil)))), ?_⟩
    refine ⟨_, rfl, _, rfl, .inr ⟨x, k, a, ps, rfl, ik, .inr (SqT.of ha), by omega, fun hk H1 s1 => ?_, fun d kvs ex hd H1 s1 => ?_⟩⟩
    · exact ⟨false, rfl, iteT ⟨_, rfl, fun d hd => (kn hk).go s1 d hd⟩⟩
    · subst ex
      obtain ⟨k1, k2⟩ := kq d kvs rfl hd
      refine ⟨_, rfl, ?_⟩
      cases eb : hasB kvs ps with
      | false => exact iteT ⟨_, rfl, fun d hd => (k1 eb).go s1 d hd⟩
      | true =>
        obtain ⟨wo, hw, kok, kbad⟩ := k2 eb
        refine iteF ⟨_, rfl, a, ps, rfl, SqT.of (s1 _ _ ha), by omega, fun ys l hp hs hl => ⟨l, rfl, ⟨_, SqL.of upd_same⟩, ?_⟩⟩
        have s2 : Same H (upd H1 l (.lst (ys.map V.str))) := s1.trans (Same.new hl)
        refine for_it (walk_list (xs := ys.map V.str)) (fun i σ H' => ∃ (v2 : Option V), σ = [some (.ref a), some (.ref d), v2, none] ∧ Same (upd H1 l (.lst (ys.map V.str))) H' ∧ ∀ q ∈ ys.take i, okW ps q (wo q) = true)
          ⟨none, rfl, Same.refl _, fun q hq => by simp at hq⟩ (fun i σ H' _ ⟨_, _, s3, _⟩ => SqL.of (s3 _ _ upd_same)) ?_ ?_
        · rintro i y σ Hx H2 hi ⟨v2, rfl, s3, hok⟩ ⟨rfl, hy⟩
          rw [List.length_map] at hi
          rw [List.getElem?_map] at hy
          cases ep : ys[i]? with
          | none => rw [ep] at hy; cases hy
          | some p =>
            rw [ep] at hy
            cases hy
            have hpm : p ∈ ps := hp.mem_iff.mp (List.mem_of_getElem? ep)
            obtain ⟨v, hv, hlv⟩ := hw p hpm
            have s4 : Same H H2 := s2.trans s3
            refine ⟨_, rfl, _, rfl, d, v, rfl, by rw [← hv]; exact DGet.k (k := Sum.inr p) (s4 _ _ hd), a, ps.map V.str, rfl, .inr (SqT.of (s4 _ _ ha)), fun J G wk hG D hD => lc_it wk (fun j H' => Same H2 H' ∧ H' D = some (.lst (((ps.take j).filter fun z => !decide (z = p)).map V.str))) ⟨Same.new hD, upd_same⟩ (fun j H' _ z => hG H' z.1) ?_ ?_⟩
            · rintro j y H3 H' hj ⟨s5, hD5⟩ ⟨rfl, hy⟩
              rw [List.length_map] at hj
              rw [List.getElem?_map] at hy
              cases eo : ps[j]? with
              | none => rw [eo] at hy; cases hy
              | some z =>
                rw [eo] at hy
                cases hy
                refine ⟨rfl, _, rfl, _, rfl, rfl, _, rfl, ?_⟩
                have tk : (ps.take (j + 1)).filter (fun z => !decide (z = p)) = (ps.take j).filter (fun z => !decide (z = p)) ++ [z].filter (fun z => !decide (z = p)) := by
                  rw [List.take_add_one, eo, List.filter_append]
                  rfl
                have hlt : (((ps.take j).filter fun z => !decide (z = p)).map V.str).length < sizeLine := by
                  have q1 := List.length_filter_le (fun z => !decide (z = p)) (ps.take j)
                  rw [List.length_take] at q1
                  rw [List.length_map]
                  omega
                by_cases ez : z = p
                · have e1 : decide (V.str z = V.str p) = true := decide_eq_true (by rw [ez])
                  rw [e1]
                  refine iteF ⟨s5, ?_⟩
                  rw [hD5, tk, List.filter_cons_of_neg (by rw [decide_eq_true ez]; decide), List.filter_nil, List.append_nil]
                · have e1 : decide (V.str z = V.str p) = false := decide_eq_false fun q => ez (V.str.inj q)
                  rw [e1]
                  refine iteT ⟨_, rfl, _, hD5, hlt, fun b' o' e' => ?_, ?_⟩
                  · rw [upd_ne (ne_of_none e' hD)]
                    exact s5 _ _ e'
                  · rw [upd_same, tk, List.filter_cons_of_pos (by rw [decide_eq_false ez]; decide), List.filter_nil, List.map_append]
                    rfl
            · rintro H3 ⟨s5, hD5⟩
              rw [List.length_map, List.take_of_length_le (Nat.le_refl _)] at hD5
              have s6 : Same H H3 := s4.trans s5
              obtain ⟨kv, ikv, hq⟩ := hlv.same s6
              have go_ok : okW ps p (wo p) = true → ∀ H4, Same H3 H4 → ∃ v2 : Option V, ([some (.ref a), some (.ref d), v2, none].set 2 (some (V.str p)) : List (Option V)) = [some (.ref a), some (.ref d), some (V.str p), none] := fun _ _ _ => ⟨none, rfl⟩
              have step : okW ps p (wo p) = true → ∀ q ∈ ys.take (i + 1), okW ps q (wo q) = true := fun e q hq => by
                rw [List.take_add_one, ep] at hq
                rcases List.mem_append.mp hq with h | h
                · exact hok q h
                · have : q = p := by simpa using h
                  rw [this]
                  exact e
              have bad : okW ps p (wo p) = false → Leaves C "person" (.str p) H E := fun e => by
                have hd1 : ys.drop i = p :: ys.drop (i + 1) := by
                  have h1 := (List.getElem?_eq_some_iff.mp ep)
                  rw [List.drop_eq_getElem_cons h1.1, h1.2]
                have es : ys = ys.take i ++ p :: ys.drop (i + 1) := by rw [← hd1, List.take_append_drop]
                exact kbad ys (ys.take i) (ys.drop (i + 1)) p hp hs es hok e
              refine ⟨v, kv, D, ps.filter (fun z => !decide (z = p)), rfl, ikv, .inl (SqL.of hD5), fun hk H4 s7 => ?_, fun av xs ev hav => ⟨fun y hy => ?_, fun H4 s7 => ?_⟩⟩
              · have e1 : okW ps p (wo p) = false := by
                  cases e : wo p with
                  | none => rfl
                  | some xs =>
                    rw [e] at hq
                    obtain ⟨a', e', h', _⟩ := hq
                    subst e'
                    cases ikv with
                    | lst h => exact absurd rfl hk
                    | tup h => rw [h'] at h; cases h
                    | dct h => rw [h'] at h; cases h
                exact ⟨_, rfl, iteT ⟨_, rfl, _, rfl, fun d' hd' => (bad e1).go (s6.trans s7) d' hd'⟩⟩
              · cases e : wo p with
                | none =>
                  rw [e] at hq
                  subst ev
                  cases ikv with
                  | lst h => exact absurd rfl hq
                  | tup h => rw [hav] at h; cases h
                  | dct h => rw [hav] at h; cases h
                | some xs' =>
                  rw [e] at hq
                  obtain ⟨a', e', h', hy'⟩ := hq
                  rw [ev] at e'
                  cases e'
                  rw [hav] at h'
                  cases h'
                  exact hy' y hy
              · have e1 : okW ps p (wo p) = decide (vOpt (badFrom (fun x => inS x (ps.filter fun z => !decide (z = p))) [] xs) = .non) := by
                  cases e : wo p with
                  | none =>
                    rw [e] at hq
                    subst ev
                    cases ikv with
                    | lst h => exact absurd rfl hq
                    | tup h => rw [hav] at h; cases h
                    | dct h => rw [hav] at h; cases h
                  | some xs' =>
                    rw [e] at hq
                    obtain ⟨a', e', h', hy'⟩ := hq
                    rw [ev] at e'
                    cases e'
                    rw [hav] at h'
                    cases h'
                    rfl
                refine ⟨_, rfl, ?_⟩
                rw [← e1]
                cases eo : okW ps p (wo p) with
                | false => exact iteT ⟨_, rfl, _, rfl, fun d' hd' => (bad eo).go (s6.trans s7) d' hd'⟩
                | true => exact iteF ⟨some (V.str p), rfl, s3.trans (s5.trans s7), step eo⟩
        · rintro σ H2 ⟨v2, rfl, s3, hok⟩
          rw [List.length_map, List.take_of_length_le (Nat.le_refl _)] at hok
          exact kok (fun q hq => hok q (hp.mem_iff.mpr hq)) _ (s2.trans s3)
end
end Qp
namespace Qp
open PySem L2
section
variable {P : Program} {w : World} {K : PySem.W.Frag} {mg : Str → Option Value} {base : Heap}
/-- _open_rows(wishes) -/
def spOR : Sp := fun vs H Q _ => ∃ (d : Addr) (ps : List Str) (ws : Str → List Str), vs = [.ref d] ∧ RowsG H d ps (fun a => lstO (ws a)) ∧ ps.Nodup ∧ ps.length ≤ 1000 ∧ (∀ a ∈ ps, (ws a).length ≤ 1000 ∧ ∀ b ∈ ws a, b ∈ ps) ∧
  ∀ D H', Same H H' → RowsG H' D ps (fun a => lstO (opn ws a)) → Q (.ref D) H'
theorem ok_or {f : Addr} {fd : FuncData} (F : Fun K "_open_rows" "_open_rows" sopenrows f fd) : FnOk P w K mg base CX0 1 f fd ["wishes"] spOR := by
  refine F.ok scopenrows (fun vs H Q E h => ?_) (fun cdv A outer s H vs Q E hr h => ?_)
  · obtain ⟨d, ps, ws, rfl, _⟩ := h
    rfl
  · obtain ⟨d, ps, ws, rfl, hR, hnd, hlen, hcl, kq⟩ := h
    have hu := hu_of hr
    have esz : sizeLine = 16777216 := sizeLine_eq
    refine ⟨_, pss_one (ps_ret (pe_lock (pe_dc (own := [("a", 1)]) (g := gName 1) (tt := tYes) rfl scopenrows.nd (pi_keys (pv 0)) (blkOk_by (own := [("a", 1)]) (N := ["wishes", "a", "b"]) (sc := defScope sopenrows) (by decide +kernel))
      (fun _ _ _ _ _ => pg_name (i := 1) scopenrows.nd rfl (Or.inr rfl)) (fun _ _ _ _ _ => pts_nil) (fun _ _ _ _ _ => pv 1)
      (fun _ _ _ _ _ => pe_lc (own := [("b", 2)]) (g := gName 2) rfl scopenrows.nd (pi_listK (K := K) rfl (pe_dget hu (pv 0) (pv 1) (fun _ _ => rfl))) (blkOk_by (own := [("b", 2)]) (N := ["wishes", "a", "b"]) (sc := cScope (retE (defBody sopenrows) 0)) (by decide +kernel)).rel
        (fun _ _ _ _ _ => pg_name (i := 2) scopenrows.nd rfl (Or.inl rfl)) (fun _ _ _ _ _ => pts_one (pt_cmpR (op_inSK (K := K) rfl hr.units) (pv 1) (pe_dget hu (pv 0) (pv 2) (fun _ _ => rfl)) (by rfl))) (fun _ _ _ _ _ => pv 2))))), ?_⟩
    obtain ⟨ad, hd, hrows⟩ := hR
    refine ⟨d, _, hd, True.intro, fun od => ?_⟩
    have sl : ∀ b o, b ≠ d → H b = some o → (upd H d (.frz od (.dK (ps.map fun a => (Sum.inr a, V.ref (ad a)))))) b = some o := fun b o n e => by rw [upd_ne n]; exact e
    generalize hL : upd H d (.frz od (.dK (ps.map fun a => (Sum.inr a, V.ref (ad a))))) = HL at sl
    have hf : HL d = some (.frz od (.dK (ps.map fun a => (Sum.inr a, V.ref (ad a))))) := by rw [← hL]; exact upd_same
    have back : ∀ H', Same HL H' → Same H (upd H' d (.dK (ps.map fun a => (Sum.inr a, V.ref (ad a))))) := fun H' s b o e => by
      by_cases hb : b = d
      · rw [hb, upd_same]
        rw [hb, hd] at e
        exact e
      · rw [upd_ne hb]
        exact s _ _ (sl b o hb e)
    have look : ∀ H', Same HL H' → ∀ a ∈ ps, DGet H' d (.str a) (some (.ref (ad a))) ∧ H' (ad a) = some (lstO (ws a)) := fun H' s a ha =>
      ⟨.inl ⟨_, Sum.inr a, .inr ⟨od, s _ _ hf⟩, rfl, (valV_rows ha).symm⟩, s _ _ (sl _ _ (hrows a ha).2 (hrows a ha).1)⟩
    refine ⟨_, rfl, d, od, rfl, .inl ⟨_, hf, fun D hD => dc_it walk_keys (fun i H' => Same HL H' ∧ RowsG H' D (ps.take i) (fun a => lstO (opn ws a))) ⟨Same.new hD, RowsG.nil upd_same⟩ (fun i H' _ z => z.1 _ _ hf) ?_ ?_⟩⟩
    · rintro i x Hx H1 hi ⟨s1, hR1⟩ ⟨rfl, k, v, hk, rfl⟩
      rw [List.length_map] at hi
      rw [List.getElem?_map] at hk
      cases ea : ps[i]? with
      | none => rw [ea] at hk; cases hk
      | some a =>
        rw [ea] at hk
        cases hk
        have ha : a ∈ ps := List.mem_of_getElem? ea
        obtain ⟨g1, g2⟩ := look H1 s1 a ha
        obtain ⟨hl1, hl2⟩ := hcl a ha
        have gL : SqL K H1 (ad a) ((ws a).map V.str) := SqL.of g2
        refine ⟨rfl, dcTurn ⟨_, rfl, _, rfl, _, rfl, d, _, rfl, g1, _, rfl, ⟨_, gL⟩, fun L hL2 => lc_it (walk_list (xs := (ws a).map V.str)) (fun j H' => Same H1 H' ∧ H' L = some (.lst ((((ws a).take j).filter fun b => decide (a ∈ ws b)).map V.str))) ⟨Same.new hL2, upd_same⟩ (fun j H' _ z => z.1.seq gL) ?_ ?_⟩⟩
        · rintro j y Hy H2 hj ⟨s2, hL3⟩ ⟨rfl, hy⟩
          rw [List.length_map] at hj
          rw [List.getElem?_map] at hy
          cases eb : (ws a)[j]? with
          | none => rw [eb] at hy; cases hy
          | some b =>
            rw [eb] at hy
            cases hy
            have hb : b ∈ ps := hl2 b (List.mem_of_getElem? eb)
            obtain ⟨g3, g4⟩ := look H2 (s1.trans s2) b hb
            have g4' : SqL K H2 (ad b) ((ws b).map V.str) := SqL.of g4
            refine ⟨rfl, _, rfl, _, rfl, _, rfl, d, _, rfl, g3, ad b, ws b, rfl, .inl g4', .flat rfl, _, rfl, ?_⟩
            have einS : inS (kV (Sum.inr a)) (ws b) = decide (a ∈ ws b) := inS_str
            rw [einS]
            have tk : ((ws a).take (j + 1)).filter (fun b => decide (a ∈ ws b)) = ((ws a).take j).filter (fun b => decide (a ∈ ws b)) ++ [b].filter (fun b => decide (a ∈ ws b)) := by
              rw [take_snoc eb, List.filter_append]
            have hlt : ((((ws a).take j).filter fun b => decide (a ∈ ws b)).map V.str).length < sizeLine := by
              have q1 := List.length_filter_le (fun b => decide (a ∈ ws b)) ((ws a).take j)
              rw [List.length_take] at q1
              rw [List.length_map]
              omega
            by_cases em : a ∈ ws b
            · rw [decide_eq_true em]
              refine iteT ⟨_, rfl, _, hL3, hlt, fun b' o' e' => ?_, ?_⟩
              · rw [upd_ne (ne_of_none e' hL2)]
                exact s2 _ _ e'
              · rw [upd_same, tk, List.filter_cons_of_pos (by exact decide_eq_true em), List.filter_nil, List.map_append]
                rfl
            · rw [decide_eq_false em]
              refine iteF ⟨s2, ?_⟩
              rw [hL3, tk, List.filter_cons_of_neg (by rw [decide_eq_false em]; decide), List.filter_nil, List.append_nil]
        · rintro H2 ⟨s2, hL3⟩
          rw [List.length_map, List.take_of_length_le (Nat.le_refl _)] at hL3
          have hDL : L ≠ D := by
            obtain ⟨ad2, e2, _⟩ := hR1
            intro z
            rw [z, e2] at hL2
            cases hL2
          obtain ⟨kvs, h1, h2, h3⟩ := hR1.snoc s2 (not_mem_take hnd ea) (p := L) hL3 hDL
          refine ⟨kvs, Sum.inr a, rfl, h1, ?_, ?_, ?_⟩
          · rw [h2, List.length_take]
            omega
          · intro b o e
            have hbD : b ≠ D := ne_of_none e hD
            rw [upd_ne hbD]
            exact s2 _ _ (s1 _ _ e)
          · rw [take_snoc ea]
            exact h3
    · rintro H1 ⟨s1, hR1⟩
      rw [List.length_map, List.take_of_length_le (Nat.le_refl _)] at hR1
      refine ⟨s1 _ _ hf, kq D _ (back H1 s1) ?_⟩
      obtain ⟨ad2, e2, q2⟩ := hR1
      have hDd : D ≠ d := fun z => by
        rw [z, hf] at hD
        cases hD
      refine ⟨ad2, by rw [upd_ne hDd]; exact e2, fun a ha => ⟨?_, (q2 a ha).2⟩⟩
      have hne : ad2 a ≠ d := fun z => by
        have q := (q2 a ha).1
        rw [z, s1 _ _ hf] at q
        cases q
      rw [upd_ne hne]
      exact (q2 a ha).1
end
end Qp
namespace Qp
open PySem L2
section
variable {P : Program} {w : World} {K : PySem.W.Frag} {mg : Str → Option Value} {base : Heap}
/-- _rank_rows(rows) -/
def spRR : Sp := fun vs H Q _ => ∃ (d : Addr) (ps : List Str) (ws : Str → List Str), vs = [.ref d] ∧ RowsG H d ps (fun a => lstO (ws a)) ∧ ps.Nodup ∧ ps.length ≤ 1000 ∧ (∀ a ∈ ps, (ws a).length ≤ 1000 ∧ (ws a).Nodup) ∧
  ∀ D H', Same H H' → RowsG H' D ps (fun a => rnkO (ws a)) → Q (.ref D) H'
theorem ok_rr {f : Addr} {fd : FuncData} (F : Fun K "_rank_rows" "_rank_rows" srankrows f fd) (B : Bl mg) : FnOk P w K mg base CX0 1 f fd ["rows"] spRR := by
  refine F.ok scrankrows (fun vs H Q E h => ?_) (fun cdv A outer s H vs Q E hr h => ?_)
  · obtain ⟨d, ps, ws, rfl, _⟩ := h
    rfl
  · obtain ⟨d, ps, ws, rfl, hR, hnd, hlen, hcl, kq⟩ := h
    have hu := hu_of hr
    have esz : sizeLine = 16777216 := sizeLine_eq
    refine ⟨_, pss_one (ps_ret (pe_lock (pe_dc (own := [("a", 1)]) (g := gName 1) (tt := tYes) rfl scrankrows.nd (pi_keys (pv 0)) (blkOk_by (own := [("a", 1)]) (N := ["rows", "a", "index", "b"]) (sc := defScope srankrows) (by decide +kernel))
      (fun _ _ _ _ _ => pg_name (i := 1) scrankrows.nd rfl (Or.inl rfl)) (fun _ _ _ _ _ => pts_nil) (fun _ _ _ _ _ => pv 1)
      (fun _ _ _ _ _ => pe_dc (own := [("index", 2), ("b", 3)]) (g := gTup K 2 (gCons (gName 2) (gCons (gName 3) gNil))) (tt := tYes) rfl scrankrows.nd (pi_enumK (K := K) rfl (by rfl) B.enum (pa_cons (pe_dget hu (pv 0) (pv 1) (fun _ _ => rfl)) pa_nil))
        (blkOk_by (own := [("index", 2), ("b", 3)]) (N := ["rows", "a", "index", "b"]) (sc := cScope (retE (defBody srankrows) 0)) (by decide +kernel)).rel
        (fun _ _ _ _ _ => pg_tupK (K := K) rfl rfl (pgs_cons (pg_name (i := 2) scrankrows.nd rfl (Or.inl rfl)) (pgs_cons (pg_name (i := 3) scrankrows.nd rfl (Or.inl rfl)) pgs_nil))) (fun _ _ _ _ _ => pts_nil) (fun _ _ _ _ _ => pv 3) (fun _ _ _ _ _ => pv 2))))), ?_⟩
    obtain ⟨ad, hd, hrows⟩ := hR
    refine ⟨d, _, hd, True.intro, fun od => ?_⟩
    have sl : ∀ b o, b ≠ d → H b = some o → (upd H d (.frz od (.dK (ps.map fun a => (Sum.inr a, V.ref (ad a)))))) b = some o := fun b o n e => by rw [upd_ne n]; exact e
    generalize hL : upd H d (.frz od (.dK (ps.map fun a => (Sum.inr a, V.ref (ad a))))) = HL at sl
    have hf : HL d = some (.frz od (.dK (ps.map fun a => (Sum.inr a, V.ref (ad a))))) := by rw [← hL]; exact upd_same
    have back : ∀ H', Same HL H' → Same H (upd H' d (.dK (ps.map fun a => (Sum.inr a, V.ref (ad a))))) := fun H' s b o e => by
      by_cases hb : b = d
      · rw [hb, upd_same]
        rw [hb, hd] at e
        exact e
      · rw [upd_ne hb]
        exact s _ _ (sl b o hb e)
    have look : ∀ H', Same HL H' → ∀ a ∈ ps, DGet H' d (.str a) (some (.ref (ad a))) ∧ H' (ad a) = some (lstO (ws a)) := fun H' s a ha =>
      ⟨.inl ⟨_, Sum.inr a, .inr ⟨od, s _ _ hf⟩, rfl, (valV_rows ha).symm⟩, s _ _ (sl _ _ (hrows a ha).2 (hrows a ha).1)⟩
    refine ⟨_, rfl, d, od, rfl, .inl ⟨_, hf, fun D hD => dc_it walk_keys (fun i H' => Same HL H' ∧ RowsG H' D (ps.take i) (fun a => rnkO (ws a))) ⟨Same.new hD, RowsG.nil upd_same⟩ (fun i H' _ z => z.1 _ _ hf) ?_ ?_⟩⟩
    · rintro i x Hx H1 hi ⟨s1, hR1⟩ ⟨rfl, k, v, hk, rfl⟩
      rw [List.length_map] at hi
      rw [List.getElem?_map] at hk
      cases ea : ps[i]? with
      | none => rw [ea] at hk; cases hk
      | some a =>
        rw [ea] at hk
        cases hk
        have ha : a ∈ ps := List.mem_of_getElem? ea
        obtain ⟨g1, g2⟩ := look H1 s1 a ha
        obtain ⟨hl1, hl2⟩ := hcl a ha
        have gL : SqL K H1 (ad a) ((ws a).map V.str) := SqL.of g2
        refine ⟨rfl, dcTurn ⟨_, rfl, _, rfl, _, rfl, d, _, rfl, g1, ad a, (ws a).map V.str, rfl, .inl gL, fun J G wk hG L hL2 => dc_it wk (fun j H' => Same H1 H' ∧ H' L = some (rnkO ((ws a).take j))) ⟨Same.new hL2, upd_same⟩ (fun j H' _ z => hG H' z.1) ?_ ?_⟩⟩
        · rintro j y H2 Hy hj ⟨s2, hL3⟩ ⟨T, x, y, rfl, hT, rfl, ex, ey⟩
          cases ex
          rw [List.length_map] at hj
          have ey : ((ws a).map V.str)[j]? = some y := ey
          rw [List.getElem?_map] at ey
          cases eb : (ws a)[j]? with
          | none => rw [eb] at ey; cases ey
          | some b =>
            rw [eb] at ey
            cases ey
            have hTL : L ≠ T := ne_of_none hL3 hT
            refine ⟨T, [.int (j : Nat), .str b], rfl, SqT.of upd_same, rfl, _, _, rfl, _, _, rfl, rfl, rfl, dcTurn ⟨_, rfl, _, rfl, _, Sum.inr b, rfl, by rw [upd_ne hTL]; exact hL3, ?_, fun b' o' e' => ?_, ?_⟩⟩
            · rw [List.length_map, List.length_zipIdx, List.length_take]
              omega
            · rw [upd_ne (ne_of_none e' hL2), upd_ne (ne_of_none (s2 _ _ e') hT)]
              exact s2 _ _ e'
            · have hlt : ((ws a).take j).length = j := by
                rw [List.length_take]
                omega
              rw [upd_same, putK_new _ (valV_rnk_none (not_mem_take hl2 eb)), take_snoc eb]
              unfold rnkO
              rw [zip_snoc, hlt]
        · rintro H2 ⟨s2, hL3⟩
          rw [List.length_map, List.take_of_length_le (Nat.le_refl _)] at hL3
          have hDL : L ≠ D := by
            obtain ⟨ad2, e2, _⟩ := hR1
            intro z
            rw [z, e2] at hL2
            cases hL2
          obtain ⟨kvs, h1, h2, h3⟩ := hR1.snoc s2 (not_mem_take hnd ea) (p := L) hL3 hDL
          refine ⟨kvs, Sum.inr a, rfl, h1, ?_, ?_, ?_⟩
          · rw [h2, List.length_take]
            omega
          · intro b o e
            have hbD : b ≠ D := ne_of_none e hD
            rw [upd_ne hbD]
            exact s2 _ _ (s1 _ _ e)
          · rw [take_snoc ea]
            exact h3
    · rintro H1 ⟨s1, hR1⟩
      rw [List.length_map, List.take_of_length_le (Nat.le_refl _)] at hR1
      refine ⟨s1 _ _ hf, kq D _ (back H1 s1) ?_⟩
      obtain ⟨ad2, e2, q2⟩ := hR1
      have hDd : D ≠ d := fun z => by
        rw [z, hf] at hD
        cases hD
      refine ⟨ad2, by rw [upd_ne hDd]; exact e2, fun a ha => ⟨?_, (q2 a ha).2⟩⟩
      have hne : ad2 a ≠ d := fun z => by
        have q := (q2 a ha).1
        rw [z, s1 _ _ hf] at q
        cases q
      rw [upd_ne hne]
      exact (q2 a ha).1
end
end Qp
namespace Qp
open PySem L2
/-- a group's attributes -/
def gF (a d1 d2 d3 : Addr) : List (Str × V) := putF "_ranks" (.ref d3) (putF "_opens" (.ref d2) (putF "_wishes" (.ref d1) (putF "_people" (.ref a) [])))
theorem n12 : ¬ ("_wishes" : Str) = "_people" := by decide +kernel
theorem n13 : ¬ ("_opens" : Str) = "_people" := by decide +kernel
theorem n14 : ¬ ("_ranks" : Str) = "_people" := by decide +kernel
theorem n23 : ¬ ("_opens" : Str) = "_wishes" := by decide +kernel
theorem n24 : ¬ ("_ranks" : Str) = "_wishes" := by decide +kernel
theorem n34 : ¬ ("_ranks" : Str) = "_opens" := by decide +kernel
theorem gF_people (a d1 d2 d3 : Addr) : (gF a d1 d2 d3).lookup ("_people" : Str) = some (.ref a) := by
  unfold gF
  rw [lookup_putF, if_neg (fun z => n14 z.symm), lookup_putF, if_neg (fun z => n13 z.symm), lookup_putF, if_neg (fun z => n12 z.symm), lookup_putF, if_pos rfl]
theorem gF_wishes (a d1 d2 d3 : Addr) : (gF a d1 d2 d3).lookup ("_wishes" : Str) = some (.ref d1) := by
  unfold gF
  rw [lookup_putF, if_neg (fun z => n24 z.symm), lookup_putF, if_neg (fun z => n23 z.symm), lookup_putF, if_pos rfl]
theorem gF_opens (a d1 d2 d3 : Addr) : (gF a d1 d2 d3).lookup ("_opens" : Str) = some (.ref d2) := by
  unfold gF
  rw [lookup_putF, if_neg (fun z => n34 z.symm), lookup_putF, if_pos rfl]
theorem gF_ranks (a d1 d2 d3 : Addr) : (gF a d1 d2 d3).lookup ("_ranks" : Str) = some (.ref d3) := by
  unfold gF
  rw [lookup_putF, if_pos rfl]
theorem gF_no (a d1 d2 d3 : Addr) {m : Str} (h1 : ¬ m = "_people") (h2 : ¬ m = "_wishes") (h3 : ¬ m = "_opens") (h4 : ¬ m = "_ranks") : (gF a d1 d2 d3).lookup m = none := by
  unfold gF
  rw [lookup_putF, if_neg h4, lookup_putF, if_neg h3, lookup_putF, if_neg h2, lookup_putF, if_neg h1]
  rfl
/-- a Group of the people ps with the wishes ws stands at p -/
def GroupAt (C : Addr) (H : Hp) (p : Addr) (ps : List Str) (ws : Str → List Str) : Prop := ∃ dx a d1 d2 d3, H p = some (.ins C dx (gF a d1 d2 d3)) ∧ H a = some (.tup (ps.map V.str)) ∧
  RowsG H d1 ps (fun x => lstO (ws x)) ∧ RowsG H d2 ps (fun x => lstO (opn ws x)) ∧ RowsG H d3 ps (fun x => rnkO (opn ws x))
/-- what the walk asks of the class -/
structure GTxt (K : PySem.W.Frag) (mg : Str → Option Value) (C : Addr) : Prop where
  cl : Cls K C
  n1 : NoAttr K C "_people"
  n2 : NoAttr K C "_wishes"
  n3 : NoAttr K C "_opens"
  n4 : NoAttr K C "_ranks"
  mgC : mg "Group" = some (.ref C)
theorem Leaves.on {C : Addr} {f : Str} {v : V} {H H1 : Hp} {E : XK} (h : Leaves C f v H E) (s : Same H H1) : Leaves C f v H1 E := fun d H' s' e => h d H' (s.trans s') e
def unS : Option (List V) → List Str
  | none => []
  | some xs => xs.filterMap fun x => match x with
    | .str z => some z
    | _ => none
theorem unS_map : ∀ zs : List Str, unS (some (zs.map V.str)) = zs
  | [] => rfl
  | z :: zs => by
    have ih := unS_map zs
    show z :: unS (some (zs.map V.str)) = z :: zs
    rw [ih]
theorem _root_.L2.RowsG.but {H H' : Hp} {p C dx : Addr} {fs : List (Str × V)} {d : Addr} {ps : List Str} {cnt : Str → HO} (R : RowsG H d ps cnt) (s : SameBut p H H') (hp : H p = some (.ins C dx fs)) (hc : ∀ a, cnt a ≠ .ins C dx fs) : RowsG H' d ps cnt := by
  obtain ⟨ad, e, q⟩ := R
  refine ⟨ad, s _ _ (ne_of e hp (by intro z; cases z)) e, fun a ha => ⟨s _ _ (ne_of (q a ha).1 hp (hc a)) (q a ha).1, (q a ha).2⟩⟩
theorem lst_ins (ss : List Str) (C dx : Addr) (fs : List (Str × V)) : lstO ss ≠ .ins C dx fs := by intro z; cases z
theorem rnk_ins (ss : List Str) (C dx : Addr) (fs : List (Str × V)) : rnkO ss ≠ .ins C dx fs := by intro z; cases z
section
variable {P : Program} {w : World} {K : PySem.W.Frag} {mg : Str → Option Value} {base : Heap}
/-- Group.__init__(self, people, wishes) -/
def spGI (C B W : Addr) : Sp := fun vs H Q E => ∃ (p dx : Addr) (x y : V) (o : Option (List V)) (k : Kd), vs = [.ref p, x, y] ∧ H p = some (.ins C dx []) ∧ TupOf H x o ∧ IsK H y k ∧
  (∀ i, dueP o = some i → Leaves B "index" (.int i) H E) ∧
  ∀ (a : Addr) (ps : List Str), dueP o = none → o = some (ps.map V.str) → x = .ref a → ps.Nodup → (∀ z ∈ ps, nameS z = true) → ps.length ≤ 16 →
    (k ≠ .dct → Leaves W "person" (.str "") H E) ∧
    ∀ d kvs, y = .ref d → H d = some (.dK kvs) → (hasB kvs ps = false → Leaves W "person" (.str "") H E) ∧ (hasB kvs ps = true → ∃ wo : Str → Option (List V),
      (∀ p ∈ ps, ∃ v, valV kvs (Sum.inr p) = some v ∧ LstOf H v (wo p)) ∧
      ((∀ p ∈ ps, okW ps p (wo p) = true) → ∀ (ws : Str → List Str) (H' : Hp), (∀ p ∈ ps, wo p = some ((ws p).map V.str)) → (∀ p ∈ ps, (ws p).Nodup ∧ (∀ q ∈ ws p, q ∈ ps ∧ q ≠ p) ∧ (ws p).length ≤ 1000) → SameBut p H H' → GroupAt C H' p ps ws → Q .non H') ∧
      ∀ (ys pre post : List Str) (p : Str), ys.Perm ps → PyProof.Rows.sortedS ys = true → ys = pre ++ p :: post → (∀ q ∈ pre, okW ps q (wo q) = true) → okW ps p (wo p) = false → Leaves W "person" (.str p) H E)
theorem due_none {xs : List V} (h : dueP (some xs) = none) : ∃ ps : List Str, xs = ps.map V.str ∧ ps.Nodup ∧ (∀ z ∈ ps, nameS z = true) ∧ ps.length ≤ 16 := by
  unfold dueP at h
  by_cases c : xs.length ≤ 16
  · simp only [if_pos c] at h
    cases e : badFrom nameV [] xs with
    | some i => rw [e] at h; cases h
    | none =>
      obtain ⟨h1, h2⟩ := badFrom_none List.nodup_nil e
      obtain ⟨ps, rfl, hz⟩ := strs_of h1
      rw [List.length_map] at c
      refine ⟨ps, rfl, ?_, hz, c⟩
      rw [List.nil_append] at h2
      exact List.Pairwise.of_map V.str (fun a b h e => h (by rw [e])) h2
  · simp only [if_neg c] at h
    cases h
theorem okW_some {ps : List Str} {p : Str} {o : Option (List V)} (h : okW ps p o = true) : ∃ zs : List Str, o = some (zs.map V.str) ∧ zs.Nodup ∧ ∀ q ∈ zs, q ∈ ps ∧ q ≠ p := by
  cases o with
  | none => cases h
  | some xs =>
    have h1 := of_decide_eq_true h
    cases e : badFrom (fun x => inS x (ps.filter fun z => !decide (z = p))) [] xs with
    | some i => rw [e] at h1; cases h1
    | none =>
      obtain ⟨g1, g2⟩ := badFrom_none List.nodup_nil e
      rw [List.nil_append] at g2
      have : ∃ zs : List Str, xs = zs.map V.str := by
        clear h h1 e g2
        induction xs with
        | nil => exact ⟨[], rfl⟩
        | cons x r ih =>
          obtain ⟨zs, ez⟩ := ih fun y hy => g1 y (List.mem_cons_of_mem _ hy)
          obtain ⟨z, _, hz⟩ := inS_iff.mp (g1 x List.mem_cons_self)
          exact ⟨z :: zs, by rw [hz, ez]; rfl⟩
      obtain ⟨zs, rfl⟩ := this
      refine ⟨zs, rfl, List.Pairwise.of_map V.str (fun a b h e => h (by rw [e])) g2, fun q hq => ?_⟩
      obtain ⟨z, hz, e2⟩ := inS_iff.mp (g1 (.str q) (List.mem_map.mpr ⟨q, hq, rfl⟩))
      cases e2
      obtain ⟨z1, z2⟩ := List.mem_filter.mp hz
      exact ⟨z1, by simpa using z2⟩
theorem ok_gi {f C CB CW : Addr} {fd : FuncData} (F : Fun K "__init__" "Group.__init__" sGroupinit f fd) (B : Bl mg) (T : GTxt K mg C) (cP : CF P w K mg base (L2.CX P w) 2 "_check_people" ["people"] (spCP CB)) (cW : CF P w K mg base (L2.CX P w) 3 "_check_wishes" ["people", "wishes"] (spCW CW))
    (cO : CF P w K mg base CX0 1 "_open_rows" ["wishes"] spOR) (cR : CF P w K mg base CX0 1 "_rank_rows" ["rows"] spRR) : FnOk P w K mg base (L2.CX P w) 4 f fd ["self", "people", "wishes"] (spGI C CB CW) := by
  refine F.okX scGroupinit (fun vs H Q E h => ?_) (fun cdv A outer s H vs Q E hr h => ?_)
  · obtain ⟨p, dx, x, y, o, k, rfl, _⟩ := h
    rfl
  · obtain ⟨p, dx, x, y, o, k, rfl, hp, hx, hy, kP, kW⟩ := h
    have hu := hu_of hr
    have esz : sizeLine = 16777216 := sizeLine_eq
    have hr1 : Room 1 _ := hr.mono (by decide)
    have hr2 : Room 2 _ := hr.mono (by decide)
    refine ⟨_, pss_cons (ps_expr (pe_cf cP hr2 (passes_call (takes_of rfl rfl rfl rfl) (fun _ _ _ _ h => h)) (pa_cons (pv 1) pa_nil)))
      (pss_cons (ps_expr (pe_cf cW hr (passes_call (takes_of rfl rfl rfl rfl) (fun _ _ _ _ h => h)) (pa_cons (pv 1) (pa_cons (pv 2) pa_nil))))
      (pss_cons (ps_fld (pv 0) (pv 1) rfl)
      (pss_cons (ps_fld (pv 0) (pe_dc (own := [("a", 3)]) (g := gName 3) (tt := tYes) rfl scGroupinit.nd (pi_seq 1) (blkOk_by (own := [("a", 3)]) (N := ["self", "people", "wishes", "a"]) (sc := defScope sGroupinit) (by decide +kernel))
        (fun _ _ _ _ _ => pg_name (i := 3) scGroupinit.nd rfl (Or.inl rfl)) (fun _ _ _ _ _ => pts_nil) (fun _ _ _ _ _ => pv 3)
        (fun _ _ _ _ _ => pe_callTy (call_listK (K := K) rfl) (by rfl) B.lst (by decide +kernel) (pa_cons (pe_dget hu (pv 2) (pv 3) (fun _ _ => rfl)) pa_nil))) rfl)
      (pss_cons (ps_fld (pv 0) (pe_cf cO hr1 pass0 (pa_cons (pe_fld (pv 0) rfl) pa_nil)) rfl)
      (pss_one (ps_fld (pv 0) (pe_cf cR hr1 pass0 (pa_cons (pe_fld (pv 0) rfl) pa_nil)) rfl)))))), ?_⟩
    refine ⟨_, rfl, x, o, rfl, hx, fun hdue H1 s1 => ?_, fun i hi => kP i hi⟩
    cases o with
    | none => cases hdue
    | some xs =>
      obtain ⟨ps, rfl, hnd, hnm, hl16⟩ := due_none hdue
      obtain ⟨kx, ikx, a, rfl, ha, hgood, _⟩ := hx
      obtain ⟨kW1, kW2⟩ := kW a ps hdue rfl rfl hnd hnm hl16
      refine ⟨_, rfl, _, rfl, a, y, k, ps, rfl, s1 _ _ ha, by omega, hy.same s1, fun hk => (kW1 hk).on s1, fun d kvs ey hd1 => ?_⟩
      subst ey
      have hd : H d = some (.dK kvs) := by
        cases hy with
        | lst h => rw [s1 _ _ h] at hd1; cases hd1
        | tup h => rw [s1 _ _ h] at hd1; cases hd1
        | dct h =>
          rw [s1 _ _ h] at hd1
          cases hd1
          exact h
      obtain ⟨k1, k2⟩ := kW2 d kvs rfl hd
      refine ⟨fun e => (k1 e).on s1, fun e => ?_⟩
      obtain ⟨wo, hw, kok, kbad⟩ := k2 e
      refine ⟨wo, fun q hq => ?_, fun hok H2 s2' => ?_, fun ys pre post q hys hs es hpre hq => (kbad ys pre post q hys hs es hpre hq).on s1⟩
      · obtain ⟨v, hv, hl⟩ := hw q hq
        exact ⟨v, hv, hl.same s1⟩
      · have s2 : Same H H2 := s1.trans s2'
        have hws : ∀ q ∈ ps, wo q = some ((unS (wo q)).map V.str) ∧ (unS (wo q)).Nodup ∧ (∀ r ∈ unS (wo q), r ∈ ps ∧ r ≠ q) ∧ (unS (wo q)).length ≤ 1000 := fun q hq => by
          obtain ⟨zs, ez, hz1, hz2⟩ := okW_some (hok q hq)
          rw [ez, unS_map]
          refine ⟨rfl, hz1, hz2, ?_⟩
          have := nodup_sub_length hz1 fun r hr => (hz2 r hr).1
          omega
        have K2 := fun H' => kok hok (fun q => unS (wo q)) H' (fun q hq => (hws q hq).1) (fun q hq => (hws q hq).2)
        generalize hwsd : (fun q => unS (wo q)) = ws at K2
        have hws' : ∀ q ∈ ps, wo q = some ((ws q).map V.str) ∧ (ws q).Nodup ∧ (∀ r ∈ ws q, r ∈ ps ∧ r ≠ q) ∧ (ws q).length ≤ 1000 := by
          rw [← hwsd]
          exact hws
        have hp2 := s2 _ _ hp
        -- self._people = people
        refine ⟨_, rfl, _, rfl, p, C, dx, _, rfl, hp2, T.cl, T.n1, (by show 0 < 1000; decide), ?_⟩
        have b3 : SameBut p H (upd H2 p (.ins C dx (putF "_people" (.ref a) []))) := (s2.but p).trans SameBut.set
        generalize hH3 : upd H2 p (.ins C dx (putF "_people" (.ref a) [])) = H3 at b3
        have hp3 : H3 p = some (.ins C dx (putF "_people" (.ref a) [])) := by rw [← hH3]; exact upd_same
        have nap : a ≠ p := ne_of ha hp (by intro z; cases z)
        have ndp : d ≠ p := ne_of hd hp (by intro z; cases z)
        -- self._wishes = {a: list(wishes[a]) for a in people}
        refine ⟨a, ps.map V.str, rfl, .inr (SqT.of (b3 _ _ nap ha)), fun J G wk hG D hD => dc_it wk (fun i H' => Same H3 H' ∧ RowsG H' D (ps.take i) (fun x => lstO (ws x))) ⟨Same.new hD, RowsG.nil upd_same⟩ (fun i H' _ z => hG H' z.1) ?_ ?_⟩
        · rintro i z Hz H4 hi ⟨s4, R4⟩ ⟨rfl, hz⟩
          rw [List.length_map] at hi
          rw [List.getElem?_map] at hz
          cases ez : ps[i]? with
          | none => rw [ez] at hz; cases hz
          | some q =>
            rw [ez] at hz
            cases hz
            have hq : q ∈ ps := List.mem_of_getElem? ez
            obtain ⟨v, hv, kv, ikv, hl⟩ := hw q hq
            obtain ⟨e1, _⟩ := hws' q hq
            rw [e1] at hl
            obtain ⟨av, rfl, hav, _⟩ := hl
            have navp : av ≠ p := ne_of hav hp (by intro z; cases z)
            refine ⟨rfl, dcTurn ⟨_, rfl, _, rfl, _, rfl, d, _, rfl, by rw [← hv]; exact DGet.k (k := Sum.inr q) (s4 _ _ (b3 _ _ ndp hd)), av, _, rfl, .inl (SqL.of (s4 _ _ (b3 _ _ navp hav))), fun L hL => ?_⟩⟩
            have hLD : L ≠ D := by
              obtain ⟨ad2, e2, _⟩ := R4
              intro z
              rw [z, e2] at hL
              cases hL
            obtain ⟨kv2, h1, h2, h3⟩ := R4.snoc (Same.new (o := .lst ((ws q).map V.str)) hL) (not_mem_take hnd ez) (p := L) upd_same hLD
            refine ⟨kv2, Sum.inr q, rfl, h1, ?_, ?_, ?_⟩
            · rw [h2, List.length_take]
              omega
            · intro b o e
              rw [upd_ne (ne_of_none e hD), upd_ne (ne_of_none (s4 _ _ e) hL)]
              exact s4 _ _ e
            · rw [take_snoc ez]
              exact h3
        · rintro H4 ⟨s4, R4⟩
          rw [List.length_map, List.take_of_length_le (Nat.le_refl _)] at R4
          have hp4 := s4 _ _ hp3
          have l1 := length_putF "_people" (V.ref a) []
          have l2 := length_putF "_wishes" (V.ref D) (putF "_people" (V.ref a) [])
          refine ⟨_, rfl, p, C, dx, _, rfl, hp4, T.cl, T.n2, Nat.lt_of_le_of_lt l1 (by show 1 < 1000; decide), ?_⟩
          have b5 : SameBut p H4 (upd H4 p (.ins C dx (putF "_wishes" (.ref D) (putF "_people" (.ref a) [])))) := SameBut.set
          have R5 := R4.but b5 hp4 (fun _ => lst_ins _ _ _ _)
          generalize hH5 : upd H4 p (.ins C dx (putF "_wishes" (.ref D) (putF "_people" (.ref a) []))) = H5 at b5 R5
          have hp5 : H5 p = some (.ins C dx (putF "_wishes" (.ref D) (putF "_people" (.ref a) []))) := by rw [← hH5]; exact upd_same
          have t5 : SameBut p H H5 := (b3.trans (s4.but p)).trans b5
          -- self._opens = _open_rows(self._wishes)
          refine ⟨_, rfl, p, C, dx, _, _, rfl, hp5, T.cl, T.n2, by rw [lookup_putF, if_pos rfl], D, ps, ws, rfl, R5, hnd, by omega, fun q hq => ⟨(hws' q hq).2.2.2, fun r hr => ((hws' q hq).2.2.1 r hr).1⟩, fun D2 H6 s6 R6 => ?_⟩
          have hp6 := s6 _ _ hp5
          refine ⟨_, rfl, p, C, dx, _, rfl, hp6, T.cl, T.n3, Nat.lt_of_le_of_lt l2 (Nat.lt_of_le_of_lt (Nat.add_le_add_right l1 1) (by show 2 < 1000; decide)), ?_⟩
          have b7 : SameBut p H6 (upd H6 p (.ins C dx (putF "_opens" (.ref D2) (putF "_wishes" (.ref D) (putF "_people" (.ref a) []))))) := SameBut.set
          have R7 := R6.but b7 hp6 (fun _ => lst_ins _ _ _ _)
          have R7w := (R5.same s6).but b7 hp6 (fun _ => lst_ins _ _ _ _)
          have l3 := length_putF "_opens" (V.ref D2) (putF "_wishes" (V.ref D) (putF "_people" (V.ref a) []))
          generalize hH7 : upd H6 p (.ins C dx (putF "_opens" (.ref D2) (putF "_wishes" (.ref D) (putF "_people" (.ref a) [])))) = H7 at b7 R7 R7w
          have hp7 : H7 p = some (.ins C dx (putF "_opens" (.ref D2) (putF "_wishes" (.ref D) (putF "_people" (.ref a) [])))) := by rw [← hH7]; exact upd_same
          have t7 : SameBut p H H7 := (t5.trans (s6.but p)).trans b7
          -- self._ranks = _rank_rows(self._opens)
          refine ⟨_, rfl, p, C, dx, _, _, rfl, hp7, T.cl, T.n3, by rw [lookup_putF, if_pos rfl], D2, ps, opn ws, rfl, R7, hnd, by omega, fun q hq => ⟨?_, (hws' q hq).2.1.filter _⟩, fun D3 H8 s8 R8 => ?_⟩
          · exact Nat.le_trans (List.length_filter_le _ _) (hws' q hq).2.2.2
          have hp8 := s8 _ _ hp7
          refine ⟨_, rfl, p, C, dx, _, rfl, hp8, T.cl, T.n4, Nat.lt_of_le_of_lt l3 (Nat.lt_of_le_of_lt (Nat.add_le_add_right (Nat.le_trans l2 (Nat.add_le_add_right l1 1)) 1) (by show 3 < 1000; decide)), ?_⟩
          have b9 : SameBut p H8 (upd H8 p (.ins C dx (gF a D D2 D3))) := SameBut.set
          refine K2 _ ((t7.trans (s8.but p)).trans b9) ⟨dx, a, D, D2, D3, upd_same, ?_, (R7w.same s8).but b9 hp8 (fun _ => lst_ins _ _ _ _), (R7.same s8).but b9 hp8 (fun _ => lst_ins _ _ _ _), R8.but b9 hp8 (fun _ => rnk_ins _ _ _ _)⟩
          exact ((t7.trans (s8.but p)).trans b9) _ _ nap ha
end
end Qp
namespace Qp
open PySem L2
section
variable {P : Program} {w : World} {K : PySem.W.Frag} {mg : Str → Option Value} {base : Heap}
/-- _law_take(state, many) -/
def spTake : Sp := fun vs H Q _ => ∃ (st : Addr) (m : Int), vs = [.ref st, .int m] ∧ 0 < m ∧ m < 1000 ∧ StAt H st ∧ ∀ (d n s : Int), 0 ≤ d → d < m → 0 ≤ n → 0 ≤ s → s < 2147483629 → Q (.int d) (upd H st (.lst [.int n, .int s]))
theorem ok_take {f : Addr} {fd : FuncData} (F : Fun K "_law_take" "_law_take" sLtake f fd) (B : Bl mg) : FnOk P w K mg base CX0 1 f fd ["_law_state", "_law_many"] spTake := by
  refine F.ok scLtake (fun vs H Q E h => ?_) (fun cdv A outer s H vs Q E hr h => ?_)
  · obtain ⟨st, m, rfl, _⟩ := h
    rfl
  · obtain ⟨st, m, rfl, hm0, hm1, ⟨n, z, hst, hn, hz0, hz1⟩, kq⟩ := h
    have it0 : PE (cxOf CX0 P w K mg base ["_law_state", "_law_many", "_law_digit", "_law_mixed_here"] "_law_take" (defScope sLtake) f cdv A outer s H E).nox (.Name "_law_state" ⟨0, 0, 0, 0⟩) (tVar 0) := pv 0
    refine ⟨_, pss_cons (ps_if (pt_cmpR op_gt (pe_ix ix_list (pv 0) pe_int (fun _ _ => rfl)) pe_int (nomark _))
        (pss_cons (ps_set (i := 2) scLtake.nd rfl (Or.inl rfl) (pe_op op_modN (pe_callTy call_int1 (by rfl) B.int (by decide +kernel) (pa_cons (pe_ix ix_list (pv 0) pe_int (fun _ _ => rfl)) pa_nil)) (pv 1)))
        (pss_cons (ps_asg (pe_op op_fdivN (pe_callTy call_int1 (by rfl) B.int (by decide +kernel) (pa_cons (pe_ix ix_list (pv 0) pe_int (fun _ _ => rfl)) pa_nil)) (pv 1)) (pg_sub (pv 0) pe_int set_list))
        (pss_one (ps_ret (pv 2))))) pss_nil)
      (pss_cons (ps_asg (pe_op op_modN (pe_callTy call_int1 (by rfl) B.int (by decide +kernel) (pa_cons (pe_op op_add (pe_op op_mul (pe_ix ix_list (pv 0) pe_int (fun _ _ => rfl)) pe_int) pe_int) pa_nil)) pe_int) (pg_sub (pv 0) pe_int set_list))
      (pss_cons (ps_set (i := 3) scLtake.nd rfl (Or.inl rfl) (pe_op op_modN (pe_callTy call_int1 (by rfl) B.int (by decide +kernel) (pa_cons (pe_op op_mul (pe_ix ix_list (pv 0) pe_int (fun _ _ => rfl))
        (pe_op op_add (pe_op op_fdivN (pe_ix ix_list (pv 0) pe_int (fun _ _ => rfl)) pe_int) pe_int)) pa_nil)) pe_int))
      (pss_one (ps_ret (pe_op op_modN (pe_callTy call_int1 (by rfl) B.int (by decide +kernel) (pa_cons (pe_op op_fdivN (pv 3) pe_int) pa_nil)) (pv 1)))))), ?_⟩
    have a0 : atI [V.int n, V.int z] 0 = some (.int n) := atI_nat (j := 0) rfl
    have a1 : atI [V.int n, V.int z] 1 = some (.int z) := atI_nat (j := 1) rfl
    refine ⟨_, rfl, st, _, 0, _, rfl, rfl, SqL.of hst, a0, _, _, rfl, rfl, _, rfl, ?_⟩
    refine ite2 (fun h1 => ?_) (fun h1 => ?_)
    · have h2 : 0 < n := of_decide_eq_true h1
      refine ⟨_, rfl, st, _, 0, _, rfl, rfl, SqL.of hst, a0, .inl ⟨_, rfl, _, rfl, _, _, rfl, rfl, by omega, ?_⟩⟩
      refine ⟨_, rfl, st, _, 0, _, rfl, rfl, SqL.of hst, a0, .inl ⟨_, rfl, _, rfl, _, _, rfl, rfl, ⟨by omega, by omega⟩, ?_⟩⟩
      refine ⟨_, rfl, st, [.int n, .int z], 0, 0, rfl, rfl, hst, by rfl, _, rfl, ?_⟩
      refine kq (n.fmod m) (n.fdiv m) z ?_ ?_ ?_ hz0 hz1
      · exact Int.fmod_nonneg_of_pos _ hm0
      · exact Int.fmod_lt_of_pos _ hm0
      · exact Int.fdiv_nonneg hn (by omega)
    · refine ⟨_, rfl, st, _, 1, _, rfl, rfl, SqL.of hst, a1, _, _, rfl, rfl, .inl ⟨by omega, by omega⟩, _, _, rfl, rfl, .inl ⟨_, rfl, _, _, rfl, rfl, (by show (2147483629 : Int) ≠ 0; decide), ?_⟩⟩
      have f0 : 0 ≤ (z * 48271 + 30103).fmod 2147483629 := Int.fmod_nonneg_of_pos _ (by decide)
      have f1 : (z * 48271 + 30103).fmod 2147483629 < 2147483629 := Int.fmod_lt_of_pos _ (by decide)
      generalize hz2 : (z * 48271 + 30103).fmod 2147483629 = z2 at f0 f1
      refine ⟨_, rfl, st, [.int n, .int z], 1, 1, rfl, rfl, hst, by rfl, ?_⟩
      have b1 : atI ([V.int n, V.int z].set 1 (V.int ((z * 48271 + 30103).fmod 2147483629))) 1 = some (V.int ((z * 48271 + 30103).fmod 2147483629)) := atI_nat (j := 1) rfl
      refine ⟨_, rfl, st, _, 1, _, rfl, rfl, SqL.of upd_same, b1, _, rfl, st, _, 1, _, rfl, rfl, SqL.of upd_same, b1, _, _, rfl, rfl, ⟨by decide, by decide⟩, _, _, rfl, rfl, _, _, rfl, rfl, .inl ⟨?_, ?_⟩, .inl ⟨_, rfl, _, _, rfl, rfl, (by show (2147483647 : Int) ≠ 0; decide), ?_⟩⟩
      · rw [hz2]
        omega
      · rw [hz2]
        omega
      · refine ⟨_, rfl, _, _, rfl, rfl, ⟨by decide, by decide⟩, .inl ⟨_, rfl, _, rfl, _, _, rfl, rfl, by omega, ?_⟩⟩
        have e : (upd H st (.lst ([V.int n, V.int z].set 1 (V.int ((z * 48271 + 30103).fmod 2147483629))))) = upd H st (.lst [.int n, .int z2]) := by rw [hz2]; rfl
        show Q _ (upd H st (.lst ([V.int n, V.int z].set 1 (V.int ((z * 48271 + 30103).fmod 2147483629)))))
        rw [e]
        exact kq _ n z2 (Int.fmod_nonneg_of_pos _ hm0) (Int.fmod_lt_of_pos _ hm0) hn f0 f1
/-- _law_cell(script, k) -/
def spCell (K : PySem.W.Frag) : Sp := fun vs H Q _ => ∃ (a : Addr) (ns : List Int), vs = [.ref a, .int 0] ∧ SqL K H a (ns.map V.int) ∧ ns.length ≤ 63 ∧ ∀ (p : Addr) (n s : Int), H p = none → 0 ≤ n → 0 ≤ s → s < 2147483629 → Q (.ref p) (upd H p (.lst [.int n, .int s]))
theorem ok_cell {f : Addr} {fd : FuncData} (F : Fun K "_law_cell" "_law_cell" sLcell f fd) (B : Bl mg) : FnOk P w K mg base CX0 1 f fd ["_law_script", "_law_k"] (spCell K) := by
  refine F.ok scLcell (fun vs H Q E h => ?_) (fun cdv A outer s H vs Q E hr h => ?_)
  · obtain ⟨a, ns, rfl, _⟩ := h
    rfl
  · obtain ⟨a, ns, rfl, ha, hl, kq⟩ := h
    have rest : ∀ num : Int, 0 ≤ num → ∃ t, PSs (cxOf CX0 P w K mg base ["_law_script", "_law_k", "_law_number", "_law_seed"] "_law_cell" (defScope sLcell) f cdv A outer s H E).nox ((defBody sLcell).drop 2) t ∧
        t { nx := fun _ H' => Q .non H', rt := Q } [some (.ref a), some (.int 0), some (.int num), none] H := fun num hnum => by
      refine ⟨_, pss_cons (ps_set (i := 3) scLcell.nd rfl (Or.inl rfl) (pe_op op_modN (pe_callTy call_int1 (by rfl) B.int (by decide +kernel) (pa_cons (pe_op op_add (pe_op op_add (pe_op op_add (pv 2) (pe_op op_mul pe_int (pv 1)))
            (pe_op op_mul pe_int (pe_callB (call_min2 rfl) (by rfl) B.min (by decide +kernel) (pa_cons (pe_callB call_len_seq (by rfl) B.len PySem.boot_len (pa_cons (pv 0) pa_nil)) (pa_cons pe_int pa_nil))))) pe_int) pa_nil)) pe_int))
        (pss_cons (ps_set (i := 3) scLcell.nd rfl (Or.inl rfl) (pe_op op_modN (pe_callTy call_int1 (by rfl) B.int (by decide +kernel) (pa_cons (pe_op op_add (pe_op op_add (pe_op op_mul (pe_op op_mul (pv 3) (pv 3)) (pv 3)) (pe_op op_mul pe_int (pv 3))) pe_int) pa_nil)) pe_int))
        (pss_cons (ps_if (pt_cmpR op_lt (pv 2) (pe_op op_pow pe_int pe_int) (nomark _)) (pss_one (ps_ret (pe_lst (pa_cons pe_int (pa_cons (pv 3) pa_nil))))) pss_nil)
        (pss_one (ps_ret (pe_lst (pa_cons (pv 2) (pa_cons (pv 3) pa_nil))))))), ?_⟩
      refine ⟨_, rfl, _, rfl, _, _, rfl, rfl, .inl ⟨by decide, by decide⟩, _, _, rfl, rfl, _, rfl, a, _, rfl, .inl ha, _, _, rfl, _, _, rfl, rfl, .inl ⟨by decide, by decide⟩, _, _, rfl, rfl, _, _, rfl, rfl, .inl ⟨_, rfl, _, _, rfl, rfl, (by show (2147483629 : Int) ≠ 0; decide), ?_⟩⟩
      generalize (num + 7919 * 0 + 104729 * (if (63 : Int) < (((ns.map V.int).length : Nat) : Int) then (63 : Int) else (((ns.map V.int).length : Nat) : Int)) + 17) = y
      have f0 : 0 ≤ y.fmod 2147483629 := Int.fmod_nonneg_of_pos _ (by decide)
      have f1 : y.fmod 2147483629 < 2147483629 := Int.fmod_lt_of_pos _ (by decide)
      have m0 : 0 ≤ y.fmod 2147483629 * y.fmod 2147483629 := Int.mul_nonneg f0 f0
      have m1 : y.fmod 2147483629 * y.fmod 2147483629 < 2 ^ 64 := by
        have q : y.fmod 2147483629 * y.fmod 2147483629 ≤ 2147483629 * 2147483629 := Int.mul_le_mul (by omega) (by omega) f0 (by decide)
        omega
      refine ⟨_, rfl, _, rfl, _, _, rfl, rfl, .inl ⟨by omega, by omega⟩, _, rfl, _, _, rfl, rfl, .inl ⟨by omega, by omega⟩, _, rfl, _, _, rfl, rfl, .inl ⟨by decide, by decide⟩, _, _, rfl, rfl, _, _, rfl, rfl, .inl ⟨_, rfl, _, _, rfl, rfl, (by show (2147483629 : Int) ≠ 0; decide), ?_⟩⟩
      have g0 : 0 ≤ (y.fmod 2147483629 * y.fmod 2147483629 * y.fmod 2147483629 + 69621 * y.fmod 2147483629 + 11).fmod 2147483629 := Int.fmod_nonneg_of_pos _ (by decide)
      have g1 : (y.fmod 2147483629 * y.fmod 2147483629 * y.fmod 2147483629 + 69621 * y.fmod 2147483629 + 11).fmod 2147483629 < 2147483629 := Int.fmod_lt_of_pos _ (by decide)
      refine ⟨_, rfl, _, _, rfl, rfl, ⟨by decide, by decide, by decide⟩, _, _, rfl, rfl, _, rfl, ite2 (fun _ => ?_) (fun _ => ?_)⟩
      · exact ⟨_, rfl, by show 2 ≤ sizeLine; decide, fun p hp => kq p 0 _ hp (by decide) g0 g1⟩
      · exact ⟨_, rfl, _, rfl, by show 2 ≤ sizeLine; decide, fun p hp => kq p num _ hp hnum g0 g1⟩
    have hnum : ∀ num : Int, 0 ≤ (if num < 0 then -num else num) := fun num => by
      by_cases h : num < 0
      · rw [if_pos h]
        omega
      · rw [if_neg h]
        omega
    by_cases h0 : 0 < ns.length
    · obtain ⟨n0, e0⟩ : ∃ n0, ns[0]? = some n0 := ⟨ns[0], by simp [h0]⟩
      obtain ⟨t, ht, hq⟩ := rest _ (hnum n0)
      refine ⟨_, pss_cons (ps_set (i := 2) scLcell.nd rfl (Or.inl rfl) pe_int)
        (pss_cons (ps_if (pt_cmpR op_lt (pv 1) (pe_callB call_len_seq (by rfl) B.len PySem.boot_len (pa_cons (pv 0) pa_nil)) (nomark _))
          (pss_one (ps_set (i := 2) scLcell.nd rfl (Or.inl rfl) (pe_callB call_abs (by rfl) B.abs (by decide +kernel) (pa_cons (pe_ix ix_list (pv 0) (pv 1) (fun _ _ => rfl)) pa_nil)))) pss_nil) ht), ?_⟩
      refine ⟨_, rfl, _, rfl, a, _, rfl, .inl ha, _, _, rfl, rfl, _, rfl, ?_⟩
      rw [decide_eq_true (show (0 : Int) < (((ns.map V.int).length : Nat) : Int) by rw [List.length_map]; omega)]
      refine iteT ⟨_, rfl, _, rfl, a, _, 0, .int n0, rfl, rfl, ha, atI_nat (j := 0) (by rw [List.getElem?_map, e0]; rfl), _, rfl, hq⟩
    · obtain ⟨t, ht, hq⟩ := rest 0 (Int.le_refl 0)
      refine ⟨_, pss_cons (ps_set (i := 2) scLcell.nd rfl (Or.inl rfl) pe_int)
        (pss_cons (ps_if (pt_cmpR op_lt (pv 1) (pe_callB call_len_seq (by rfl) B.len PySem.boot_len (pa_cons (pv 0) pa_nil)) (nomark _))
          (pss_one (ps_set (i := 2) scLcell.nd rfl (Or.inl rfl) (pe_callB call_abs (by rfl) B.abs (by decide +kernel) (pa_cons (pe_ix ix_list (pv 0) (pv 1) (fun _ _ => rfl)) pa_nil)))) pss_nil) ht), ?_⟩
      refine ⟨_, rfl, _, rfl, a, _, rfl, .inl ha, _, _, rfl, rfl, _, rfl, ?_⟩
      rw [decide_eq_false (show ¬ (0 : Int) < (((ns.map V.int).length : Nat) : Int) by rw [List.length_map]; omega)]
      exact iteF hq
end
end Qp
namespace Qp
open PySem L2 TL
theorem abc_at (d : Nat) (h : d < 26) : ("abcdefghijklmnopqrstuvwxyz" : Str).cps.toList[d]? = some (97 + d) := by
  have e : ("abcdefghijklmnopqrstuvwxyz" : Str).cps.toList = List.range' 97 26 := by decide +kernel
  rw [e, List.getElem?_range' h]
  simp
theorem abc_len : ("abcdefghijklmnopqrstuvwxyz" : Str).length = 26 := by decide +kernel
theorem joinL_one : ∀ cs : List Nat, joinL [] (cs.map fun c => [c]) = cs
  | [] => rfl
  | [c] => rfl
  | c :: d :: r => by
    have ih := joinL_one (d :: r)
    show [c] ++ ([] ++ joinL [] ((d :: r).map fun c => [c])) = c :: d :: r
    rw [ih]
    rfl
theorem str_ext {y z : Str} (h : y.cps.toList = z.cps.toList) : y = z := by
  cases y with
  | mk a =>
    cases z with
    | mk b =>
      have : a = b := by
        apply Array.toList_inj.mp
        exact h
      rw [this]
theorem join_one (cs : List Nat) : Txt.join ("" : Str) (cs.map fun c => (⟨#[c]⟩ : Str)) = ⟨cs.toArray⟩ := by
  apply str_ext
  rw [join_eq]
  have e := tl_join ("" : Str) (cs.map fun c => (⟨#[c]⟩ : Str))
  have e0 : tl ("" : Str) = [] := by decide +kernel
  have e1 : (cs.map fun c => (⟨#[c]⟩ : Str)).map tl = cs.map fun c => [c] := by
    rw [List.map_map]
    rfl
  rw [e0, e1, joinL_one] at e
  show tl (Str.join ("" : Str) (cs.map fun c => (⟨#[c]⟩ : Str))) = cs.toArray.toList
  rw [e]
theorem name_of {cs : List Nat} (h1 : 1 ≤ cs.length) (h2 : cs.length ≤ 8) (h : ∀ c ∈ cs, lowC c = true) : nameS ⟨cs.toArray⟩ = true := by
  unfold nameS
  have e : (⟨cs.toArray⟩ : Str).length = cs.length := by simp [Str.length]
  rw [e, decide_eq_true h1, decide_eq_true h2, Bool.true_and, Bool.true_and]
  show cs.toArray.toList.all lowC = true
  rw [List.all_eq_true]
  intro c hc
  exact h c (by simpa using hc)
theorem lst_ne_st (ts : List Str) (n s : Int) : (HO.lst (ts.map V.str)) ≠ .lst [.int n, .int s] := by
  intro z
  have e : ts.map V.str = [.int n, .int s] := HO.lst.inj z
  cases ts with
  | nil => cases e
  | cons a r => cases e
theorem low_of (d : Nat) (h : d < 26) : lowC (97 + d) = true := by
  unfold lowC
  rw [Bool.and_eq_true]
  exact ⟨decide_eq_true (by omega), decide_eq_true (by omega)⟩
theorem sum_one : ∀ cs : List Nat, ((cs.map fun c => (⟨#[c]⟩ : Str)).map (·.length)).sum = cs.length
  | [] => rfl
  | c :: cs => by
    have ih := sum_one cs
    rw [List.map_cons, List.map_cons, List.sum_cons, ih, List.length_cons]
    show 1 + cs.length = cs.length + 1
    omega
/-- the k-th further name -/
def other (cs : List Nat) (l : Int) (k : Nat) : Str := ⟨((cs.take 7) ++ [97 + ((l + (0 + (k : Int))).fmod 26).toNat]).toArray⟩
theorem other_inj {cs : List Nat} {l : Int} {j k : Nat} (h0 : 0 ≤ l) (hj : j < 26) (hk : k < 26) (h : other cs l j = other cs l k) : j = k := by
  unfold other at h
  have e := congrArg (fun z : Str => z.cps.toList) h
  simp only [List.toList_toArray] at e
  have e2 := List.append_cancel_left e
  have e3 : 97 + ((l + (0 + (j : Int))).fmod 26).toNat = 97 + ((l + (0 + (k : Int))).fmod 26).toNat := (List.cons.inj e2).1
  rw [Int.fmod_eq_emod_of_nonneg _ (by decide), Int.fmod_eq_emod_of_nonneg _ (by decide)] at e3
  omega
theorem other_name {cs : List Nat} {l : Int} {k : Nat} (h2 : cs.length ≤ 8) (h : ∀ c ∈ cs, lowC c = true) : nameS (other cs l k) = true := by
  refine name_of ?_ ?_ fun c hc => ?_
  · rw [List.length_append]
    exact Nat.le_add_left _ _
  · rw [List.length_append, List.length_take]
    show min 7 cs.length + 1 ≤ 8
    omega
  · rcases List.mem_append.mp hc with q | q
    · exact h c (List.mem_of_mem_take q)
    · have e : c = 97 + ((l + (0 + (k : Int))).fmod 26).toNat := by simpa using q
      have f0 : 0 ≤ (l + (0 + (k : Int))).fmod 26 := Int.fmod_nonneg_of_pos _ (by decide)
      have f1 : (l + (0 + (k : Int))).fmod 26 < 26 := Int.fmod_lt_of_pos _ (by decide)
      rw [e]
      exact low_of _ (by omega)
theorem SameBut.stay {st : Addr} {H H' : Hp} {b : Addr} {o : HO} (s : SameBut st H H') (n : b ≠ st) (h : H b = some o) : H' b = some o := s b o n h
section
variable {P : Program} {w : World} {K : PySem.W.Frag} {mg : Str → Option Value} {base : Heap}
/-- _law_name(state, taken) -/
def spName : Sp := fun vs H Q _ => ∃ (st tk : Addr) (ts : List Str), vs = [.ref st, .ref tk] ∧ StAt H st ∧ H tk = some (lstO ts) ∧ ts.length ≤ 25 ∧ ∀ (z : Str) (H' : Hp), SameBut st H H' → StAt H' st → nameS z = true → z ∉ ts → Q (.str z) H'
theorem ok_name {f : Addr} {fd : FuncData} (F : Fun K "_law_name" "_law_name" sLname f fd) (B : Bl mg) (cT : CF P w K mg base CX0 1 "_law_take" ["_law_state", "_law_many"] spTake) : FnOk P w K mg base CX0 2 f fd ["_law_state", "_law_taken"] spName := by
  refine F.ok scLname (fun vs H Q E h => ?_) (fun cdv A outer s H vs Q E hr h => ?_)
  · obtain ⟨st, tk, ts, rfl, _⟩ := h
    rfl
  · obtain ⟨st, tk, ts, rfl, hst, htk, htl, kq⟩ := h
    have esz : sizeLine = 16777216 := sizeLine_eq
    have nts : tk ≠ st := by
      obtain ⟨n, s, e, _⟩ := hst
      exact ne_of htk e (lst_ne_st ts n s)
    refine ⟨_, pss_cons (ps_set (i := 2) scLname.nd rfl (Or.inr rfl) pe_str)
      (pss_cons (ps_set (i := 3) scLname.nd rfl (Or.inl rfl) (pe_op op_add pe_int (pe_cf cT hr pass0 (pa_cons (pv 0) (pa_cons pe_int pa_nil)))))
      (pss_cons (ps_set (i := 5) scLname.nd rfl (Or.inl rfl) (pe_join pe_str (pe_lc (own := [("_law_k", 4)]) (g := gName 4) (tt := tYes) rfl scLname.nd (pi_range1 (by rfl) B.rng (pa_cons (pv 3) pa_nil))
          (blkOk_by (own := [("_law_k", 4)]) (N := ["_law_state", "_law_taken", "_law_letters", "_law_size", "_law_k", "_law_name_here", "_law_last", "_law_other"]) (sc := defScope sLname) (by decide +kernel))
          (fun _ _ _ _ _ => pg_name (i := 4) scLname.nd rfl (Or.inl rfl)) (fun _ _ _ _ _ => pts_nil) (fun _ _ _ _ _ => pe_ix ix_str (pv 2) (pe_cf cT hr pass0 (pa_cons (pv 0) (pa_cons pe_int pa_nil))) (fun _ _ => rfl)))))
      (pss_cons (ps_if (pt_cmpR (op_notInS hr.units) (pv 5) (pv 1) (by rfl)) (pss_one (ps_ret (pv 5))) pss_nil)
      (pss_cons (ps_set (i := 6) scLname.nd rfl (Or.inl rfl) (pe_cf cT hr pass0 (pa_cons (pv 0) (pa_cons pe_int pa_nil))))
      (pss_cons (ps_for PassesOwn.never rfl (pi_range1 (by rfl) B.rng (pa_cons pe_int pa_nil)) (pg_name (i := 4) scLname.nd rfl (Or.inl rfl))
        (pss_cons (ps_set (i := 7) scLname.nd rfl (Or.inl rfl) (pe_op op_add_str (pe_slice sl_str (pv 5) po_none (po_some pe_int))
            (pe_ix ix_str (pv 2) (pe_op op_modN (pe_callTy call_int1 (by rfl) B.int (by decide +kernel) (pa_cons (pe_op op_add (pv 6) (pv 4)) pa_nil)) pe_int) (fun _ _ => rfl))))
        (pss_one (ps_if (pt_cmpR (op_notInS hr.units) (pv 7) (pv 1) (by rfl)) (pss_one (ps_ret (pv 7))) pss_nil))))
      (pss_one (ps_ret pe_str))))))), ?_⟩
    refine ⟨_, rfl, st, 8, rfl, by decide, by decide, hst, fun d n0 s0 hd0 hd1 hn0 hs0 hs1 => ?_⟩
    generalize hH1 : upd H st (.lst [.int n0, .int s0]) = H1
    have s1 : SameBut st H H1 := by rw [← hH1]; exact SameBut.set
    have st1 : StAt H1 st := ⟨n0, s0, by rw [← hH1]; exact upd_same, hn0, hs0, hs1⟩
    refine ⟨_, _, rfl, rfl, ?_⟩
    refine ⟨⟨_, rfl⟩, _, rfl, (1 + d), rfl, by omega, by omega, fun D hD => lc_it (walk_range (lo := 0) (n := (1 + d).toNat)) (fun i H' => SameBut st H1 H' ∧ StAt H' st ∧ ∃ cs : List Nat, cs.length = i ∧ (∀ c ∈ cs, lowC c = true) ∧ H' D = some (.lst (cs.map fun c => V.str ⟨#[c]⟩))) ?_ (fun _ _ _ _ => True.intro) ?_ ?_⟩
    · exact ⟨(Same.new hD).but st, st1.same (Same.new hD), [], rfl, (fun _ h => by cases h), upd_same⟩
    · rintro i x Hx H2 hi ⟨sb, sa, cs, hlen, hlow, hD1⟩ ⟨rfl, rfl⟩
      have hDst : D ≠ st := by
        obtain ⟨n, s, e, _⟩ := st1
        intro z
        rw [z, e] at hD
        cases hD
      refine ⟨rfl, lcTurn ⟨_, rfl, _, rfl, st, 26, rfl, by decide, by decide, sa, fun e n2 s2 he0 he1 hn2 hs2 hs3 => ?_⟩⟩
      have hat : atI ("abcdefghijklmnopqrstuvwxyz" : Str).cps.toList e = some (97 + e.toNat) := by
        have q := atI_nat (abc_at e.toNat (by omega))
        rw [show ((e.toNat : Nat) : Int) = e by omega] at q
        exact q
      refine ⟨_, e, 97 + e.toNat, rfl, rfl, by rw [abc_len, esz]; decide, hat, _, by rw [upd_ne hDst]; exact hD1, by rw [List.length_map]; omega, ?_, ?_, cs ++ [97 + e.toNat], by rw [List.length_append, hlen]; rfl, fun c hc => ?_, ?_⟩
      · intro b o hb hbo
        by_cases hbD : b = D
        · subst hbD
          rw [hD] at hbo
          cases hbo
        · rw [upd_ne hbD, upd_ne hb]
          exact sb b o hb hbo
      · exact ⟨n2, s2, by rw [upd_ne (Ne.symm hDst)]; exact upd_same, hn2, hs2, hs3⟩
      · rcases List.mem_append.mp hc with q | q
        · exact hlow c q
        · have : c = 97 + e.toNat := by simpa using q
          rw [this]
          exact low_of _ (by omega)
      · rw [upd_same, List.map_append]
        rfl
    · rintro H2 ⟨sb, sa, cs, hlen, hlow, hD1⟩
      have ek : cs.map (fun c => V.str ⟨#[c]⟩) = (cs.map fun c => (⟨#[c]⟩ : Str)).map V.str := by
        rw [List.map_map]
        rfl
      have hc1 : 1 ≤ cs.length := by omega
      have hc8 : cs.length ≤ 8 := by omega
      have sB := s1.trans sb
      have hn := name_of hc1 hc8 hlow
      refine ⟨_, D, cs.map fun c => (⟨#[c]⟩ : Str), rfl, rfl, .inl (SqL.of (by rw [hD1, ek])), ?_, ?_⟩
      · rw [sum_one, List.length_map, show ("" : Str).length = 0 from rfl, Nat.mul_zero]
        omega
      rw [join_one]
      refine ⟨_, rfl, _, rfl, tk, ts, rfl, .inl (SqL.of (sB _ _ nts htk)), .flat rfl, _, rfl, ?_⟩
      rw [if_pos rfl, inS_str]
      by_cases hm : (⟨cs.toArray⟩ : Str) ∈ ts
      · rw [decide_eq_true hm]
        refine iteF ⟨_, rfl, st, 26, rfl, by decide, by decide, sa, fun l n2 s2 hl0 hl1 hn2 hs2 hs3 => ?_⟩
        generalize hH3 : upd H2 st (.lst [.int n2, .int s2]) = H3
        have s3 : SameBut st H2 H3 := by rw [← hH3]; exact SameBut.set
        have st3 : StAt H3 st := ⟨n2, s2, by rw [← hH3]; exact upd_same, hn2, hs2, hs3⟩
        have sC := sB.trans s3
        refine ⟨26, rfl, by decide, by decide, for_it (walk_range (lo := 0) (n := (26 : Int).toNat)) (fun i σ H' => ∃ v4 v7 : Option V, σ = [some (.ref st), some (.ref tk), some (.str "abcdefghijklmnopqrstuvwxyz"), some (.int (1 + d)), v4, some (.str ⟨cs.toArray⟩), some (.int l), v7] ∧ H' = H3 ∧ ∀ j, j < i → other cs l j ∈ ts)
          ⟨_, _, rfl, rfl, fun j hj => absurd hj (Nat.not_lt_zero j)⟩ (fun _ _ _ _ _ => True.intro) ?_ ?_⟩
        · rintro i x σ Hx H4 hi ⟨v4, v7, rfl, rfl, hall⟩ ⟨rfl, rfl⟩
          have f0 : 0 ≤ (l + (0 + (i : Int))).fmod 26 := Int.fmod_nonneg_of_pos _ (by decide)
          have f1 : (l + (0 + (i : Int))).fmod 26 < 26 := Int.fmod_lt_of_pos _ (by decide)
          have hat : atI ("abcdefghijklmnopqrstuvwxyz" : Str).cps.toList ((l + (0 + (i : Int))).fmod 26) = some (97 + ((l + (0 + (i : Int))).fmod 26).toNat) := by
            have q := atI_nat (abc_at ((l + (0 + (i : Int))).fmod 26).toNat (by omega))
            rw [show ((((l + (0 + (i : Int))).fmod 26).toNat : Nat) : Int) = (l + (0 + (i : Int))).fmod 26 by omega] at q
            exact q
          have ecut : cutS ⟨cs.toArray⟩ none (some 7) = ⟨(cs.take 7).toArray⟩ := by
            apply str_ext
            show (((cs.toArray.toList.drop 0).take (HT.sIx cs.toArray.size cs.toArray.size (some ((7 : Nat) : Int)) - 0)).toArray).toList = (cs.take 7).toArray.toList
            rw [HT.sIx_nat]
            simp [List.take_eq_take_iff]
          refine ⟨_, rfl, _, rfl, _, rfl, by show cs.toArray.size ≤ sizeLine; rw [List.size_toArray]; omega, ?_⟩
          refine ⟨_, rfl, _, rfl, _, rfl, _, _, rfl, rfl, .inl ⟨_, rfl, _, _, rfl, rfl, (by show (26 : Int) ≠ 0; decide), _, _, _, rfl, rfl, by rw [abc_len, esz]; decide, hat, ?_⟩⟩
          have eo : (cutS ⟨cs.toArray⟩ none (some 7) ++ (⟨#[97 + ((l + (0 + (i : Int))).fmod 26).toNat]⟩ : Str)) = other cs l i := by
            rw [ecut]
            unfold other
            apply str_ext
            rw [show ((⟨(cs.take 7).toArray⟩ : Str) ++ (⟨#[97 + ((l + (0 + (i : Int))).fmod 26).toNat]⟩ : Str)).cps.toList = tl ((⟨(cs.take 7).toArray⟩ : Str) ++ (⟨#[97 + ((l + (0 + (i : Int))).fmod 26).toNat]⟩ : Str)) from rfl, tl_append]
          refine ⟨_, _, rfl, rfl, ?_, ?_⟩
          · have := cutS_length (⟨cs.toArray⟩ : Str) none (some 7)
            have e9 : (⟨cs.toArray⟩ : Str).length = cs.length := by simp [Str.length]
            show (cutS ⟨cs.toArray⟩ none (some 7)).length + 1 ≤ sizeLine
            omega
          · refine ⟨_, rfl, _, rfl, tk, ts, rfl, .inl (SqL.of (sC _ _ nts htk)), .flat rfl, _, rfl, ?_⟩
            rw [if_pos rfl, inS_str]
            by_cases hm2 : other cs l i ∈ ts
            · have e9 : decide ((cutS ⟨cs.toArray⟩ none (some 7) ++ (⟨#[97 + ((l + (0 + (i : Int))).fmod 26).toNat]⟩ : Str)) ∈ ts) = true := by
                rw [eo]
                exact decide_eq_true hm2
              have e10 : (!decide ((cutS ⟨cs.toArray⟩ none (some 7) ++ (⟨#[97 + ((l + (0 + (i : Int))).fmod 26).toNat]⟩ : Str)) ∈ ts)) = false := by rw [e9]; rfl
              refine (if_neg (by rw [e10]; decide)).mpr ?_
              refine ⟨_, _, rfl, rfl, fun j hj => ?_⟩
              by_cases hji : j < i
              · exact hall j hji
              · have : j = i := by omega
                rw [this]
                exact hm2
            · have e9 : decide ((cutS ⟨cs.toArray⟩ none (some 7) ++ (⟨#[97 + ((l + (0 + (i : Int))).fmod 26).toNat]⟩ : Str)) ∈ ts) = false := by
                rw [eo]
                exact decide_eq_false hm2
              have e10 : (!decide ((cutS ⟨cs.toArray⟩ none (some 7) ++ (⟨#[97 + ((l + (0 + (i : Int))).fmod 26).toNat]⟩ : Str)) ∈ ts)) = true := by rw [e9]; rfl
              refine (if_pos e10).mpr ⟨_, rfl, ?_⟩
              have q := kq (other cs l i) _ sC st3 (other_name hc8 hlow) hm2
              rw [← eo] at q
              exact q
        · rintro σ H4 ⟨v4, v7, rfl, rfl, hall⟩
          exfalso
          have hnd : ((List.range 26).map fun j => other cs l j).Nodup := by
            refine List.Pairwise.map _ (fun a b h e => ?_) (List.Pairwise.and_mem.mp (List.nodup_range (n := 26)))
            obtain ⟨ha, hb, hab⟩ := h
            exact hab (other_inj hl0 (List.mem_range.mp ha) (List.mem_range.mp hb) e)
          have q := nodup_sub_length (m := ts) hnd fun z hz => by
            obtain ⟨j, hj, rfl⟩ := List.mem_map.mp hz
            exact hall j (List.mem_range.mp hj)
          rw [List.length_map, List.length_range] at q
          omega
      · rw [decide_eq_false hm]
        exact iteT ⟨_, rfl, kq _ _ sB sa hn hm⟩
end
end Qp
namespace Qp
open PySem L2
section
variable {P : Program} {w : World} {K : PySem.W.Frag} {mg : Str → Option Value} {base : Heap}
/-- _law_names(state, many) -/
def spNames : Sp := fun vs H Q _ => ∃ (st : Addr) (m : Nat), vs = [.ref st, .int m] ∧ m ≤ 25 ∧ StAt H st ∧ ∀ (p : Addr) (ps : List Str) (H' : Hp), ps.length = m → ps.Nodup → (∀ z ∈ ps, nameS z = true) → SameBut st H H' → StAt H' st → H p = none → p ≠ st → H' p = some (lstO ps) → Q (.ref p) H'
theorem ok_names {f : Addr} {fd : FuncData} (F : Fun K "_law_names" "_law_names" sLnames f fd) (B : Bl mg) (cN : CF P w K mg base CX0 2 "_law_name" ["_law_state", "_law_taken"] spName) : FnOk P w K mg base CX0 3 f fd ["_law_state", "_law_many"] spNames := by
  refine F.ok scLnames (fun vs H Q E h => ?_) (fun cdv A outer s H vs Q E hr h => ?_)
  · obtain ⟨st, m, rfl, _⟩ := h
    rfl
  · obtain ⟨st, m, rfl, hm, hst, kq⟩ := h
    have esz : sizeLine = 16777216 := sizeLine_eq
    refine ⟨_, pss_cons (ps_set (i := 2) scLnames.nd rfl (Or.inl rfl) (pe_lst pa_nil))
      (pss_cons (ps_for PassesOwn.never rfl (pi_range1 (by rfl) B.rng (pa_cons (pv 1) pa_nil)) (pg_name (i := 3) scLnames.nd rfl (Or.inl rfl))
        (pss_one (ps_expr (pe_bm PySem.F.plainAttrs_list PySem.F.slot_list_append PySem.F.type_list_append mt_append (pv 2) (pa_cons (pe_cf cN hr pass0 (pa_cons (pv 0) (pa_cons (pv 2) pa_nil))) pa_nil)))))
      (pss_one (ps_ret (pv 2)))), ?_⟩
    refine ⟨by show 0 ≤ sizeLine; exact Nat.zero_le _, fun p hp => ?_⟩
    have nps : p ≠ st := by
      obtain ⟨n, s, e, _⟩ := hst
      intro z
      rw [z, e] at hp
      cases hp
    refine ⟨_, rfl, m, rfl, by omega, by omega, for_it (walk_range (lo := 0) (n := ((m : Nat) : Int).toNat)) (fun i σ H' => ∃ (v : Option V) (ps : List Str), σ = [some (.ref st), some (.int m), some (.ref p), v] ∧ ps.length = i ∧ ps.Nodup ∧ (∀ z ∈ ps, nameS z = true) ∧ SameBut st H H' ∧ StAt H' st ∧ H' p = some (lstO ps))
      ⟨none, [], rfl, rfl, List.nodup_nil, (fun _ h => by cases h), (Same.new hp).but st, hst.same (Same.new hp), upd_same⟩ (fun _ _ _ _ _ => True.intro) ?_ ?_⟩
    · rintro i x σ Hx H1 hi ⟨v, ps, rfl, hlen, hnd, hnm, sb, sa, hp1⟩ ⟨rfl, rfl⟩
      refine ⟨_, rfl, .inl ⟨rfl, _, SqL.of hp1⟩, _, rfl, _, rfl, st, p, ps, rfl, sa, hp1, by omega, fun z H2 sb2 sa2 hz hnz => ?_⟩
      have hp2 : H2 p = some (lstO ps) := sb2 _ _ nps hp1
      refine ⟨p, ps.map V.str, .str z, rfl, rfl, hp2, by rw [List.length_map]; omega, _, ps ++ [z], rfl, by rw [List.length_append, hlen]; rfl, ?_, fun y hy => ?_, fun b o hb e => ?_, ?_, ?_⟩
      · rw [List.nodup_append]
        refine ⟨hnd, by simp, fun a ha b hb => ?_⟩
        have : b = z := by simpa using hb
        subst this
        intro e
        subst e
        exact hnz ha
      · rcases List.mem_append.mp hy with q | q
        · exact hnm y q
        · have : y = z := by simpa using q
          rw [this]
          exact hz
      · rw [upd_ne (ne_of_none e hp)]
        exact sb2 _ _ hb (sb _ _ hb e)
      · obtain ⟨n, s, e, r⟩ := sa2
        exact ⟨n, s, by rw [upd_ne (Ne.symm nps)]; exact e, r⟩
      · rw [upd_same]
        unfold lstO
        rw [List.map_append]
        rfl
    · rintro σ H1 ⟨v, ps, rfl, hlen, hnd, hnm, sb, sa, hp1⟩
      exact ⟨_, rfl, kq p ps H1 (by omega) hnd hnm sb sa hp nps hp1⟩
end
end Qp
namespace Qp
open PySem L2
theorem seqIx_of {n : Nat} {d : Int} (h0 : 0 ≤ d) (h1 : d < n) : seqIndex? d n = some d.toNat := by
  unfold seqIndex?
  simp [show ¬ d < 0 by omega, h0, h1]
theorem perm_step {α : Type} {pool row zs : List α} {k : Nat} {y : α} (hp : (pool ++ row).Perm zs) (hy : pool[k]? = some y) : ((pool.eraseIdx k) ++ (row ++ [y])).Perm zs := by
  have h1 : pool.Perm (y :: pool.eraseIdx k) := by
    obtain ⟨hk, e⟩ := List.getElem?_eq_some_iff.mp hy
    rw [List.eraseIdx_eq_take_drop_succ]
    have e2 : pool = pool.take k ++ y :: pool.drop (k + 1) := by
      rw [← e, List.getElem_cons_drop, List.take_append_drop]
    exact (List.Perm.of_eq e2).trans List.perm_middle
  refine List.Perm.trans ?_ hp
  refine List.Perm.trans ?_ (List.Perm.append_right row h1.symm)
  rw [← List.append_assoc]
  refine List.Perm.trans (List.perm_append_comm) ?_
  rfl
section
variable {P : Program} {w : World} {K : PySem.W.Frag} {mg : Str → Option Value} {base : Heap}
/-- _law_mixed(state, items) -/
def spMixed : Sp := fun vs H Q _ => ∃ (st it : Addr) (zs : List Str), vs = [.ref st, .ref it] ∧ StAt H st ∧ H it = some (lstO zs) ∧ zs.length ≤ 500 ∧
  ∀ (p : Addr) (ps : List Str) (H' : Hp), ps.Perm zs → SameBut st H H' → StAt H' st → H p = none → H' p = some (lstO ps) → Q (.ref p) H'
theorem ok_mixed {f : Addr} {fd : FuncData} (F : Fun K "_law_mixed" "_law_mixed" sLmixed f fd) (B : Bl mg) (cT : CF P w K mg base CX0 1 "_law_take" ["_law_state", "_law_many"] spTake) : FnOk P w K mg base CX0 2 f fd ["_law_state", "_law_items"] spMixed := by
  refine F.ok scLmixed (fun vs H Q E h => ?_) (fun cdv A outer s H vs Q E hr h => ?_)
  · obtain ⟨st, it, zs, rfl, _⟩ := h
    rfl
  · obtain ⟨st, it, zs, rfl, hst, hit, hlen, kq⟩ := h
    have esz : sizeLine = 16777216 := sizeLine_eq
    refine ⟨_, pss_cons (ps_set (i := 2) scLmixed.nd rfl (Or.inl rfl) (pe_callTy call_list_of (by rfl) B.lst (by decide +kernel) (pa_cons (pv 1) pa_nil)))
      (pss_cons (ps_set (i := 3) scLmixed.nd rfl (Or.inl rfl) (pe_lst pa_nil))
      (pss_cons (ps_for PassesOwn.never rfl (pi_range1 (by rfl) B.rng (pa_cons (pe_callB call_len_seq (by rfl) B.len PySem.boot_len (pa_cons (pv 1) pa_nil)) pa_nil)) (pg_name (i := 4) scLmixed.nd rfl (Or.inl rfl))
        (pss_one (ps_expr (pe_bm PySem.F.plainAttrs_list PySem.F.slot_list_append PySem.F.type_list_append mt_append (pv 3) (pa_cons (pe_bm PySem.F.plainAttrs_list PySem.F.slot_list_pop PySem.F.type_list_pop mt_popAt (pv 2)
          (pa_cons (pe_cf cT hr pass0 (pa_cons (pv 0) (pa_cons (pe_callB call_len_seq (by rfl) B.len PySem.boot_len (pa_cons (pv 2) pa_nil)) pa_nil))) pa_nil)) pa_nil)))))
      (pss_one (ps_ret (pv 3))))), ?_⟩
    have nst : ∀ (b : Addr) (H' : Hp), H' b = none → StAt H' st → b ≠ st := fun b H' hb hs => by
      obtain ⟨n, z, e, _⟩ := hs
      intro y
      rw [y, e] at hb
      cases hb
    refine ⟨_, rfl, it, zs.map V.str, rfl, .inl (SqL.of hit), fun L hL => ⟨(by show 0 ≤ sizeLine; exact Nat.zero_le _), fun R hR => ?_⟩⟩
    have s1 : Same H (upd H L (.lst (zs.map V.str))) := Same.new hL
    have nL := nst L H hL hst
    have eL : (upd H L (.lst (zs.map V.str))) L = some (.lst (zs.map V.str)) := upd_same
    generalize upd H L (.lst (zs.map V.str)) = H1 at s1 hR eL
    have nR := nst R H1 hR (hst.same s1)
    have nRL : L ≠ R := ne_of_none eL hR
    have nHR : H R = none := s1.free hR
    refine ⟨_, rfl, it, _, rfl, .inl (SqL.of (Same.new hR _ _ (s1 _ _ hit))), _, rfl, by rw [List.length_map]; omega, by rw [List.length_map]; omega,
      for_it (walk_range (lo := 0) (n := (((zs.map V.str).length : Nat) : Int).toNat)) (fun i σ H' => ∃ (v : Option V) (pool row : List Str), σ = [some (.ref st), some (.ref it), some (.ref L), some (.ref R), v] ∧ (pool ++ row).Perm zs ∧ row.length = i ∧ SameBut st H H' ∧ StAt H' st ∧ H' L = some (lstO pool) ∧ H' R = some (lstO row))
      ⟨none, zs, [], rfl, by rw [List.append_nil], rfl, (s1.trans (Same.new hR)).but st, (hst.same s1).same (Same.new hR), by rw [upd_ne nRL]; exact eL, upd_same⟩ (fun _ _ _ _ _ => True.intro) ?_ ?_⟩
    · rintro i x σ Hx H2 hi ⟨v, pool, row, rfl, hperm, hrow, sb, sa, hL2, hR2⟩ ⟨rfl, rfl⟩
      have hlp := hperm.length_eq
      rw [List.length_append] at hlp
      rw [List.length_map, Int.toNat_natCast] at hi
      refine ⟨_, rfl, .inl ⟨rfl, _, SqL.of hR2⟩, _, rfl, .inl ⟨rfl, _, SqL.of hL2⟩, _, rfl, _, rfl, L, _, rfl, .inl (SqL.of hL2), st, pool.length, by rw [List.length_map]; rfl, by omega, by omega, sa, fun d n1 z1 hd0 hd1 a1 a2 a3 => ?_⟩
      obtain ⟨y, ey⟩ : ∃ y, pool[d.toNat]? = some y := ⟨_, List.getElem?_eq_getElem (by omega)⟩
      have hL3 : (upd H2 st (.lst [.int n1, .int z1])) L = some (lstO pool) := by rw [upd_ne nL]; exact hL2
      refine ⟨L, pool.map V.str, d, d.toNat, .str y, rfl, rfl, hL3, by omega, by omega, seqIx_of hd0 (by rw [List.length_map]; exact hd1), by rw [List.getElem?_map, ey]; rfl, ?_⟩
      refine ⟨R, row.map V.str, .str y, rfl, rfl, ?_, by rw [List.length_map]; omega, _, pool.eraseIdx d.toNat, row ++ [y], rfl, perm_step hperm ey, by rw [List.length_append, hrow]; rfl, fun b o hb e => ?_, ?_, ?_, ?_⟩
      · rw [upd_ne (Ne.symm nRL), upd_ne nR]
        exact hR2
      · rw [upd_ne (ne_of_none e nHR), upd_ne (ne_of_none e hL), upd_ne hb]
        exact sb _ _ hb e
      · exact ⟨n1, z1, by rw [upd_ne (Ne.symm nR), upd_ne (Ne.symm nL)]; exact upd_same, a1, a2, a3⟩
      · rw [upd_ne nRL, upd_same]
        unfold lstO
        rw [List.eraseIdx_eq_take_drop_succ, List.eraseIdx_eq_take_drop_succ, List.map_append, List.map_take, List.map_drop]
      · rw [upd_same]
        unfold lstO
        rw [List.map_append]
        rfl
    · rintro σ H2 ⟨v, pool, row, rfl, hperm, hrow, sb, sa, hL2, hR2⟩
      have hlp := hperm.length_eq
      rw [List.length_append, hrow, List.length_map, Int.toNat_natCast] at hlp
      have hp0 : pool = [] := List.eq_nil_of_length_eq_zero (by omega)
      subst hp0
      exact ⟨_, rfl, kq R row H2 hperm sb sa nHR hR2⟩
/-- _law_others(names, a) -/
def spOthers (K : PySem.W.Frag) : Sp := fun vs H Q _ => ∃ (it : Addr) (zs : List Str) (a : Str), vs = [.ref it, .str a] ∧ H it = some (lstO zs) ∧ zs.length ≤ 500 ∧
  ∀ (p : Addr) (H' : Hp), Same H H' → H p = none → H' p = some (lstO (zs.filter fun z => !decide (z = a))) → Q (.ref p) H'
theorem ok_others {f : Addr} {fd : FuncData} (F : Fun K "_law_others" "_law_others" sLothers f fd) (B : Bl mg) : FnOk P w K mg base CX0 1 f fd ["_law_names_here", "_law_a"] (spOthers K) := by
  refine F.ok scLothers (fun vs H Q E h => ?_) (fun cdv A outer s H vs Q E hr h => ?_)
  · obtain ⟨it, zs, a, rfl, _⟩ := h
    rfl
  · obtain ⟨it, zs, a, rfl, hit, hlen, kq⟩ := h
    have esz : sizeLine = 16777216 := sizeLine_eq
    refine ⟨_, pss_one (ps_ret (pe_lc (own := [("_law_b", 2)]) (g := gName 2) rfl scLothers.nd (pi_list (pv 0)) (blkOk_by (own := [("_law_b", 2)]) (N := ["_law_names_here", "_law_a", "_law_b"]) (sc := defScope sLothers) (by decide +kernel))
          (fun _ _ _ _ _ => pg_name (i := 2) scLothers.nd rfl (Or.inl rfl)) (fun _ _ _ _ _ => pts_one (pt_cmpR op_ne (pv 2) (pv 1) (nomark _))) (fun _ _ _ _ _ => pv 2))), ?_⟩
    refine ⟨_, rfl, it, rfl, ⟨_, SqL.of hit⟩, fun D hD => lc_it walk_list (fun i H' => Same H H' ∧ H' D = some (lstO ((zs.take i).filter fun z => !decide (z = a)))) ⟨Same.new hD, upd_same⟩ (fun i H' _ z => z.1.seq (SqL.of hit)) ?_ ?_⟩
    · rintro i x Hx H1 hi ⟨s1, hD1⟩ ⟨rfl, hx⟩
      rw [List.getElem?_map] at hx
      cases ex : zs[i]? with
      | none => rw [ex] at hx; cases hx
      | some z =>
        rw [ex] at hx
        cases hx
        have hlt : ((zs.take i).filter fun z => !decide (z = a)).length < sizeLine := by
          have q1 := List.length_filter_le (fun z => !decide (z = a)) (zs.take i)
          rw [List.length_take] at q1
          omega
        refine ⟨rfl, _, rfl, _, rfl, rfl, _, rfl, ?_⟩
        have e9 : decide (V.str z = V.str a) = decide (z = a) := by
          rw [Bool.eq_iff_iff, decide_eq_true_iff, decide_eq_true_iff]
          exact ⟨fun e => V.str.inj e, fun e => by rw [e]⟩
        rw [e9]
        by_cases hza : z = a
        · rw [decide_eq_true hza]
          refine iteF ⟨s1, ?_⟩
          rw [take_snoc ex, List.filter_append, List.filter_cons_of_neg (by rw [decide_eq_true hza]; decide), List.filter_nil, List.append_nil]
          exact hD1
        · rw [decide_eq_false hza]
          refine iteT ⟨_, rfl, _, hD1, by rw [List.length_map]; exact hlt, fun b o e => ?_, ?_⟩
          · rw [upd_ne (ne_of_none e hD)]
            exact s1 _ _ e
          · rw [upd_same, take_snoc ex, List.filter_append, List.filter_cons_of_pos (by rw [decide_eq_false hza]; decide), List.filter_nil]
            unfold lstO
            rw [List.map_append]
            rfl
    · rintro H1 ⟨s1, hD1⟩
      rw [List.length_map, List.take_of_length_le (Nat.le_refl _)] at hD1
      exact kq D H1 s1 hD hD1
end
end Qp
namespace L2
open PySem PySem.Spec PyProof.Rows
theorem cut_to {xs : List V} {i : Nat} : cutV xs none (some (i : Int)) = xs.take i := by
  unfold cutV
  rw [HT.sIx_none, HT.sIx_nat, List.drop_zero, Nat.sub_zero, List.take_eq_take_iff]
  omega
theorem cut_from {xs : List V} {i : Nat} : cutV xs (some (i : Int)) none = xs.drop i := by
  unfold cutV
  rw [HT.sIx_none, HT.sIx_nat]
  by_cases h : i ≤ xs.length
  · rw [Nat.min_eq_left h, List.take_of_length_le (by rw [List.length_drop]; omega)]
  · rw [Nat.min_eq_right (by omega), Nat.sub_self, List.take_zero, List.drop_eq_nil_of_le (by omega)]
theorem cut_mid {xs : List V} {i j : Nat} : cutV xs (some (i : Int)) (some ((i + j : Nat) : Int)) = (xs.drop i).take j := by
  unfold cutV
  rw [HT.sIx_nat, HT.sIx_nat]
  by_cases h : i ≤ xs.length
  · rw [Nat.min_eq_left h, List.take_eq_take_iff, List.length_drop]
    omega
  · rw [List.drop_eq_nil_of_le (show xs.length ≤ min i xs.length by omega), List.drop_eq_nil_of_le (show xs.length ≤ i by omega), List.take_nil, List.take_nil]
theorem ix_listK {X : Cx} {K : PySem.W.Frag} (hK : X.K = K) : IxR X (rIxL K) := by
  subst hK
  exact ix_list
/-- all but two as it was -/
def But2 (st D : Addr) (H H' : Hp) : Prop := ∀ b o, H b = some o → b ≠ st → b ≠ D → H' b = some o
theorem But2.refl (st D : Addr) (H : Hp) : But2 st D H H := fun _ _ h _ _ => h
theorem But2.trans {st D : Addr} {H H1 H2 : Hp} (a : But2 st D H H1) (b : But2 st D H1 H2) : But2 st D H H2 := fun c o e n1 n2 => b c o (a c o e n1 n2) n1 n2
theorem Same.but2 {H H' : Hp} (s : Same H H') (st D : Addr) : But2 st D H H' := fun b o e _ _ => s b o e
theorem SameBut.but2 {st : Addr} {H H' : Hp} (s : SameBut st H H') (D : Addr) : But2 st D H H' := fun b o e n _ => s b o n e
theorem But2.setD {st D : Addr} {H : Hp} {o : HO} : But2 st D H (upd H D o) := fun b u e _ n => by rw [upd_ne n]; exact e
theorem But2.setS {st D : Addr} {H : Hp} {o : HO} : But2 st D H (upd H st o) := fun b u e n _ => by rw [upd_ne n]; exact e
end L2
namespace Qp
open PySem L2
theorem ne_st {H : Hp} {st p : Addr} {zs : List Str} (hs : StAt H st) (h : H p = some (lstO zs)) : p ≠ st := by
  obtain ⟨n, z, e, _⟩ := hs
  exact ne_of h e (lst_ne_st zs n z)
theorem new_ne_st {H : Hp} {st p : Addr} (hs : StAt H st) (h : H p = none) : p ≠ st := by
  obtain ⟨n, z, e, _⟩ := hs
  intro y
  rw [y, e] at h
  cases h
/-- a row that fits a -/
def GRow (ns : List Str) (a : Str) (xs : List Str) : Prop := xs.Nodup ∧ ∀ b ∈ xs, b ∈ ns ∧ b ≠ a
theorem GRow.perm {ns : List Str} {a : Str} {xs ys : List Str} (h : GRow ns a xs) (p : ys.Perm xs) : GRow ns a ys := ⟨p.nodup_iff.mpr h.1, fun b hb => h.2 b (p.mem_iff.mp hb)⟩
theorem GRow.sub {ns : List Str} {a : Str} {xs ys : List Str} (h : GRow ns a xs) (p : ys.Sublist xs) : GRow ns a ys := ⟨h.1.sublist p, fun b hb => h.2 b (p.subset hb)⟩
theorem GRow.names {ns ms : List Str} {a : Str} {xs : List Str} (h : GRow ns a xs) (hm : ∀ z, z ∈ ns → z ∈ ms) : GRow ms a xs := ⟨h.1, fun b hb => ⟨hm b (h.2 b hb).1, (h.2 b hb).2⟩⟩
theorem GRow.len {ns : List Str} {a : Str} {xs : List Str} (h : GRow ns a xs) : xs.length ≤ ns.length := nodup_sub_length h.1 fun b hb => (h.2 b hb).1
theorem grow_cons {ns : List Str} {a : Str} {xs order : List Str} (hn : order.Nodup) (hs : ∀ z ∈ order, z ∈ ns) (p : (a :: xs).Perm order) : GRow ns a xs := by
  have h1 : (a :: xs).Nodup := p.nodup_iff.mpr hn
  obtain ⟨h2, h3⟩ := List.nodup_cons.mp h1
  exact ⟨h3, fun b hb => ⟨hs b (p.mem_iff.mp (List.mem_cons_of_mem _ hb)), fun e => h2 (e ▸ hb)⟩⟩
theorem rot_perm {α : Type} {l : List α} {k : Nat} {a : α} (h : l[k]? = some a) : (a :: (l.drop (k + 1) ++ l.take k)).Perm l := by
  obtain ⟨hk, e⟩ := List.getElem?_eq_some_iff.mp h
  have e2 : l = l.take k ++ a :: l.drop (k + 1) := by
    rw [← e, List.getElem_cons_drop, List.take_append_drop]
  refine List.Perm.trans ?_ (List.Perm.of_eq e2.symm)
  exact (List.perm_append_comm (l₁ := a :: l.drop (k + 1)) (l₂ := l.take k))
theorem rot2_perm {α : Type} {l : List α} {k : Nat} : (l.drop k ++ l.take k).Perm l := by
  have h := List.perm_append_comm (l₁ := l.drop k) (l₂ := l.take k)
  rw [List.take_append_drop] at h
  exact h
theorem filt_grow {ns : List Str} {a : Str} {order : List Str} (hn : order.Nodup) (hs : ∀ z ∈ order, z ∈ ns) : GRow ns a (order.filter fun z => !decide (z = a)) :=
  ⟨hn.filter _, fun b hb => by
    obtain ⟨h1, h2⟩ := List.mem_filter.mp hb
    exact ⟨hs b h1, by simpa using h2⟩⟩
/-- wishes that are being laid -/
def Part (H : Hp) (D : Addr) (qs ns : List Str) : Prop := ∃ ws : Str → List Str, RowsG H D qs (fun a => lstO (ws a)) ∧ ∀ a ∈ qs, GRow ns a (ws a)
theorem Part.new {H : Hp} {D : Addr} {ns : List Str} (h : H D = some (.dK [])) : Part H D [] ns := ⟨fun _ => [], RowsG.nil h, fun _ h => by cases h⟩
theorem Part.dk {H : Hp} {D : Addr} {qs ns : List Str} (h : Part H D qs ns) : ∃ kvs, H D = some (.dK kvs) := by
  obtain ⟨ws, ⟨ad, e, _⟩, _⟩ := h
  exact ⟨_, e⟩
theorem Part.same {H H' : Hp} (s : Same H H') {D : Addr} {qs ns : List Str} (h : Part H D qs ns) : Part H' D qs ns := by
  obtain ⟨ws, R, g⟩ := h
  exact ⟨ws, R.same s, g⟩
theorem Part.but {st : Addr} {H H' : Hp} (s : SameBut st H H') (hs : StAt H st) {D : Addr} {qs ns : List Str} (h : Part H D qs ns) : Part H' D qs ns := by
  obtain ⟨ws, ⟨ad, e, q⟩, g⟩ := h
  have hs2 := hs
  obtain ⟨n, z, es, _⟩ := hs2
  exact ⟨ws, ⟨ad, s _ _ (ne_of e es (by intro y; cases y)) e, fun a ha => ⟨s _ _ (ne_st hs (q a ha).1) (q a ha).1, (q a ha).2⟩⟩, g⟩
theorem Part.ne {H : Hp} {D p : Addr} {qs ns zs : List Str} (h : Part H D qs ns) (hp : H p = some (lstO zs)) : p ≠ D := by
  obtain ⟨kvs, e⟩ := h.dk
  exact ne_of hp e (by intro z; cases z)
theorem Part.put {H : Hp} {D p : Addr} {qs ns row : List Str} {a : Str} (h : Part H D qs ns) (ha : a ∉ qs) (hp : H p = some (lstO row)) (g : GRow ns a row) :
    ∃ kvs, H D = some (.dK kvs) ∧ kvs.length = qs.length ∧ Part (upd H D (.dK (putK kvs (Sum.inr a) (.ref p)))) D (qs ++ [a]) ns := by
  have npd := h.ne hp
  obtain ⟨ws, R, gw⟩ := h
  have hc : ∀ x ∈ qs, (if x = a then row else ws x) = ws x := fun x hx => if_neg fun z : x = a => ha (z ▸ hx)
  have R' : RowsG H D qs (fun x => lstO (if x = a then row else ws x)) := by
    obtain ⟨ad, e, q⟩ := R
    refine ⟨ad, e, fun x hx => ?_⟩
    show H (ad x) = some (lstO (if x = a then row else ws x)) ∧ ad x ≠ D
    rw [hc x hx]
    exact q x hx
  obtain ⟨kvs, h1, h2, h3⟩ := R'.snoc (Same.refl H) ha (p := p) (by show H p = some (lstO (if a = a then row else ws a)); rw [if_pos rfl]; exact hp) npd
  refine ⟨kvs, h1, h2, fun x => if x = a then row else ws x, h3, fun x hx => ?_⟩
  by_cases hxa : x = a
  · subst hxa
    show GRow ns x (if x = x then row else ws x)
    rw [if_pos rfl]
    exact g
  · show GRow ns x (if x = a then row else ws x)
    rw [if_neg hxa]
    rcases List.mem_append.mp hx with z | z
    · exact gw x z
    · exact absurd (by simpa using z) hxa
theorem putK_old {ad : Str → Addr} {p : Addr} {a : Str} {qs : List Str} (ha : a ∈ qs) : putK (qs.map fun x => ((Sum.inr x : Key), V.ref (ad x))) (Sum.inr a) (.ref p) = qs.map fun x => ((Sum.inr x : Key), V.ref (if x = a then p else ad x)) := by
  simp only [putK, List.any_map, List.map_map]
  have e : qs.any ((fun kv => decide (kv.1 = (Sum.inr a : Key))) ∘ fun x => ((Sum.inr x : Key), V.ref (ad x))) = true := by
    rw [List.any_eq_true]
    exact ⟨a, ha, decide_eq_true rfl⟩
  first
    | rw [if_pos e]
    | (rw [if_pos (by simpa using ha)])
  refine List.map_congr_left fun x hx => ?_
  by_cases hxa : x = a
  · subst hxa
    simp
  · simp [hxa]
theorem Part.reput {H : Hp} {D p : Addr} {qs ns row : List Str} {a : Str} (h : Part H D qs ns) (hn : qs.Nodup) (ha : a ∈ qs) (hp : H p = some (lstO row)) (g : GRow ns a row) :
    ∃ kvs, H D = some (.dK kvs) ∧ kvs.length = qs.length ∧ Part (upd H D (.dK (putK kvs (Sum.inr a) (.ref p)))) D qs ns := by
  have npd := h.ne hp
  obtain ⟨ws, ⟨ad, e, q⟩, gw⟩ := h
  refine ⟨_, e, by rw [List.length_map], fun x => if x = a then row else ws x, ⟨fun x => if x = a then p else ad x, by rw [upd_same, putK_old ha], fun x hx => ?_⟩, fun x hx => ?_⟩
  · by_cases hxa : x = a
    · subst hxa
      show upd H D _ (if x = x then p else ad x) = some (lstO (if x = x then row else ws x)) ∧ (if x = x then p else ad x) ≠ D
      rw [if_pos rfl, if_pos rfl, upd_ne npd]
      exact ⟨hp, npd⟩
    · show upd H D _ (if x = a then p else ad x) = some (lstO (if x = a then row else ws x)) ∧ (if x = a then p else ad x) ≠ D
      rw [if_neg hxa, if_neg hxa, upd_ne (q x hx).2]
      exact q x hx
  · by_cases hxa : x = a
    · subst hxa
      show GRow ns x (if x = x then row else ws x)
      rw [if_pos rfl]
      exact g
    · show GRow ns x (if x = a then row else ws x)
      rw [if_neg hxa]
      exact gw x hx
/-- the body of the i-th statement, a for -/
def forB (b : List Stmt) (i : Nat) : List Stmt := match b.getD i (.Pass ⟨0, 0, 0, 0⟩) with
  | .For _ _ c _ _ => c
  | .If _ c _ _ => c
  | _ => []
end Qp
namespace Qp
open PySem L2
/-- the laid wishes of all -/
def spWsh : Sp := fun vs H Q _ => ∃ (st it : Addr) (ns : List Str), vs = [.ref st, .ref it] ∧ StAt H st ∧ H it = some (lstO ns) ∧ ns.Nodup ∧ ns.length ≤ 100 ∧
  ∀ (D : Addr) (H' : Hp), H D = none → SameBut st H H' → StAt H' st → (∃ order, order.Perm ns ∧ Part H' D order ns) → Q (.ref D) H'
def spPlain : Sp := fun vs H Q _ => ∃ (st it : Addr) (ns : List Str) (m : Int), vs = [.ref st, .ref it, .int m] ∧ StAt H st ∧ H it = some (lstO ns) ∧ ns.Nodup ∧ ns.length ≤ 100 ∧
  ∀ (D : Addr) (H' : Hp), H D = none → SameBut st H H' → StAt H' st → (∃ order, order.Perm ns ∧ Part H' D order ns) → Q (.ref D) H'
structure PlF (order ns : List Str) (k : Nat) (a : Str) : Prop where
  nd : order.Nodup
  at_ : order[k]? = some a
  sub : ∀ z ∈ order, z ∈ ns
  len : order.length ≤ 100
  lenn : ns.length ≤ 100
def plS (st it : Addr) (m : Int) (O D : Addr) (k : Nat) (p : Addr) : St := [some (.ref st), some (.ref it), some (.int m), some (.ref O), some (.ref D), some (.int k), some (.ref p), none]
def PlI (st it : Addr) (m : Int) (O D : Addr) (order ns : List Str) (k : Nat) (a : Str) (Hs : Hp) (Dn : Ends) (t : TS) : Prop := ∀ (H : Hp) (p : Addr) (row : List Str), StAt H st → H O = some (lstO order) → Part H D (order.take k) ns → H p = some (lstO row) → GRow ns a row → But2 st D Hs H → t Dn (plS st it m O D k p) H
def PlN (st it : Addr) (m : Int) (O D : Addr) (order ns : List Str) (k : Nat) (Hs : Hp) (Dn : Ends) : Prop := ∀ (H : Hp) (p : Addr), StAt H st → H O = some (lstO order) → Part H D (order.take (k + 1)) ns → But2 st D Hs H → Dn.nx (plS st it m O D k p) H
theorem lstO_len {H : Hp} {p : Addr} {zs : List Str} {K : PySem.W.Frag} (h : H p = some (lstO zs)) : SqL K H p (zs.map V.str) := SqL.of h
section
variable {P : Program} {w : World} {K : PySem.W.Frag} {mg : Str → Option Value} {base : Heap}
abbrev nPlain : List Str := ["_law_state", "_law_names_here", "_law_mode", "_law_order", "_law_wishes_here", "_law_k", "_law_others_here", "_law_b"]
section
variable {f : Addr} {cdv : Value} {A : Around} {outer : List Env} {s : Shared} {H0 : Hp} {E0' : XK}
theorem plain5 (B : Bl mg) (hr : Room 2 (A.deeper (PyProof.Rows.envOfC "_law_plain_wishes" (defScope sLplainwishes) s.heap.objs.size f cdv))) :
    ∃ t, PSs (cxOf CX0 P w K mg base nPlain "_law_plain_wishes" (defScope sLplainwishes) f cdv A outer s H0 E0').nox ((forB (defBody sLplainwishes) 2).drop 5) t ∧
      ∀ st it m O D order ns k a Hs Dn, PlF order ns k a → PlN st it m O D order ns k Hs Dn → PlI st it m O D order ns k a Hs Dn t := by
  have hu := hu_of hr
  have esz : sizeLine = 16777216 := sizeLine_eq
  refine ⟨_, pss_one (ps_dput hu (pv 4) (pe_ix ix_list (pv 3) (pv 5) (fun _ _ => rfl)) (pv 6) rfl), ?_⟩
  rintro st it m O D order ns k a Hs Dn F N H p row hs hO hP hp hg hb
  obtain ⟨kvs, h1, h2, h3⟩ := hP.put (not_mem_take F.nd F.at_) hp hg
  have hlen := F.len
  refine ⟨_, rfl, _, rfl, _, rfl, _, rfl, O, order.map V.str, k, .str a, rfl, rfl, SqL.of hO, atI_nat (j := k) (by rw [List.getElem?_map, F.at_]; rfl), D, _, rfl, DPut.k (k := Sum.inr a) h1 (by rw [h2, List.length_take]; omega), ?_⟩
  have nD : st ≠ D := by
    obtain ⟨n, z, e, _⟩ := hs
    intro y
    rw [← y, e] at h1
    cases h1
  refine N _ p ?_ ?_ ?_ (hb.trans But2.setD)
  · obtain ⟨n, z, e, r⟩ := hs
    exact ⟨n, z, by rw [upd_ne nD]; exact e, r⟩
  · rw [upd_ne (hP.ne hO)]
    exact hO
  · rw [take_snoc F.at_]
    exact h3
theorem plain4 (B : Bl mg) (cT : CF P w K mg base CX0 1 "_law_take" ["_law_state", "_law_many"] spTake) (hr : Room 2 (A.deeper (PyProof.Rows.envOfC "_law_plain_wishes" (defScope sLplainwishes) s.heap.objs.size f cdv))) :
    ∃ t, PSs (cxOf CX0 P w K mg base nPlain "_law_plain_wishes" (defScope sLplainwishes) f cdv A outer s H0 E0').nox ((forB (defBody sLplainwishes) 2).drop 4) t ∧
      ∀ st it m O D order ns k a Hs Dn, PlF order ns k a → PlN st it m O D order ns k Hs Dn → PlI st it m O D order ns k a Hs Dn t := by
  obtain ⟨t, ht, q⟩ := plain5 (P := P) (w := w) (base := base) (outer := outer) (H0 := H0) (E0' := E0') B hr
  have hr1 : Room 1 _ := hr.mono (by decide)
  refine ⟨_, pss_cons (ps_if (pt_cmpR op_eq (pv 2) pe_int (nomark _)) (pss_one (ps_set (i := 6) scLplainwishes.nd rfl (Or.inl rfl) (pe_slice sl_list (pv 6) po_none (po_some (pe_cf cT hr1 pass0 (pa_cons (pv 0) (pa_cons pe_int pa_nil))))))) pss_nil) ht, ?_⟩
  rintro st it m O D order ns k a Hs Dn F N H p row hs hO hP hp hg hb
  have q := q st it m O D order ns k a Hs Dn F N
  refine ⟨_, rfl, rfl, _, rfl, ite2 (fun _ => ?_) (fun _ => q H p row hs hO hP hp hg hb)⟩
  refine ⟨_, rfl, _, rfl, st, 4, rfl, by decide, by decide, hs, fun d n1 z1 hd0 hd1 a1 a2 a3 => ?_⟩
  have sb : SameBut st H (upd H st (.lst [.int n1, .int z1])) := SameBut.set
  have hs1 : StAt (upd H st (.lst [.int n1, .int z1])) st := ⟨n1, z1, upd_same, a1, a2, a3⟩
  generalize upd H st (.lst [.int n1, .int z1]) = H1 at sb hs1
  obtain ⟨i, rfl⟩ := Int.eq_ofNat_of_zero_le hd0
  have hp1 := sb _ _ (ne_st hs hp) hp
  refine ⟨_, rfl, p, _, rfl, SqL.of hp1, fun L hL => ?_⟩
  have s2 : Same H1 (upd H1 L (.lst (cutV (row.map V.str) none (some ((i : Nat) : Int))))) := Same.new hL
  refine q _ L (row.take i) (hs1.same s2) (s2 _ _ (sb _ _ (ne_st hs hO) hO)) ((hP.but sb hs).same s2) ?_ (hg.sub (List.take_sublist i row)) ((hb.trans (sb.but2 D)).trans (s2.but2 st D))
  rw [upd_same, cut_to]
  unfold lstO
  rw [List.map_take]
theorem plain3 (B : Bl mg) (cT : CF P w K mg base CX0 1 "_law_take" ["_law_state", "_law_many"] spTake) (hr : Room 2 (A.deeper (PyProof.Rows.envOfC "_law_plain_wishes" (defScope sLplainwishes) s.heap.objs.size f cdv))) :
    ∃ t, PSs (cxOf CX0 P w K mg base nPlain "_law_plain_wishes" (defScope sLplainwishes) f cdv A outer s H0 E0').nox ((forB (defBody sLplainwishes) 2).drop 3) t ∧
      ∀ st it m O D order ns k a Hs Dn, PlF order ns k a → PlN st it m O D order ns k Hs Dn → PlI st it m O D order ns k a Hs Dn t := by
  obtain ⟨t, ht, q⟩ := plain4 (P := P) (w := w) (base := base) (outer := outer) (H0 := H0) (E0' := E0') B cT hr
  have hr1 : Room 1 _ := hr.mono (by decide)
  refine ⟨_, pss_cons (ps_if (pt_cmpR op_eq (pv 2) pe_int (nomark _)) (pss_one (ps_set (i := 6) scLplainwishes.nd rfl (Or.inl rfl) (pe_slice sl_list (pv 6) po_none (po_some (pe_cf cT hr1 pass0 (pa_cons (pv 0) (pa_cons (pe_op op_add (pe_callB call_len_seq (by rfl) B.len PySem.boot_len (pa_cons (pv 6) pa_nil)) pe_int) pa_nil))))))) pss_nil) ht, ?_⟩
  rintro st it m O D order ns k a Hs Dn F N H p row hs hO hP hp hg hb
  have q := q st it m O D order ns k a Hs Dn F N
  refine ⟨_, rfl, rfl, _, rfl, ite2 (fun _ => ?_) (fun _ => q H p row hs hO hP hp hg hb)⟩
  have hrl := hg.len
  have hnl := F.lenn
  refine ⟨_, rfl, _, rfl, _, rfl, p, _, rfl, .inl (SqL.of hp), _, _, rfl, rfl, st, row.length + 1, by rw [List.length_map]; rfl, by omega, by omega, hs, fun d n1 z1 hd0 hd1 a1 a2 a3 => ?_⟩
  have sb : SameBut st H (upd H st (.lst [.int n1, .int z1])) := SameBut.set
  have hs1 : StAt (upd H st (.lst [.int n1, .int z1])) st := ⟨n1, z1, upd_same, a1, a2, a3⟩
  generalize upd H st (.lst [.int n1, .int z1]) = H1 at sb hs1
  obtain ⟨i, rfl⟩ := Int.eq_ofNat_of_zero_le hd0
  have hp1 := sb _ _ (ne_st hs hp) hp
  refine ⟨_, rfl, p, _, rfl, SqL.of hp1, fun L hL => ?_⟩
  have s2 : Same H1 (upd H1 L (.lst (cutV (row.map V.str) none (some ((i : Nat) : Int))))) := Same.new hL
  refine q _ L (row.take i) (hs1.same s2) (s2 _ _ (sb _ _ (ne_st hs hO) hO)) ((hP.but sb hs).same s2) ?_ (hg.sub (List.take_sublist i row)) ((hb.trans (sb.but2 D)).trans (s2.but2 st D))
  rw [upd_same, cut_to]
  unfold lstO
  rw [List.map_take]
theorem plain2 (B : Bl mg) (cT : CF P w K mg base CX0 1 "_law_take" ["_law_state", "_law_many"] spTake) (cM : CF P w K mg base CX0 2 "_law_mixed" ["_law_state", "_law_items"] spMixed) (hr : Room 2 (A.deeper (PyProof.Rows.envOfC "_law_plain_wishes" (defScope sLplainwishes) s.heap.objs.size f cdv))) :
    ∃ t, PSs (cxOf CX0 P w K mg base nPlain "_law_plain_wishes" (defScope sLplainwishes) f cdv A outer s H0 E0').nox ((forB (defBody sLplainwishes) 2).drop 2) t ∧
      ∀ st it m O D order ns k a Hs Dn, PlF order ns k a → PlN st it m O D order ns k Hs Dn → PlI st it m O D order ns k a Hs Dn t := by
  obtain ⟨t, ht, q⟩ := plain3 (P := P) (w := w) (base := base) (outer := outer) (H0 := H0) (E0' := E0') B cT hr
  refine ⟨_, pss_cons (ps_if (pt_cmpR op_gt (pv 2) pe_int (nomark _)) (pss_one (ps_set (i := 6) scLplainwishes.nd rfl (Or.inl rfl) (pe_cf cM hr pass0 (pa_cons (pv 0) (pa_cons (pv 6) pa_nil))))) pss_nil) ht, ?_⟩
  rintro st it m O D order ns k a Hs Dn F N H p row hs hO hP hp hg hb
  have q := q st it m O D order ns k a Hs Dn F N
  have hrl := hg.len
  have hnl := F.lenn
  refine ⟨_, rfl, _, _, rfl, rfl, _, rfl, ite2 (fun _ => ?_) (fun _ => q H p row hs hO hP hp hg hb)⟩
  refine ⟨_, rfl, _, rfl, st, p, row, rfl, hs, hp, by omega, fun L ps H' hperm sb hs1 hL eL => ?_⟩
  exact q H' L ps hs1 (sb _ _ (ne_st hs hO) hO) (hP.but sb hs) eL (hg.perm hperm) (hb.trans (sb.but2 D))
theorem plain1 (B : Bl mg) (cT : CF P w K mg base CX0 1 "_law_take" ["_law_state", "_law_many"] spTake) (cM : CF P w K mg base CX0 2 "_law_mixed" ["_law_state", "_law_items"] spMixed) (hr : Room 2 (A.deeper (PyProof.Rows.envOfC "_law_plain_wishes" (defScope sLplainwishes) s.heap.objs.size f cdv))) :
    ∃ t, PSs (cxOf CX0 P w K mg base nPlain "_law_plain_wishes" (defScope sLplainwishes) f cdv A outer s H0 E0').nox ((forB (defBody sLplainwishes) 2).drop 1) t ∧
      ∀ st it m O D order ns k a Hs Dn, PlF order ns k a → PlN st it m O D order ns k Hs Dn → PlI st it m O D order ns k a Hs Dn t := by
  obtain ⟨t, ht, q⟩ := plain2 (P := P) (w := w) (base := base) (outer := outer) (H0 := H0) (E0' := E0') B cT cM hr
  have esz : sizeLine = 16777216 := sizeLine_eq
  refine ⟨_, pss_cons (ps_if (pt_cmpR op_eq (pv 2) pe_int (nomark _)) (pss_one
      (ps_setLc (i := 6) (own := [("_law_b", 7)]) (g := gName 7) (by rfl) scLplainwishes.nd rfl rfl (sw_true rfl rfl rfl (by decide +kernel)) (pi_list (pv 3)) (blkOk_by (own := [("_law_b", 7)]) (N := nPlain) (sc := defScope sLplainwishes) (by decide +kernel))
          (fun _ _ _ _ _ => pg_name (i := 7) scLplainwishes.nd rfl (Or.inl rfl)) (fun _ _ _ _ _ => pts_one (pt_cmpR op_ne (pv 7) (pe_ix (ix_listK (K := K) rfl) (pv 3) (pv 5) (fun _ _ => rfl)) (nomark _))) (fun _ _ _ _ _ => pv 7))) pss_nil) ht, ?_⟩
  rintro st it m O D order ns k a Hs Dn F N H p row hs hO hP hp hg hb
  have q := q st it m O D order ns k a Hs Dn F N
  have hol := F.len
  refine ⟨_, rfl, rfl, _, rfl, ite2 (fun _ => ?_) (fun _ => q H p row hs hO hP hp hg hb)⟩
  refine ⟨_, rfl, O, rfl, ⟨_, SqL.of hO⟩, fun L hL => lc_it walk_list (fun i H' => Same H H' ∧ H' L = some (lstO ((order.take i).filter fun z => !decide (z = a)))) ⟨Same.new hL, upd_same⟩ (fun i H' _ z => z.1.seq (SqL.of hO)) ?_ ?_⟩
  · rintro i x Hx H1 hi ⟨s1, hD1⟩ ⟨rfl, hx⟩
    rw [List.getElem?_map] at hx
    cases ex : order[i]? with
    | none => rw [ex] at hx; cases hx
    | some z =>
      rw [ex] at hx
      cases hx
      have hlt : ((order.take i).filter fun z => !decide (z = a)).length < sizeLine := by
        have q1 := List.length_filter_le (fun z => !decide (z = a)) (order.take i)
        rw [List.length_take] at q1
        omega
      refine ⟨rfl, _, rfl, _, rfl, _, rfl, O, order.map V.str, k, .str a, rfl, rfl, SqL.of (s1 _ _ hO), atI_nat (j := k) (by rw [List.getElem?_map, F.at_]; rfl), rfl, _, rfl, ?_⟩
      have e9 : decide (V.str z = V.str a) = decide (z = a) := by
        rw [Bool.eq_iff_iff, decide_eq_true_iff, decide_eq_true_iff]
        exact ⟨fun e => V.str.inj e, fun e => by rw [e]⟩
      rw [e9]
      by_cases hza : z = a
      · rw [decide_eq_true hza]
        refine iteF ⟨s1, ?_⟩
        rw [take_snoc ex, List.filter_append, List.filter_cons_of_neg (by rw [decide_eq_true hza]; decide), List.filter_nil, List.append_nil]
        exact hD1
      · rw [decide_eq_false hza]
        refine iteT ⟨_, rfl, _, hD1, by rw [List.length_map]; exact hlt, fun b o e => ?_, ?_⟩
        · rw [upd_ne (ne_of_none e hL)]
          exact s1 _ _ e
        · rw [upd_same, take_snoc ex, List.filter_append, List.filter_cons_of_pos (by rw [decide_eq_false hza]; decide), List.filter_nil]
          unfold lstO
          rw [List.map_append]
          rfl
  · rintro H1 ⟨s1, hD1⟩
    rw [List.length_map, List.take_of_length_le (Nat.le_refl _)] at hD1
    exact q H1 L _ (hs.same s1) (s1 _ _ hO) (hP.same s1) hD1 (filt_grow F.nd F.sub) (hb.trans (s1.but2 st D))
end
theorem ok_plain {f : Addr} {fd : FuncData} (F : Fun K "_law_plain_wishes" "_law_plain_wishes" sLplainwishes f fd) (B : Bl mg) (cT : CF P w K mg base CX0 1 "_law_take" ["_law_state", "_law_many"] spTake) (cM : CF P w K mg base CX0 2 "_law_mixed" ["_law_state", "_law_items"] spMixed) :
    FnOk P w K mg base CX0 3 f fd ["_law_state", "_law_names_here", "_law_mode"] spPlain := by
  refine F.ok scLplainwishes (fun vs H Q E h => ?_) (fun cdv A outer s H vs Q E hr h => ?_)
  · obtain ⟨st, it, ns, m, rfl, _⟩ := h
    rfl
  · obtain ⟨st, it, ns, m, rfl, hst, hit, hnd, hlen, kq⟩ := h
    have esz : sizeLine = 16777216 := sizeLine_eq
    obtain ⟨t, ht, q⟩ := plain1 (P := P) (w := w) (base := base) (outer := outer) (H0 := H) (E0' := E) B cT cM hr
    refine ⟨_, pss_cons (ps_set (i := 3) scLplainwishes.nd rfl (Or.inr rfl) (pe_cf cM hr pass0 (pa_cons (pv 0) (pa_cons (pv 1) pa_nil))))
      (pss_cons (ps_set (i := 4) scLplainwishes.nd rfl (Or.inl rfl) pe_dnewK)
      (pss_cons (ps_for PassesOwn.never rfl (pi_range1 (by rfl) B.rng (pa_cons (pe_callB call_len_seq (by rfl) B.len PySem.boot_len (pa_cons (pv 3) pa_nil)) pa_nil)) (pg_name (i := 5) scLplainwishes.nd rfl (Or.inr rfl))
        (pss_cons (ps_set (i := 6) scLplainwishes.nd rfl (Or.inl rfl) (pe_op op_cat (pe_slice sl_list (pv 3) (po_some (pe_op op_add (pv 5) pe_int)) po_none) (pe_slice sl_list (pv 3) po_none (po_some (pv 5))))) ht))
      (pss_one (ps_ret (pv 4))))), ?_⟩
    refine ⟨_, rfl, _, rfl, st, it, ns, rfl, hst, hit, by omega, fun O order H1 hperm sb1 hs1 hO0 hO D hD => ?_⟩
    have nD0 : H D = none := by
      cases e : H D with
      | none => rfl
      | some o =>
        have nds : D ≠ st := new_ne_st hs1 hD
        have := sb1 _ _ nds e
        rw [this] at hD
        cases hD
    have hord : order.Nodup := hperm.nodup_iff.mpr hnd
    have hol : order.length ≤ 100 := by rw [hperm.length_eq]; exact hlen
    have s2 : Same H1 (upd H1 D (.dK [])) := Same.new hD
    have hP2 : Part (upd H1 D (.dK [])) D [] ns := Part.new upd_same
    generalize upd H1 D (.dK []) = H2 at s2 hP2
    have hO2 := s2 _ _ hO
    refine ⟨_, rfl, O, _, rfl, .inl (SqL.of hO2), _, rfl, by rw [List.length_map]; omega, by rw [List.length_map]; omega,
      for_it (walk_range (lo := 0) (n := (((order.map V.str).length : Nat) : Int).toNat)) (fun i σ H' => ∃ v5 v6 : Option V, σ = [some (.ref st), some (.ref it), some (.int m), some (.ref O), some (.ref D), v5, v6, none] ∧ StAt H' st ∧ H' O = some (lstO order) ∧ Part H' D (order.take i) ns ∧ But2 st D H2 H')
      ⟨none, none, rfl, hs1.same s2, hO2, hP2, But2.refl _ _ _⟩ (fun _ _ _ _ _ => True.intro) ?_ ?_⟩
    · rintro i x σ Hx H3 hi ⟨v5, v6, rfl, hs3, hO3, hP3, hb3⟩ ⟨rfl, rfl⟩
      rw [List.length_map, Int.toNat_natCast] at hi
      obtain ⟨a, ea⟩ : ∃ a, order[i]? = some a := ⟨_, List.getElem?_eq_getElem hi⟩
      have e0 : (0 : Int) + (i : Int) = ((i : Nat) : Int) := by omega
      have F' : PlF order ns i a := ⟨hord, ea, fun z hz => hperm.mem_iff.mp hz, hol, hlen⟩
      refine ⟨_, rfl, _, rfl, _, _, rfl, rfl, _, rfl, O, _, rfl, SqL.of hO3, fun L1 hL1 => ?_⟩
      have sL1 := Same.new (o := HO.lst (cutV (order.map V.str) (some (0 + (i : Int) + 1)) none)) hL1
      have eL1 : (upd H3 L1 (.lst (cutV (order.map V.str) (some (0 + (i : Int) + 1)) none))) L1 = some (lstO (order.drop (i + 1))) := by
        rw [upd_same, show (0 + (i : Int) + 1) = ((i + 1 : Nat) : Int) by omega, cut_from]
        unfold lstO
        rw [List.map_drop]
      generalize upd H3 L1 (.lst (cutV (order.map V.str) (some (0 + (i : Int) + 1)) none)) = H4 at sL1 eL1
      refine ⟨_, rfl, _, rfl, _, rfl, O, _, rfl, SqL.of (sL1 _ _ hO3), fun L2 hL2 => ?_⟩
      have sL2 := Same.new (o := HO.lst (cutV (order.map V.str) none (some (0 + (i : Int))))) hL2
      have eL2 : (upd H4 L2 (.lst (cutV (order.map V.str) none (some (0 + (i : Int)))))) L2 = some (lstO (order.take i)) := by
        rw [upd_same, e0, cut_to]
        unfold lstO
        rw [List.map_take]
      generalize upd H4 L2 (.lst (cutV (order.map V.str) none (some (0 + (i : Int))))) = H5 at sL2 eL2
      refine ⟨L1, L2, _, _, rfl, rfl, sL2 _ _ eL1, eL2, by rw [List.length_map, List.length_map, List.length_drop, List.length_take]; omega, fun L3 hL3 => ?_⟩
      have sL3 := Same.new (o := HO.lst ((order.drop (i + 1)).map V.str ++ (order.take i).map V.str)) hL3
      have s35 := (sL1.trans sL2).trans sL3
      show t _ [some (.ref st), some (.ref it), some (.int m), some (.ref O), some (.ref D), some (.int (0 + (i : Int))), some (.ref L3), none] _
      rw [e0]
      refine q st it m O D order ns i a H2 _ F' (fun H6 p hs6 hO6 hP6 hb6 => ?_) _ L3 (order.drop (i + 1) ++ order.take i) (hs3.same s35) (s35 _ _ hO3) (hP3.same s35) (by rw [upd_same]; unfold lstO; rw [List.map_append]) (grow_cons hord (fun z hz => hperm.mem_iff.mp hz) (rot_perm ea)) (hb3.trans (s35.but2 st D))
      exact ⟨_, _, rfl, hs6, hO6, hP6, hb6⟩
    · rintro σ H3 ⟨v5, v6, rfl, hs3, hO3, hP3, hb3⟩
      rw [List.length_map, Int.toNat_natCast, List.take_of_length_le (Nat.le_refl _)] at hP3
      refine ⟨_, rfl, kq D H3 nD0 (fun b o hb e => ?_) hs3 ⟨order, hperm, hP3⟩⟩
      have nbD : b ≠ D := ne_of_none e nD0
      exact hb3 _ _ (s2 _ _ (sb1 _ _ hb e)) hb nbD
end
end Qp
namespace Qp
open PySem L2
theorem side_grow1 {ns L R : List Str} (p : (L ++ R).Perm ns) (hn : ns.Nodup) {a : Str} (ha : a ∈ L) : GRow ns a R := by
  have h1 : (L ++ R).Nodup := p.nodup_iff.mpr hn
  obtain ⟨h2, h3, h4⟩ := List.nodup_append.mp h1
  exact ⟨h3, fun b hb => ⟨p.mem_iff.mp (List.mem_append_right _ hb), fun e => h4 a ha b hb e.symm⟩⟩
theorem side_grow2 {ns L R : List Str} (p : (L ++ R).Perm ns) (hn : ns.Nodup) {a : Str} (ha : a ∈ R) : GRow ns a L := by
  have h1 : (L ++ R).Nodup := p.nodup_iff.mpr hn
  obtain ⟨h2, h3, h4⟩ := List.nodup_append.mp h1
  exact ⟨h2, fun b hb => ⟨p.mem_iff.mp (List.mem_append_left _ hb), fun e => h4 b hb a ha e⟩⟩
theorem atI_str {zs : List Str} {k : Nat} {a : Str} (h : zs[k]? = some a) : atI (zs.map V.str) (k : Int) = some (.str a) := atI_nat (j := k) (by rw [List.getElem?_map, h]; rfl)
theorem cut_lstO {H : Hp} {L : Addr} {zs : List Str} {i : Nat} : (upd H L (.lst (cutV (zs.map V.str) (some (i : Int)) none))) L = some (lstO (zs.drop i)) := by
  rw [upd_same, cut_from]
  unfold lstO
  rw [List.map_drop]
theorem cut_lstT {H : Hp} {L : Addr} {zs : List Str} {i : Nat} : (upd H L (.lst (cutV (zs.map V.str) none (some (i : Int))))) L = some (lstO (zs.take i)) := by
  rw [upd_same, cut_to]
  unfold lstO
  rw [List.map_take]
theorem cat_lstO {H : Hp} {L : Addr} {xs ys : List Str} : (upd H L (.lst (xs.map V.str ++ ys.map V.str))) L = some (lstO (xs ++ ys)) := by
  rw [upd_same]
  unfold lstO
  rw [List.map_append]
section
variable {P : Program} {w : World} {K : PySem.W.Frag} {mg : Str → Option Value} {base : Heap}
/-- what stands while wishes are laid -/
structure Lay (Hs H : Hp) (st D : Addr) (qs ns : List Str) : Prop where
  st_ : StAt H st
  p : Part H D qs ns
  b : But2 st D Hs H
theorem Lay.same {Hs H H' : Hp} {st D : Addr} {qs ns : List Str} (h : Lay Hs H st D qs ns) (s : Same H H') : Lay Hs H' st D qs ns := ⟨h.st_.same s, h.p.same s, h.b.trans (s.but2 st D)⟩
theorem Lay.but {Hs H H' : Hp} {st D : Addr} {qs ns : List Str} (h : Lay Hs H st D qs ns) (s : SameBut st H H') (hs : StAt H' st) : Lay Hs H' st D qs ns := ⟨hs, h.p.but s h.st_, h.b.trans (s.but2 D)⟩
theorem Lay.draw {Hs H : Hp} {st D : Addr} {qs ns : List Str} (h : Lay Hs H st D qs ns) {n z : Int} (h0 : 0 ≤ n) (h1 : 0 ≤ z) (h2 : z < 2147483629) : Lay Hs (upd H st (.lst [.int n, .int z])) st D qs ns := h.but SameBut.set ⟨n, z, upd_same, h0, h1, h2⟩
theorem Lay.l {Hs H : Hp} {st D : Addr} {qs ns : List Str} (h : Lay Hs H st D qs ns) (hs : StAt Hs st) (hd : ∃ kvs, Hs D = some (.dK kvs)) {p : Addr} {zs : List Str} (hp : Hs p = some (lstO zs)) : H p = some (lstO zs) := by
  obtain ⟨kvs, e⟩ := hd
  exact h.b _ _ hp (ne_st hs hp) (ne_of hp e (by intro z; cases z))
theorem Lay.nD {Hs H : Hp} {st D : Addr} {qs ns : List Str} (h : Lay Hs H st D qs ns) : st ≠ D := by
  obtain ⟨kvs, e⟩ := h.p.dk
  obtain ⟨n, z, e2, _⟩ := h.st_
  intro y
  rw [← y, e2] at e
  cases e
theorem Lay.put {Hs H : Hp} {st D p : Addr} {qs ns row : List Str} {a : Str} (h : Lay Hs H st D qs ns) (ha : a ∉ qs) (hp : H p = some (lstO row)) (g : GRow ns a row) :
    ∃ kvs, H D = some (.dK kvs) ∧ kvs.length = qs.length ∧ Lay Hs (upd H D (.dK (putK kvs (Sum.inr a) (.ref p)))) st D (qs ++ [a]) ns := by
  obtain ⟨kvs, h1, h2, h3⟩ := h.p.put ha hp g
  have nD := h.nD
  refine ⟨kvs, h1, h2, ?_, h3, h.b.trans But2.setD⟩
  obtain ⟨n, z, e, r⟩ := h.st_
  exact ⟨n, z, by rw [upd_ne nD]; exact e, r⟩
theorem Lay.reput {Hs H : Hp} {st D p : Addr} {qs ns row : List Str} {a : Str} (h : Lay Hs H st D qs ns) (hn : qs.Nodup) (ha : a ∈ qs) (hp : H p = some (lstO row)) (g : GRow ns a row) :
    ∃ kvs, H D = some (.dK kvs) ∧ kvs.length = qs.length ∧ Lay Hs (upd H D (.dK (putK kvs (Sum.inr a) (.ref p)))) st D qs ns := by
  obtain ⟨kvs, h1, h2, h3⟩ := h.p.reput hn ha hp g
  have nD := h.nD
  refine ⟨kvs, h1, h2, ?_, h3, h.b.trans But2.setD⟩
  obtain ⟨n, z, e, r⟩ := h.st_
  exact ⟨n, z, by rw [upd_ne nD]; exact e, r⟩
theorem ok_side {f : Addr} {fd : FuncData} (F : Fun K "_law_side_wishes" "_law_side_wishes" sLsidewishes f fd) (B : Bl mg) (cT : CF P w K mg base CX0 1 "_law_take" ["_law_state", "_law_many"] spTake) (cM : CF P w K mg base CX0 2 "_law_mixed" ["_law_state", "_law_items"] spMixed) :
    FnOk P w K mg base CX0 3 f fd ["_law_state", "_law_names_here"] spWsh := by
  refine F.ok scLsidewishes (fun vs H Q E h => ?_) (fun cdv A outer s H vs Q E hr h => ?_)
  · obtain ⟨st, it, ns, rfl, _⟩ := h
    rfl
  · obtain ⟨st, it, ns, rfl, hst, hit, hnd, hlen, kq⟩ := h
    have esz : sizeLine = 16777216 := sizeLine_eq
    have hr1 : Room 1 _ := hr.mono (by decide)
    have hu := hu_of hr
    refine ⟨_, pss_cons (ps_set (i := 2) scLsidewishes.nd rfl (Or.inl rfl) (pe_cf cM hr pass0 (pa_cons (pv 0) (pa_cons (pv 1) pa_nil))))
      (pss_cons (ps_set (i := 3) scLsidewishes.nd rfl (Or.inl rfl) (pe_slice sl_list (pv 2) po_none (po_some (pe_op op_fdivNN (pe_callB call_len_seq (by rfl) B.len PySem.boot_len (pa_cons (pv 2) pa_nil)) pe_int))))
      (pss_cons (ps_set (i := 4) scLsidewishes.nd rfl (Or.inl rfl) (pe_slice sl_list (pv 2) (po_some (pe_op op_fdivNN (pe_callB call_len_seq (by rfl) B.len PySem.boot_len (pa_cons (pv 2) pa_nil)) pe_int)) po_none))
      (pss_cons (ps_set (i := 5) scLsidewishes.nd rfl (Or.inl rfl) (pe_cf cT hr1 pass0 (pa_cons (pv 0) (pa_cons pe_int pa_nil))))
      (pss_cons (ps_set (i := 6) scLsidewishes.nd rfl (Or.inl rfl) pe_dnewK)
      (pss_cons (ps_for PassesOwn.never rfl (pi_range1 (by rfl) B.rng (pa_cons (pe_callB call_len_seq (by rfl) B.len PySem.boot_len (pa_cons (pv 3) pa_nil)) pa_nil)) (pg_name (i := 7) scLsidewishes.nd rfl (Or.inl rfl))
        (pss_cons (ps_dput hu (pv 6) (pe_ix ix_list (pv 3) (pv 7) (fun _ _ => rfl)) (pe_op op_cat (pe_slice sl_list (pv 4) (po_some (pv 7)) po_none) (pe_slice sl_list (pv 4) po_none (po_some (pv 7)))) rfl)
        (pss_one (ps_if (pt_cmpR op_eq (pv 5) pe_int (nomark _)) (pss_one (ps_dput hu (pv 6) (pe_ix ix_list (pv 3) (pv 7) (fun _ _ => rfl)) (pe_cf cM hr pass0 (pa_cons (pv 0) (pa_cons (pv 4) pa_nil))) rfl)) pss_nil))))
      (pss_cons (ps_for PassesOwn.never rfl (pi_range1 (by rfl) B.rng (pa_cons (pe_callB call_len_seq (by rfl) B.len PySem.boot_len (pa_cons (pv 4) pa_nil)) pa_nil)) (pg_name (i := 7) scLsidewishes.nd rfl (Or.inl rfl))
        (pss_cons (ps_dput hu (pv 6) (pe_ix ix_list (pv 4) (pv 7) (fun _ _ => rfl)) (pe_op op_cat (pe_slice sl_list (pv 3) (po_some (pe_op op_add (pv 7) pe_int)) po_none) (pe_slice sl_list (pv 3) po_none (po_some (pe_op op_add (pv 7) pe_int)))) rfl)
        (pss_one (ps_if (pt_cmpR op_eq (pv 5) pe_int (nomark _)) (pss_one (ps_dput hu (pv 6) (pe_ix ix_list (pv 4) (pv 7) (fun _ _ => rfl)) (pe_cf cM hr pass0 (pa_cons (pv 0) (pa_cons (pv 3) pa_nil))) rfl)) pss_nil))))
      (pss_one (ps_ret (pv 6))))))))), ?_⟩
    refine ⟨_, rfl, _, rfl, st, it, ns, rfl, hst, hit, by omega, fun O order H1 hperm sb1 hs1 hO0 hO => ?_⟩
    have hord : order.Nodup := hperm.nodup_iff.mpr hnd
    have hol : order.length ≤ 100 := by rw [hperm.length_eq]; exact hlen
    refine ⟨_, rfl, _, rfl, O, _, rfl, .inl (SqL.of hO), order.length, 2, by rw [List.length_map], rfl, by decide, _, rfl, O, _, rfl, SqL.of hO, fun La hLa => ?_⟩
    have s2 := Same.new (o := HO.lst (cutV (order.map V.str) none (some ((order.length / 2 : Nat) : Int)))) hLa
    have eLa := cut_lstT (H := H1) (L := La) (zs := order) (i := order.length / 2)
    generalize upd H1 La (.lst (cutV (order.map V.str) none (some ((order.length / 2 : Nat) : Int)))) = H2 at s2 eLa
    have hO2 := s2 _ _ hO
    refine ⟨_, rfl, _, rfl, O, _, rfl, .inl (SqL.of hO2), order.length, 2, by rw [List.length_map], rfl, by decide, _, rfl, O, _, rfl, SqL.of hO2, fun Ra hRa => ?_⟩
    have s3 := Same.new (o := HO.lst (cutV (order.map V.str) (some ((order.length / 2 : Nat) : Int)) none)) hRa
    have eRa := cut_lstO (H := H2) (L := Ra) (zs := order) (i := order.length / 2)
    generalize upd H2 Ra (.lst (cutV (order.map V.str) (some ((order.length / 2 : Nat) : Int)) none)) = H3 at s3 eRa
    have hLR : (order.take (order.length / 2) ++ order.drop (order.length / 2)).Perm ns := by rw [List.take_append_drop]; exact hperm
    replace eLa := s3 _ _ eLa
    have hle : (order.take (order.length / 2)).length + (order.drop (order.length / 2)).length ≤ 100 := by rw [← List.length_append, List.take_append_drop]; exact hol
    generalize order.take (order.length / 2) = L at eLa hLR hle
    generalize order.drop (order.length / 2) = R at eRa hLR hle
    have hs3 := (hs1.same s2).same s3
    refine ⟨_, rfl, st, 2, rfl, by decide, by decide, hs3, fun tn n1 z1 _ _ a1 a2 a3 => ?_⟩
    have sb4 : SameBut st H3 (upd H3 st (.lst [.int n1, .int z1])) := SameBut.set
    have hs4 : StAt (upd H3 st (.lst [.int n1, .int z1])) st := ⟨n1, z1, upd_same, a1, a2, a3⟩
    generalize upd H3 st (.lst [.int n1, .int z1]) = H4 at sb4 hs4
    refine fun D hD => ?_
    have sbA : SameBut st H H4 := ((sb1.trans (s2.but st)).trans (s3.but st)).trans sb4
    have nD0 : H D = none := by
      cases e : H D with
      | none => rfl
      | some o =>
        have := sbA _ _ (new_ne_st hs4 hD) e
        rw [this] at hD
        cases hD
    have s5 : Same H4 (upd H4 D (.dK [])) := Same.new hD
    have hP5 : Part (upd H4 D (.dK [])) D [] ns := Part.new upd_same
    have hd5 : ∃ kvs, (upd H4 D (.dK [])) D = some (.dK kvs) := ⟨_, upd_same⟩
    generalize upd H4 D (.dK []) = Hs at s5 hP5 hd5
    have hsS := hs4.same s5
    have eL5 : Hs La = some (lstO L) := s5 _ _ (sb4 _ _ (ne_st hs3 eLa) eLa)
    have eR5 : Hs Ra = some (lstO R) := s5 _ _ (sb4 _ _ (ne_st hs3 eRa) eRa)
    have hnLR : (L ++ R).Nodup := hLR.nodup_iff.mpr hnd
    obtain ⟨nL, nR, nLR⟩ := List.nodup_append.mp hnLR
    refine ⟨_, rfl, La, _, rfl, .inl (SqL.of eL5), _, rfl, by rw [List.length_map]; omega, by rw [List.length_map]; omega,
      for_it (walk_range (lo := 0) (n := (((L.map V.str).length : Nat) : Int).toNat)) (fun i σ H' => ∃ v7 : Option V, σ = [some (.ref st), some (.ref it), some (.ref O), some (.ref La), some (.ref Ra), some (.int tn), some (.ref D), v7] ∧ Lay Hs H' st D (L.take i) ns)
      ⟨none, rfl, hsS, hP5, But2.refl _ _ _⟩ (fun _ _ _ _ _ => True.intro) ?_ ?_⟩
    · rintro i x σ Hx H6 hi ⟨v7, rfl, Y⟩ ⟨rfl, hx⟩
      rw [List.length_map, Int.toNat_natCast] at hi
      obtain ⟨a, ea⟩ : ∃ a, L[i]? = some a := ⟨_, List.getElem?_eq_getElem hi⟩
      have ha : a ∈ L := List.mem_of_getElem? ea
      have e0 : (0 : Int) + (i : Int) = ((i : Nat) : Int) := by omega
      obtain rfl : x = V.int (i : Int) := hx.trans (by show V.int (0 + (i : Int)) = V.int (i : Int); rw [e0])
      have hR6 := Y.l hsS hd5 eR5
      refine ⟨_, rfl, _, rfl, _, rfl, Ra, _, rfl, SqL.of hR6, fun L1 hL1 => ?_⟩
      have sL1 := Same.new (o := HO.lst (cutV (R.map V.str) (some (i : Int)) none)) hL1
      have eL1 := cut_lstO (H := H6) (L := L1) (zs := R) (i := i)
      generalize upd H6 L1 (.lst (cutV (R.map V.str) (some (i : Int)) none)) = H7 at sL1 eL1
      refine ⟨_, rfl, _, rfl, _, rfl, Ra, _, rfl, SqL.of (sL1 _ _ hR6), fun L2 hL2 => ?_⟩
      have sL2 := Same.new (o := HO.lst (cutV (R.map V.str) none (some (i : Int)))) hL2
      have eL2 := cut_lstT (H := H7) (L := L2) (zs := R) (i := i)
      generalize upd H7 L2 (.lst (cutV (R.map V.str) none (some (i : Int)))) = H8 at sL2 eL2
      refine ⟨L1, L2, _, _, rfl, rfl, sL2 _ _ eL1, eL2, by rw [List.length_map, List.length_map, List.length_drop, List.length_take]; omega, fun L3 hL3 => ?_⟩
      have sL3 := Same.new (o := HO.lst ((R.drop i).map V.str ++ (R.take i).map V.str)) hL3
      have eL3 := cat_lstO (H := H8) (L := L3) (xs := R.drop i) (ys := R.take i)
      generalize upd H8 L3 (.lst ((R.drop i).map V.str ++ (R.take i).map V.str)) = H9 at sL3 eL3
      have Y9 := ((Y.same sL1).same sL2).same sL3
      obtain ⟨kvs, h1, h2, Y10⟩ := Y9.put (not_mem_take nL ea) eL3 ((side_grow1 hLR hnd ha).perm rot2_perm)
      refine ⟨_, rfl, _, rfl, _, rfl, La, _, i, .str a, rfl, rfl, SqL.of (Y9.l hsS hd5 eL5), atI_str ea, D, _, rfl, DPut.k (k := Sum.inr a) h1 (by rw [h2, List.length_take]; omega), ?_⟩
      generalize upd H9 D (.dK (putK kvs (Sum.inr a) (.ref L3))) = H10 at Y10
      rw [← take_snoc ea] at Y10
      refine ⟨_, rfl, rfl, _, rfl, ite2 (fun _ => ?_) (fun _ => ⟨_, rfl, Y10⟩)⟩
      refine ⟨_, rfl, _, rfl, st, Ra, R, rfl, Y10.st_, Y10.l hsS hd5 eR5, by omega, fun L4 ps H11 hpp sb hs11 _ eL4 => ?_⟩
      have Y11 := Y10.but sb hs11
      have hat : a ∈ L.take (i + 1) := by rw [take_snoc ea]; exact List.mem_append_right _ List.mem_cons_self
      obtain ⟨kv2, g1, g2, Y12⟩ := Y11.reput (nL.sublist (List.take_sublist _ _)) hat eL4 ((side_grow1 hLR hnd ha).perm hpp)
      exact ⟨_, rfl, _, rfl, _, rfl, La, _, i, .str a, rfl, rfl, SqL.of (Y11.l hsS hd5 eL5), atI_str ea, D, _, rfl, DPut.k (k := Sum.inr a) g1 (by rw [g2, List.length_take]; omega), _, rfl, Y12⟩
    · rintro σ H6 ⟨v7, rfl, Y⟩
      rw [List.length_map, Int.toNat_natCast, List.take_of_length_le (Nat.le_refl _)] at Y
      refine ⟨_, rfl, Ra, _, rfl, .inl (SqL.of (Y.l hsS hd5 eR5)), _, rfl, by rw [List.length_map]; omega, by rw [List.length_map]; omega,
        for_it (walk_range (lo := 0) (n := (((R.map V.str).length : Nat) : Int).toNat)) (fun i σ H' => ∃ v7 : Option V, σ = [some (.ref st), some (.ref it), some (.ref O), some (.ref La), some (.ref Ra), some (.int tn), some (.ref D), v7] ∧ Lay Hs H' st D (L ++ R.take i) ns)
        ⟨v7, rfl, by rw [List.take_zero, List.append_nil]; exact Y⟩ (fun _ _ _ _ _ => True.intro) ?_ ?_⟩
      · rintro i x σ Hx H6 hi ⟨v7, rfl, Y⟩ ⟨rfl, hx⟩
        rw [List.length_map, Int.toNat_natCast] at hi
        obtain ⟨a, ea⟩ : ∃ a, R[i]? = some a := ⟨_, List.getElem?_eq_getElem hi⟩
        have ha : a ∈ R := List.mem_of_getElem? ea
        have e0 : (0 : Int) + (i : Int) = ((i : Nat) : Int) := by omega
        have e1 : ((i : Nat) : Int) + 1 = ((i + 1 : Nat) : Int) := by omega
        obtain rfl : x = V.int (i : Int) := hx.trans (by show V.int (0 + (i : Int)) = V.int (i : Int); rw [e0])
        have hL6 := Y.l hsS hd5 eL5
        refine ⟨_, rfl, _, rfl, _, _, rfl, rfl, _, rfl, La, _, rfl, SqL.of hL6, fun L1 hL1 => ?_⟩
        rw [e1]
        have sL1 := Same.new (o := HO.lst (cutV (L.map V.str) (some ((i + 1 : Nat) : Int)) none)) hL1
        have eL1 := cut_lstO (H := H6) (L := L1) (zs := L) (i := i + 1)
        generalize upd H6 L1 (.lst (cutV (L.map V.str) (some ((i + 1 : Nat) : Int)) none)) = H7 at sL1 eL1
        refine ⟨_, rfl, _, rfl, _, _, rfl, rfl, _, rfl, La, _, rfl, SqL.of (sL1 _ _ hL6), fun L2 hL2 => ?_⟩
        rw [e1]
        have sL2 := Same.new (o := HO.lst (cutV (L.map V.str) none (some ((i + 1 : Nat) : Int)))) hL2
        have eL2 := cut_lstT (H := H7) (L := L2) (zs := L) (i := i + 1)
        generalize upd H7 L2 (.lst (cutV (L.map V.str) none (some ((i + 1 : Nat) : Int)))) = H8 at sL2 eL2
        refine ⟨L1, L2, _, _, rfl, rfl, sL2 _ _ eL1, eL2, by rw [List.length_map, List.length_map, List.length_drop, List.length_take]; omega, fun L3 hL3 => ?_⟩
        have sL3 := Same.new (o := HO.lst ((L.drop (i + 1)).map V.str ++ (L.take (i + 1)).map V.str)) hL3
        have eL3 := cat_lstO (H := H8) (L := L3) (xs := L.drop (i + 1)) (ys := L.take (i + 1))
        generalize upd H8 L3 (.lst ((L.drop (i + 1)).map V.str ++ (L.take (i + 1)).map V.str)) = H9 at sL3 eL3
        have Y9 := ((Y.same sL1).same sL2).same sL3
        have hna : a ∉ L ++ R.take i := fun h => by
          rcases List.mem_append.mp h with q | q
          · exact nLR a q a ha rfl
          · exact not_mem_take nR ea q
        obtain ⟨kvs, h1, h2, Y10⟩ := Y9.put hna eL3 ((side_grow2 hLR hnd ha).perm rot2_perm)
        refine ⟨_, rfl, _, rfl, _, rfl, Ra, _, i, .str a, rfl, rfl, SqL.of (Y9.l hsS hd5 eR5), atI_str ea, D, _, rfl, DPut.k (k := Sum.inr a) h1 (by rw [h2, List.length_append, List.length_take]; omega), ?_⟩
        generalize upd H9 D (.dK (putK kvs (Sum.inr a) (.ref L3))) = H10 at Y10
        rw [List.append_assoc, ← take_snoc ea] at Y10
        refine ⟨_, rfl, rfl, _, rfl, ite2 (fun _ => ?_) (fun _ => ⟨_, rfl, Y10⟩)⟩
        refine ⟨_, rfl, _, rfl, st, La, L, rfl, Y10.st_, Y10.l hsS hd5 eL5, by omega, fun L4 ps H11 hpp sb hs11 _ eL4 => ?_⟩
        have Y11 := Y10.but sb hs11
        have hat : a ∈ L ++ R.take (i + 1) := by rw [take_snoc ea]; exact List.mem_append_right _ (List.mem_append_right _ List.mem_cons_self)
        have hndq : (L ++ R.take (i + 1)).Nodup := hnLR.sublist (List.Sublist.append_left (List.take_sublist _ _) L)
        obtain ⟨kv2, g1, g2, Y12⟩ := Y11.reput hndq hat eL4 ((side_grow2 hLR hnd ha).perm hpp)
        exact ⟨_, rfl, _, rfl, _, rfl, Ra, _, i, .str a, rfl, rfl, SqL.of (Y11.l hsS hd5 eR5), atI_str ea, D, _, rfl, DPut.k (k := Sum.inr a) g1 (by rw [g2, List.length_append, List.length_take]; omega), _, rfl, Y12⟩
      · rintro σ H6 ⟨v7, rfl, Y⟩
        rw [List.length_map, Int.toNat_natCast, List.take_of_length_le (Nat.le_refl _)] at Y
        refine ⟨_, rfl, kq D H6 nD0 (fun b o hb e => ?_) Y.st_ ⟨L ++ R, hLR, Y.p⟩⟩
        exact Y.b _ _ (s5 _ _ (sbA _ _ hb e)) hb (ne_of_none e nD0)
end
end Qp
namespace L2
open PySem PySem.Spec PyProof.Rows
theorem op_notInSK {X : Cx} {K : PySem.W.Frag} (hK : X.K = K) (hu : X.A.units + 64 < cLine) : OpR X (compareOp .NotIn) (rInS K true) := by
  subst hK
  exact op_notInS hu
end L2
namespace Qp
open PySem L2
theorem two_sub {l : List Str} {x y : Str} (h : 1 < l.length) (hx : l[0]? = some x) (hy : l[l.length - 1]? = some y) : [x, y].Sublist l := by
  cases l with
  | nil => cases hx
  | cons a r =>
    have e : a = x := Option.some.inj hx
    subst e
    refine List.Sublist.cons_cons _ (List.singleton_sublist.mpr ?_)
    have hr : 0 < r.length := by simp only [List.length_cons] at h; omega
    rw [show (a :: r).length - 1 = (r.length - 1) + 1 by simp only [List.length_cons]; omega, List.getElem?_cons_succ] at hy
    exact List.mem_of_getElem? hy
theorem atI_last {l : List Str} {y : Str} (h0 : 0 < l.length) (hy : l[l.length - 1]? = some y) : atI (l.map V.str) (-1) = some (.str y) := by
  unfold atI ixN
  rw [if_neg (by decide), if_pos (by rw [List.length_map]; omega)]
  show (l.map V.str)[((-1 : Int) + (((l.map V.str).length : Nat) : Int)).toNat]? = some (.str y)
  rw [List.length_map, show ((-1 : Int) + ((l.length : Nat) : Int)).toNat = l.length - 1 by omega, List.getElem?_map, hy]
  rfl
structure BkF (block ns qs : List Str) (k : Nat) (a : Str) : Prop where
  at_ : block[k]? = some a
  nd : block.Nodup
  sub : ∀ z ∈ block, z ∈ ns
  len : block.length ≤ 100
  lenn : ns.length ≤ 100
  ndn : ns.Nodup
  na : a ∉ qs
  lenq : qs.length ≤ 1000
structure BkH (Hs : Hp) (st D Ba it : Addr) (block ns : List Str) : Prop where
  s : StAt Hs st
  d : ∃ kvs, Hs D = some (.dK kvs)
  b : Hs Ba = some (lstO block)
  i : Hs it = some (lstO ns)
def bkS (st it O D : Addr) (v4 v5 v6 : Option V) (Ba : Addr) (k : Nat) (v9 v10 v11 : Option V) : St := [some (.ref st), some (.ref it), some (.ref O), some (.ref D), v4, v5, v6, some (.ref Ba), some (.int k), v9, v10, v11, none]
def BkN (st it O D : Addr) (v4 v5 v6 : Option V) (Ba : Addr) (k : Nat) (a : Str) (qs ns : List Str) (Hs : Hp) (Dn : Ends) : Prop := ∀ (H : Hp) (v9 v10 v11 : Option V), Lay Hs H st D (qs ++ [a]) ns → Dn.nx (bkS st it O D v4 v5 v6 Ba k v9 v10 v11) H
def BkI (st it O D : Addr) (v4 v5 v6 : Option V) (Ba : Addr) (k : Nat) (a : Str) (qs ns : List Str) (Hs : Hp) (Dn : Ends) (t : TS) : Prop := ∀ (H : Hp) (v9 : Option V) (h tl : Addr) (hs ts : List Str), Lay Hs H st D qs ns → H h = some (lstO hs) → H tl = some (lstO ts) → GRow ns a (hs ++ ts) → t Dn (bkS st it O D v4 v5 v6 Ba k v9 (some (.ref h)) (some (.ref tl))) H
def BkJ (st it O D : Addr) (v4 v5 v6 : Option V) (Ba : Addr) (k : Nat) (a : Str) (qs ns : List Str) (Hs : Hp) (Dn : Ends) (t : TS) : Prop := ∀ (H : Hp) (v9 v11 : Option V) (h : Addr) (hs : List Str), Lay Hs H st D qs ns → H h = some (lstO hs) → GRow ns a hs → t Dn (bkS st it O D v4 v5 v6 Ba k v9 (some (.ref h)) v11) H
abbrev nBlock : List Str := ["_law_state", "_law_names_here", "_law_order", "_law_wishes_here", "_law_at", "_law_turn", "_law_size", "_law_block", "_law_k", "_law_ring", "_law_head", "_law_tail", "_law_b"]
abbrev innerB : List Stmt := forB (forB (defBody sLblockwishes) 3) 3
section
variable {P : Program} {w : World} {K : PySem.W.Frag} {mg : Str → Option Value} {base : Heap}
section
variable {f : Addr} {cdv : Value} {A : Around} {outer : List Env} {s : Shared} {H0 : Hp} {E0' : XK}
theorem block6 (B : Bl mg) (hr : Room 2 (A.deeper (PyProof.Rows.envOfC "_law_block_wishes" (defScope sLblockwishes) s.heap.objs.size f cdv))) :
    ∃ t, PSs (cxOf CX0 P w K mg base nBlock "_law_block_wishes" (defScope sLblockwishes) f cdv A outer s H0 E0').nox (innerB.drop 6) t ∧
      ∀ st it O D v4 v5 v6 Ba k a block qs ns Hs Dn, BkF block ns qs k a → BkH Hs st D Ba it block ns → BkN st it O D v4 v5 v6 Ba k a qs ns Hs Dn → BkI st it O D v4 v5 v6 Ba k a qs ns Hs Dn t := by
  have hu := hu_of hr
  have esz : sizeLine = 16777216 := sizeLine_eq
  refine ⟨_, pss_one (ps_dput hu (pv 3) (pe_ix ix_list (pv 7) (pv 8) (fun _ _ => rfl)) (pe_op op_cat (pv 10) (pv 11)) rfl), ?_⟩
  rintro st it O D v4 v5 v6 Ba k a block qs ns Hs Dn F G N H v9 h tl hs ts Y eh et g
  have hgl := g.len
  rw [List.length_append] at hgl
  have hnl := F.lenn
  have hql := F.lenq
  refine ⟨_, rfl, _, rfl, h, tl, _, _, rfl, rfl, eh, et, by rw [List.length_map, List.length_map]; omega, fun L hL => ?_⟩
  have sL := Same.new (o := HO.lst (hs.map V.str ++ ts.map V.str)) hL
  have eL := cat_lstO (H := H) (L := L) (xs := hs) (ys := ts)
  generalize upd H L (.lst (hs.map V.str ++ ts.map V.str)) = H1 at sL eL
  have Y1 := Y.same sL
  obtain ⟨kvs, h1, h2, Y2⟩ := Y1.put F.na eL g
  exact ⟨_, rfl, _, rfl, _, rfl, Ba, _, k, .str a, rfl, rfl, SqL.of (Y1.l G.s G.d G.b), atI_str F.at_, D, _, rfl, DPut.k (k := Sum.inr a) h1 (by omega), N _ _ _ _ Y2⟩
theorem block5 (B : Bl mg) (cT : CF P w K mg base CX0 1 "_law_take" ["_law_state", "_law_many"] spTake) (hr : Room 2 (A.deeper (PyProof.Rows.envOfC "_law_block_wishes" (defScope sLblockwishes) s.heap.objs.size f cdv))) :
    ∃ t, PSs (cxOf CX0 P w K mg base nBlock "_law_block_wishes" (defScope sLblockwishes) f cdv A outer s H0 E0').nox (innerB.drop 5) t ∧
      ∀ st it O D v4 v5 v6 Ba k a block qs ns Hs Dn, BkF block ns qs k a → BkH Hs st D Ba it block ns → BkN st it O D v4 v5 v6 Ba k a qs ns Hs Dn → BkI st it O D v4 v5 v6 Ba k a qs ns Hs Dn t := by
  obtain ⟨t, ht, q⟩ := block6 (P := P) (w := w) (base := base) (outer := outer) (H0 := H0) (E0' := E0') B hr
  have hr1 : Room 1 _ := hr.mono (by decide)
  have esz : sizeLine = 16777216 := sizeLine_eq
  refine ⟨_, pss_cons (ps_if (PW.pt (pw_and (pt_truth (pv 11) (by intro _; rfl)) (pw_and1 (pt_cmpR op_eq (pe_cf cT hr1 pass0 (pa_cons (pv 0) (pa_cons pe_int pa_nil))) pe_int (nomark _)))))
      (pss_cons (ps_set (i := 10) scLblockwishes.nd rfl (Or.inr rfl) (pe_op op_cat (pe_slice sl_list (pv 11) po_none (po_some pe_int)) (pv 10)))
      (pss_one (ps_set (i := 11) scLblockwishes.nd rfl (Or.inl rfl) (pe_slice sl_list (pv 11) (po_some pe_int) po_none)))) pss_nil) ht, ?_⟩
  rintro st it O D v4 v5 v6 Ba k a block qs ns Hs Dn F G N H v9 h tl hs ts Y eh et g
  have q := q st it O D v4 v5 v6 Ba k a block qs ns Hs Dn F G N
  have hgl := g.len
  rw [List.length_append] at hgl
  have hnl := F.lenn
  refine ⟨_, rfl, _, .inl ⟨_, SqL.of et, rfl⟩, ?_⟩
  cases ets : ts with
  | nil => 
    rw [← ets]
    exact (if_neg (by rw [ets]; decide)).mpr (iteF (q H v9 h tl hs ts Y eh et g))
  | cons t0 tr =>
    rw [← ets]
    refine (if_pos (by rw [ets]; rfl)).mpr ?_
    refine ⟨_, rfl, st, 5, rfl, by decide, by decide, Y.st_, fun d n1 z1 _ _ a1 a2 a3 => ?_⟩
    have Y1 := Y.draw a1 a2 a3
    have sb1 : SameBut st H (upd H st (.lst [.int n1, .int z1])) := SameBut.set
    generalize upd H st (.lst [.int n1, .int z1]) = H1 at Y1 sb1
    replace eh := sb1 _ _ (ne_st Y.st_ eh) eh
    replace et := sb1 _ _ (ne_st Y.st_ et) et
    refine ⟨rfl, _, rfl, ite2 (fun _ => ?_) (fun _ => q H1 v9 h tl hs ts Y1 eh et g)⟩
    refine ⟨_, rfl, _, rfl, tl, _, rfl, SqL.of et, fun L1 hL1 => ?_⟩
    have s1 := Same.new (o := HO.lst (cutV (ts.map V.str) none (some 1))) hL1
    have e1 := cut_lstT (H := H1) (L := L1) (zs := ts) (i := 1)
    generalize upd H1 L1 (.lst (cutV (ts.map V.str) none (some 1))) = H2 at s1 e1
    refine ⟨_, rfl, L1, h, _, _, rfl, rfl, e1, s1 _ _ eh, by rw [List.length_map, List.length_map, List.length_take]; omega, fun L2 hL2 => ?_⟩
    have s2 := Same.new (o := HO.lst ((ts.take 1).map V.str ++ hs.map V.str)) hL2
    have e2 := cat_lstO (H := H2) (L := L2) (xs := ts.take 1) (ys := hs)
    generalize upd H2 L2 (.lst ((ts.take 1).map V.str ++ hs.map V.str)) = H3 at s2 e2
    refine ⟨_, rfl, _, rfl, tl, _, rfl, SqL.of (s2 _ _ (s1 _ _ et)), fun L3 hL3 => ?_⟩
    have s3 := Same.new (o := HO.lst (cutV (ts.map V.str) (some 1) none)) hL3
    have e3 := cut_lstO (H := H3) (L := L3) (zs := ts) (i := 1)
    refine q _ v9 L2 L3 (ts.take 1 ++ hs) (ts.drop 1) (((Y1.same s1).same s2).same s3) (s3 _ _ e2) e3 (g.perm ?_)
    have p1 : (ts.take 1 ++ hs ++ ts.drop 1).Perm (hs ++ ts.take 1 ++ ts.drop 1) := List.Perm.append_right _ List.perm_append_comm
    rw [List.append_assoc hs, List.take_append_drop] at p1
    exact p1
theorem block4 (B : Bl mg) (cT : CF P w K mg base CX0 1 "_law_take" ["_law_state", "_law_many"] spTake) (hr : Room 2 (A.deeper (PyProof.Rows.envOfC "_law_block_wishes" (defScope sLblockwishes) s.heap.objs.size f cdv))) :
    ∃ t, PSs (cxOf CX0 P w K mg base nBlock "_law_block_wishes" (defScope sLblockwishes) f cdv A outer s H0 E0').nox (innerB.drop 4) t ∧
      ∀ st it O D v4 v5 v6 Ba k a block qs ns Hs Dn, BkF block ns qs k a → BkH Hs st D Ba it block ns → BkN st it O D v4 v5 v6 Ba k a qs ns Hs Dn → BkI st it O D v4 v5 v6 Ba k a qs ns Hs Dn t := by
  obtain ⟨t, ht, q⟩ := block5 (P := P) (w := w) (base := base) (outer := outer) (H0 := H0) (E0' := E0') B cT hr
  have hr1 : Room 1 _ := hr.mono (by decide)
  refine ⟨_, pss_cons (ps_set (i := 11) scLblockwishes.nd rfl (Or.inl rfl) (pe_slice sl_list (pv 11) po_none (po_some (pe_cf cT hr1 pass0 (pa_cons (pv 0) (pa_cons (pe_op op_add (pe_callB call_len_seq (by rfl) B.len PySem.boot_len (pa_cons (pv 11) pa_nil)) pe_int) pa_nil)))))) ht, ?_⟩
  rintro st it O D v4 v5 v6 Ba k a block qs ns Hs Dn F G N H v9 h tl hs ts Y eh et g
  have q := q st it O D v4 v5 v6 Ba k a block qs ns Hs Dn F G N
  have hgl := g.len
  rw [List.length_append] at hgl
  have hnl := F.lenn
  refine ⟨_, rfl, _, rfl, _, rfl, tl, _, rfl, .inl (SqL.of et), _, _, rfl, rfl, st, ts.length + 1, by rw [List.length_map]; rfl, by omega, by omega, Y.st_, fun d n1 z1 hd0 hd1 a1 a2 a3 => ?_⟩
  have Y1 := Y.draw a1 a2 a3
  have sb1 : SameBut st H (upd H st (.lst [.int n1, .int z1])) := SameBut.set
  generalize upd H st (.lst [.int n1, .int z1]) = H1 at Y1 sb1
  replace eh := sb1 _ _ (ne_st Y.st_ eh) eh
  replace et := sb1 _ _ (ne_st Y.st_ et) et
  obtain ⟨i, rfl⟩ := Int.eq_ofNat_of_zero_le hd0
  refine ⟨_, rfl, tl, _, rfl, SqL.of et, fun L hL => ?_⟩
  have s2 := Same.new (o := HO.lst (cutV (ts.map V.str) none (some ((i : Nat) : Int)))) hL
  exact q _ v9 h L hs (ts.take i) (Y1.same s2) (s2 _ _ eh) cut_lstT (g.sub (List.Sublist.append_left (List.take_sublist i ts) hs))
theorem block3 (B : Bl mg) (cT : CF P w K mg base CX0 1 "_law_take" ["_law_state", "_law_many"] spTake) (cM : CF P w K mg base CX0 2 "_law_mixed" ["_law_state", "_law_items"] spMixed) (cO : CF P w K mg base CX0 1 "_law_others" ["_law_names_here", "_law_a"] (spOthers K))
    (hr : Room 2 (A.deeper (PyProof.Rows.envOfC "_law_block_wishes" (defScope sLblockwishes) s.heap.objs.size f cdv))) :
    ∃ t, PSs (cxOf CX0 P w K mg base nBlock "_law_block_wishes" (defScope sLblockwishes) f cdv A outer s H0 E0').nox (innerB.drop 3) t ∧
      ∀ st it O D v4 v5 v6 Ba k a block qs ns Hs Dn, BkF block ns qs k a → BkH Hs st D Ba it block ns → BkN st it O D v4 v5 v6 Ba k a qs ns Hs Dn → BkJ st it O D v4 v5 v6 Ba k a qs ns Hs Dn t := by
  obtain ⟨t, ht, q⟩ := block4 (P := P) (w := w) (base := base) (outer := outer) (H0 := H0) (E0' := E0') B cT hr
  have hr1 : Room 1 _ := hr.mono (by decide)
  have esz : sizeLine = 16777216 := sizeLine_eq
  refine ⟨_, pss_cons (ps_set (i := 11) scLblockwishes.nd rfl (Or.inl rfl) (pe_cf cM hr pass0 (pa_cons (pv 0) (pa_cons
      (pe_lc (own := [("_law_b", 12)]) (g := gName 12) rfl scLblockwishes.nd (pi_list (pe_cf cO hr1 pass0 (pa_cons (pv 1) (pa_cons (pe_ix ix_list (pv 7) (pv 8) (fun _ _ => rfl)) pa_nil)))) (blkOk_by (own := [("_law_b", 12)]) (N := nBlock) (sc := defScope sLblockwishes) (by decide +kernel))
          (fun _ _ _ _ _ => pg_name (i := 12) scLblockwishes.nd rfl (Or.inl rfl)) (fun _ _ _ _ _ => pts_one (pt_cmpR (op_notInSK (K := K) rfl hr.units) (pv 12) (pv 10) (by rfl))) (fun _ _ _ _ _ => pv 12)) pa_nil)))) ht, ?_⟩
  rintro st it O D v4 v5 v6 Ba k a block qs ns Hs Dn F G N H v9 v11 h hs Y eh g
  have q := q st it O D v4 v5 v6 Ba k a block qs ns Hs Dn F G N
  have hgl := g.len
  have hnl := F.lenn
  refine ⟨_, rfl, _, rfl, _, rfl, _, rfl, Ba, _, k, .str a, rfl, rfl, SqL.of (Y.l G.s G.d G.b), atI_str F.at_, it, ns, a, rfl, Y.l G.s G.d G.i, by omega, fun Oa H1 s1 hOa eOa => ?_⟩
  have hfl : (ns.filter fun z => !decide (z = a)).length ≤ ns.length := List.length_filter_le _ _
  have gO : GRow ns a (ns.filter fun z => !decide (z = a)) := filt_grow F.ndn fun z hz => hz
  generalize (ns.filter fun z => !decide (z = a)) = os at eOa hfl gO
  refine ⟨Oa, rfl, ⟨_, SqL.of eOa⟩, fun L hL => lc_it walk_list (fun i H' => Same H1 H' ∧ H' L = some (lstO ((os.take i).filter fun z => !decide (z ∈ hs)))) ⟨Same.new hL, upd_same⟩ (fun i H' _ z => z.1.seq (SqL.of eOa)) ?_ ?_⟩
  · rintro i x Hx H2 hi ⟨s2, hD1⟩ ⟨rfl, hx⟩
    rw [List.getElem?_map] at hx
    cases ex : os[i]? with
    | none => rw [ex] at hx; cases hx
    | some z =>
      rw [ex] at hx
      cases hx
      have hlt : ((os.take i).filter fun z => !decide (z ∈ hs)).length < sizeLine := by
        have q1 := List.length_filter_le (fun z => !decide (z ∈ hs)) (os.take i)
        rw [List.length_take] at q1
        omega
      refine ⟨rfl, _, rfl, _, rfl, h, hs, rfl, .inl (SqL.of (s2 _ _ (s1 _ _ eh))), .flat rfl, _, rfl, ?_⟩
      rw [if_pos rfl, inS_str]
      by_cases hza : z ∈ hs
      · rw [decide_eq_true hza]
        refine iteF ⟨s2, ?_⟩
        rw [take_snoc ex, List.filter_append, List.filter_cons_of_neg (by rw [decide_eq_true hza]; decide), List.filter_nil, List.append_nil]
        exact hD1
      · rw [decide_eq_false hza]
        refine iteT ⟨_, rfl, _, hD1, by rw [List.length_map]; exact hlt, fun b o e => ?_, ?_⟩
        · rw [upd_ne (ne_of_none e hL)]
          exact s2 _ _ e
        · rw [upd_same, take_snoc ex, List.filter_append, List.filter_cons_of_pos (by rw [decide_eq_false hza]; decide), List.filter_nil]
          unfold lstO
          rw [List.map_append]
          rfl
  · rintro H2 ⟨s2, hD1⟩
    rw [List.length_map, List.take_of_length_le (Nat.le_refl _)] at hD1
    have hml : (os.filter fun z => !decide (z ∈ hs)).length ≤ os.length := List.length_filter_le _ _
    have Y2 := (Y.same s1).same s2
    refine ⟨st, L, _, rfl, Y2.st_, hD1, by omega, fun p ps H3 hperm sb hs3 _ ep => ?_⟩
    have eh2 := s2 _ _ (s1 _ _ eh)
    refine q H3 v9 h p hs ps (Y2.but sb hs3) (sb _ _ (ne_st Y2.st_ eh2) eh2) ep ⟨?_, fun b hb => ?_⟩
    · rw [List.nodup_append]
      refine ⟨g.1, hperm.nodup_iff.mpr (gO.1.filter _), fun b hb c hc e => ?_⟩
      have h1 := (List.mem_filter.mp (hperm.mem_iff.mp hc)).2
      rw [← e, decide_eq_true hb] at h1
      cases h1
    · rcases List.mem_append.mp hb with z | z
      · exact g.2 b z
      · exact gO.2 b (List.mem_filter.mp (hperm.mem_iff.mp z)).1
theorem block0 (B : Bl mg) (cT : CF P w K mg base CX0 1 "_law_take" ["_law_state", "_law_many"] spTake) (cM : CF P w K mg base CX0 2 "_law_mixed" ["_law_state", "_law_items"] spMixed) (cO : CF P w K mg base CX0 1 "_law_others" ["_law_names_here", "_law_a"] (spOthers K))
    (hr : Room 2 (A.deeper (PyProof.Rows.envOfC "_law_block_wishes" (defScope sLblockwishes) s.heap.objs.size f cdv))) :
    ∃ t, PSs (cxOf CX0 P w K mg base nBlock "_law_block_wishes" (defScope sLblockwishes) f cdv A outer s H0 E0').nox innerB t ∧
      ∀ st it O D v4 v5 v6 Ba k a block qs ns Hs Dn, BkF block ns qs k a → BkH Hs st D Ba it block ns → BkN st it O D v4 v5 v6 Ba k a qs ns Hs Dn → ∀ (H : Hp) (v9 v10 v11 : Option V), Lay Hs H st D qs ns → t Dn (bkS st it O D v4 v5 v6 Ba k v9 v10 v11) H := by
  obtain ⟨t, ht, q⟩ := block3 (P := P) (w := w) (base := base) (outer := outer) (H0 := H0) (E0' := E0') B cT cM cO hr
  have esz : sizeLine = 16777216 := sizeLine_eq
  refine ⟨_, pss_cons (ps_set (i := 9) scLblockwishes.nd rfl (Or.inl rfl) (pe_op op_cat (pe_slice sl_list (pv 7) (po_some (pe_op op_add (pv 8) pe_int)) po_none) (pe_slice sl_list (pv 7) po_none (po_some (pv 8)))))
    (pss_cons (ps_set (i := 10) scLblockwishes.nd rfl (Or.inr rfl) (pe_slice sl_list (pv 9) po_none (po_some pe_int)))
    (pss_cons (ps_if (pt_cmpR op_gt (pe_callB call_len_seq (by rfl) B.len PySem.boot_len (pa_cons (pv 9) pa_nil)) pe_int (nomark _))
      (pss_one (ps_set (i := 10) scLblockwishes.nd rfl (Or.inr rfl) (pe_lst (pa_cons (pe_ix ix_list (pv 9) pe_int (fun _ _ => rfl)) (pa_cons (pe_ix ix_list (pv 9) (pe_un un_neg pe_int) (fun _ _ => rfl)) pa_nil))))) pss_nil) ht)), ?_⟩
  rintro st it O D v4 v5 v6 Ba k a block qs ns Hs Dn F G N H v9 v10 v11 Y
  have q := q st it O D v4 v5 v6 Ba k a block qs ns Hs Dn F G N
  have hbl := F.len
  have hB := Y.l G.s G.d G.b
  have e1 : ((k : Nat) : Int) + 1 = ((k + 1 : Nat) : Int) := by omega
  refine ⟨_, rfl, _, rfl, _, _, rfl, rfl, _, rfl, Ba, _, rfl, SqL.of hB, fun L1 hL1 => ?_⟩
  rw [e1]
  have sL1 := Same.new (o := HO.lst (cutV (block.map V.str) (some ((k + 1 : Nat) : Int)) none)) hL1
  have eL1 := cut_lstO (H := H) (L := L1) (zs := block) (i := k + 1)
  generalize upd H L1 (.lst (cutV (block.map V.str) (some ((k + 1 : Nat) : Int)) none)) = H7 at sL1 eL1
  refine ⟨_, rfl, _, rfl, _, rfl, Ba, _, rfl, SqL.of (sL1 _ _ hB), fun L2 hL2 => ?_⟩
  have sL2 := Same.new (o := HO.lst (cutV (block.map V.str) none (some (k : Int)))) hL2
  have eL2 := cut_lstT (H := H7) (L := L2) (zs := block) (i := k)
  generalize upd H7 L2 (.lst (cutV (block.map V.str) none (some (k : Int)))) = H8 at sL2 eL2
  refine ⟨L1, L2, _, _, rfl, rfl, sL2 _ _ eL1, eL2, by rw [List.length_map, List.length_map, List.length_drop, List.length_take]; omega, fun R hR => ?_⟩
  have sL3 := Same.new (o := HO.lst ((block.drop (k + 1)).map V.str ++ (block.take k).map V.str)) hR
  have eR := cat_lstO (H := H8) (L := R) (xs := block.drop (k + 1)) (ys := block.take k)
  generalize upd H8 R (.lst ((block.drop (k + 1)).map V.str ++ (block.take k).map V.str)) = H9 at sL3 eR
  have Y9 := ((Y.same sL1).same sL2).same sL3
  have gr : GRow ns a (block.drop (k + 1) ++ block.take k) := grow_cons F.nd F.sub (rot_perm F.at_)
  generalize block.drop (k + 1) ++ block.take k = ring at eR gr
  have hrl := gr.len
  have hnl := F.lenn
  refine ⟨_, rfl, _, rfl, R, _, rfl, SqL.of eR, fun h hh => ?_⟩
  have sh := Same.new (o := HO.lst (cutV (ring.map V.str) none (some 1))) hh
  have eh := cut_lstT (H := H9) (L := h) (zs := ring) (i := 1)
  generalize upd H9 h (.lst (cutV (ring.map V.str) none (some 1))) = H10 at sh eh
  have eR2 := sh _ _ eR
  refine ⟨_, rfl, R, _, rfl, .inl (SqL.of eR2), _, _, rfl, rfl, _, rfl, ite2 (fun h1 => ?_) (fun _ => q H10 _ _ h (ring.take 1) (Y9.same sh) eh (gr.sub (List.take_sublist 1 ring)))⟩
  have h2 := of_decide_eq_true h1
  rw [List.length_map] at h2
  have h3 : 1 < ring.length := by omega
  obtain ⟨x, ex⟩ : ∃ x, ring[0]? = some x := ⟨_, List.getElem?_eq_getElem (by omega)⟩
  obtain ⟨y, ey⟩ : ∃ y, ring[ring.length - 1]? = some y := ⟨_, List.getElem?_eq_getElem (by omega)⟩
  refine ⟨_, rfl, R, ring.map V.str, 0, .str x, rfl, rfl, SqL.of eR2, atI_str (k := 0) ex, _, rfl, _, rfl, R, ring.map V.str, -1, .str y, rfl, rfl, SqL.of eR2, atI_last (by omega) ey, by show 2 ≤ sizeLine; omega, fun p hp => ?_⟩
  have s11 := Same.new (o := HO.lst [V.str x, V.str y]) hp
  exact q _ _ _ p [x, y] ((Y9.same sh).same s11) upd_same (gr.sub (two_sub h3 ex ey))
end
end
end Qp
namespace Qp
open PySem L2
theorem cut_lstM {H : Hp} {L : Addr} {zs : List Str} {i j : Nat} : (upd H L (.lst (cutV (zs.map V.str) (some (i : Int)) (some ((i + j : Nat) : Int))))) L = some (lstO ((zs.drop i).take j)) := by
  rw [upd_same, cut_mid]
  unfold lstO
  rw [List.map_take, List.map_drop]
section
variable {P : Program} {w : World} {K : PySem.W.Frag} {mg : Str → Option Value} {base : Heap}
theorem ok_block {f : Addr} {fd : FuncData} (F : Fun K "_law_block_wishes" "_law_block_wishes" sLblockwishes f fd) (B : Bl mg) (cT : CF P w K mg base CX0 1 "_law_take" ["_law_state", "_law_many"] spTake) (cM : CF P w K mg base CX0 2 "_law_mixed" ["_law_state", "_law_items"] spMixed)
    (cO : CF P w K mg base CX0 1 "_law_others" ["_law_names_here", "_law_a"] (spOthers K)) :
    FnOk P w K mg base CX0 3 f fd ["_law_state", "_law_names_here"] spWsh := by
  refine F.ok scLblockwishes (fun vs H Q E h => ?_) (fun cdv A outer s H vs Q E hr h => ?_)
  · obtain ⟨st, it, ns, rfl, _⟩ := h
    rfl
  · obtain ⟨st, it, ns, rfl, hst, hit, hnd, hlen, kq⟩ := h
    have esz : sizeLine = 16777216 := sizeLine_eq
    have hr1 : Room 1 _ := hr.mono (by decide)
    obtain ⟨t, ht, q⟩ := block0 (P := P) (w := w) (base := base) (outer := outer) (H0 := H) (E0' := E) B cT cM cO hr
    refine ⟨_, pss_cons (ps_set (i := 2) scLblockwishes.nd rfl (Or.inl rfl) (pe_cf cM hr pass0 (pa_cons (pv 0) (pa_cons (pv 1) pa_nil))))
      (pss_cons (ps_set (i := 3) scLblockwishes.nd rfl (Or.inl rfl) pe_dnewK)
      (pss_cons (ps_set (i := 4) scLblockwishes.nd rfl (Or.inl rfl) pe_int)
      (pss_cons (ps_for PassesOwn.never rfl (pi_range1 (by rfl) B.rng (pa_cons (pe_callB call_len_seq (by rfl) B.len PySem.boot_len (pa_cons (pv 2) pa_nil)) pa_nil)) (pg_name (i := 5) scLblockwishes.nd rfl (Or.inl rfl))
        (pss_cons (ps_set (i := 6) scLblockwishes.nd rfl (Or.inl rfl) (pe_op op_add pe_int (pe_cf cT hr1 pass0 (pa_cons (pv 0) (pa_cons pe_int pa_nil)))))
        (pss_cons (ps_set (i := 7) scLblockwishes.nd rfl (Or.inl rfl) (pe_slice sl_list (pv 2) (po_some (pv 4)) (po_some (pe_op op_add (pv 4) (pv 6)))))
        (pss_cons (ps_aug (i := 4) scLblockwishes.nd rfl (Or.inl rfl) (pv 6) ip_add)
        (pss_one (ps_for PassesOwn.never rfl (pi_range1 (by rfl) B.rng (pa_cons (pe_callB call_len_seq (by rfl) B.len PySem.boot_len (pa_cons (pv 7) pa_nil)) pa_nil)) (pg_name (i := 8) scLblockwishes.nd rfl (Or.inl rfl)) ht))))))
      (pss_one (ps_ret (pv 3)))))), ?_⟩
    refine ⟨_, rfl, _, rfl, st, it, ns, rfl, hst, hit, by omega, fun O order H1 hperm sb1 hs1 hO0 hO D hD => ?_⟩
    have hord : order.Nodup := hperm.nodup_iff.mpr hnd
    have hol : order.length ≤ 100 := by rw [hperm.length_eq]; exact hlen
    have nD0 : H D = none := by
      cases e : H D with
      | none => rfl
      | some o =>
        have := sb1 _ _ (new_ne_st hs1 hD) e
        rw [this] at hD
        cases hD
    have s5 : Same H1 (upd H1 D (.dK [])) := Same.new hD
    have hP5 : Part (upd H1 D (.dK [])) D [] ns := Part.new upd_same
    have hd5 : ∃ kvs, (upd H1 D (.dK [])) D = some (.dK kvs) := ⟨_, upd_same⟩
    generalize upd H1 D (.dK []) = Hs at s5 hP5 hd5
    have hsS := hs1.same s5
    have eO5 := s5 _ _ hO
    have eI5 : Hs it = some (lstO ns) := s5 _ _ (sb1 _ _ (ne_st hst hit) hit)
    refine ⟨_, rfl, O, _, rfl, .inl (SqL.of eO5), _, rfl, by rw [List.length_map]; omega, by rw [List.length_map]; omega,
      for_it (walk_range (lo := 0) (n := (((order.map V.str).length : Nat) : Int).toNat)) (fun i σ H' => ∃ (at0 : Nat) (v5 v6 v7 v8 v9 v10 v11 : Option V), σ = [some (.ref st), some (.ref it), some (.ref O), some (.ref D), some (.int at0), v5, v6, v7, v8, v9, v10, v11, none] ∧ i ≤ at0 ∧ at0 ≤ 10 * i ∧ Lay Hs H' st D (order.take at0) ns)
      ⟨0, none, none, none, none, none, none, none, rfl, Nat.le_refl _, Nat.le_refl _, hsS, hP5, But2.refl _ _ _⟩ (fun _ _ _ _ _ => True.intro) ?_ ?_⟩
    · rintro i x σ Hx H2 hi ⟨at0, v5, v6, v7, v8, v9, v10, v11, rfl, hat, hat2, Y⟩ ⟨rfl, rfl⟩
      rw [List.length_map, Int.toNat_natCast] at hi
      refine ⟨_, rfl, st, 7, rfl, by decide, by decide, Y.st_, fun d n1 z1 hd0 hd1 a1 a2 a3 => ?_⟩
      have Y1 := Y.draw a1 a2 a3
      generalize upd H2 st (.lst [.int n1, .int z1]) = H3 at Y1
      obtain ⟨d, rfl⟩ := Int.eq_ofNat_of_zero_le hd0
      have hO3 := Y1.l hsS hd5 eO5
      refine ⟨_, _, rfl, rfl, _, rfl, _, rfl, _, rfl, _, rfl, _, rfl, _, _, rfl, rfl, _, rfl, O, _, rfl, SqL.of hO3, fun Ba hBa => ?_⟩
      have e2 : ((at0 : Nat) : Int) + (1 + ((d : Nat) : Int)) = ((at0 + (1 + d) : Nat) : Int) := by omega
      rw [e2]
      have sB := Same.new (o := HO.lst (cutV (order.map V.str) (some ((at0 : Nat) : Int)) (some ((at0 + (1 + d) : Nat) : Int)))) hBa
      have eB := cut_lstM (H := H3) (L := Ba) (zs := order) (i := at0) (j := 1 + d)
      generalize upd H3 Ba (.lst (cutV (order.map V.str) (some ((at0 : Nat) : Int)) (some ((at0 + (1 + d) : Nat) : Int)))) = H4 at sB eB
      have Y2 := Y1.same sB
      have hcat : order.take at0 ++ (order.drop at0).take (1 + d) = order.take (at0 + (1 + d)) := (List.take_add).symm
      have hndc : (order.take at0 ++ (order.drop at0).take (1 + d)).Nodup := by rw [hcat]; exact hord.sublist (List.take_sublist _ _)
      have hsubc : ∀ z ∈ order.take at0 ++ (order.drop at0).take (1 + d), z ∈ ns := fun z hz => by
        rw [hcat] at hz
        exact hperm.mem_iff.mp (List.mem_of_mem_take hz)
      have hlc : (order.take at0).length + ((order.drop at0).take (1 + d)).length ≤ 100 := by
        rw [← List.length_append, hcat, List.length_take]
        omega
      generalize hblk : (order.drop at0).take (1 + d) = block at eB hcat hndc hsubc hlc
      generalize hqs : order.take at0 = Q0 at Y2 hcat hndc hsubc hlc
      obtain ⟨nQ, nB, nQB⟩ := List.nodup_append.mp hndc
      refine ⟨_, rfl, _, rfl, _, _, rfl, rfl, ?_⟩
      have G : BkH H4 st D Ba it block ns := ⟨Y2.st_, Y2.p.dk, eB, Y2.l hsS hd5 eI5⟩
      refine ⟨_, rfl, Ba, _, rfl, .inl (SqL.of eB), _, rfl, by rw [List.length_map]; omega, by rw [List.length_map]; omega,
        for_it (walk_range (lo := 0) (n := (((block.map V.str).length : Nat) : Int).toNat)) (fun k σ H' => ∃ (v8 v9 v10 v11 : Option V), σ = [some (.ref st), some (.ref it), some (.ref O), some (.ref D), some (.int (((at0 : Nat) : Int) + (1 + ((d : Nat) : Int)))), some (.int (0 + (i : Int))), some (.int (1 + ((d : Nat) : Int))), some (.ref Ba), v8, v9, v10, v11, none] ∧ Lay H4 H' st D (Q0 ++ block.take k) ns)
        ⟨v8, v9, v10, v11, rfl, Y2.st_, by rw [List.take_zero, List.append_nil]; exact Y2.p, But2.refl _ _ _⟩ (fun _ _ _ _ _ => True.intro) ?_ ?_⟩
      · rintro k x σ Hx H5 hk ⟨w8, w9, w10, w11, rfl, Y5⟩ ⟨rfl, hx⟩
        rw [List.length_map, Int.toNat_natCast] at hk
        have e0 : (0 : Int) + (k : Int) = ((k : Nat) : Int) := by omega
        obtain rfl : x = V.int (k : Int) := hx.trans (by show V.int (0 + (k : Int)) = V.int (k : Int); rw [e0])
        obtain ⟨a, ea⟩ : ∃ a, block[k]? = some a := ⟨_, List.getElem?_eq_getElem hk⟩
        have ha : a ∈ block := List.mem_of_getElem? ea
        have hna : a ∉ Q0 ++ block.take k := fun h => by
          rcases List.mem_append.mp h with z | z
          · exact nQB a z a ha rfl
          · exact not_mem_take nB ea z
        have F' : BkF block ns (Q0 ++ block.take k) k a := ⟨ea, nB, fun z hz => hsubc z (List.mem_append_right _ hz), by omega, hlen, hnd, hna, by rw [List.length_append, List.length_take]; omega⟩
        refine q st it O D _ _ _ Ba k a block (Q0 ++ block.take k) ns H4 _ F' G (fun H6 u9 u10 u11 Y6 => ?_) H5 w9 w10 w11 Y5
        refine ⟨_, _, _, _, rfl, ?_⟩
        rw [List.append_assoc, ← take_snoc ea] at Y6
        exact Y6
      · rintro σ H5 ⟨w8, w9, w10, w11, rfl, Y5⟩
        rw [List.length_map, Int.toNat_natCast, List.take_of_length_le (Nat.le_refl _), hcat] at Y5
        refine ⟨at0 + (1 + d), some (.int (0 + (i : Int))), some (.int (1 + ((d : Nat) : Int))), some (.ref Ba), w8, w9, w10, w11, by rw [← e2], by omega, by omega, Y5.st_, Y5.p, Y2.b.trans Y5.b⟩
    · rintro σ H2 ⟨at0, v5, v6, v7, v8, v9, v10, v11, rfl, hat, hat2, Y⟩
      rw [List.length_map, Int.toNat_natCast] at hat
      have Yp := Y.p
      rw [List.take_of_length_le hat] at Yp
      refine ⟨_, rfl, kq D H2 nD0 (fun b o hb e => ?_) Y.st_ ⟨order, hperm, Yp⟩⟩
      exact Y.b _ _ (s5 _ _ (sb1 _ _ hb e)) hb (ne_of_none e nD0)
/-- _law_wishes(state, names) -/
theorem ok_wishes {f : Addr} {fd : FuncData} (F : Fun K "_law_wishes" "_law_wishes" sLwishes f fd) (B : Bl mg) (cT : CF P w K mg base CX0 1 "_law_take" ["_law_state", "_law_many"] spTake) (cB : CF P w K mg base CX0 3 "_law_block_wishes" ["_law_state", "_law_names_here"] spWsh)
    (cS : CF P w K mg base CX0 3 "_law_side_wishes" ["_law_state", "_law_names_here"] spWsh) (cP : CF P w K mg base CX0 3 "_law_plain_wishes" ["_law_state", "_law_names_here", "_law_mode"] spPlain) : FnOk P w K mg base CX0 4 f fd ["_law_state", "_law_names_here"] spWsh := by
  refine F.ok scLwishes (fun vs H Q E h => ?_) (fun cdv A outer s H vs Q E hr h => ?_)
  · obtain ⟨st, it, ns, rfl, _⟩ := h
    rfl
  · obtain ⟨st, it, ns, rfl, hst, hit, hnd, hlen, kq⟩ := h
    have hr1 : Room 1 _ := hr.mono (by decide)
    refine ⟨_, pss_cons (ps_set (i := 2) scLwishes.nd rfl (Or.inl rfl) (pe_cf cT hr1 pass0 (pa_cons (pv 0) (pa_cons pe_int pa_nil))))
      (pss_cons (ps_if (pt_cmpR op_gt (pv 2) pe_int (nomark _)) (pss_one (ps_ret (pe_cf cB hr pass0 (pa_cons (pv 0) (pa_cons (pv 1) pa_nil))))) pss_nil)
      (pss_cons (ps_if (pt_cmpR op_gt (pv 2) pe_int (nomark _)) (pss_one (ps_ret (pe_cf cS hr pass0 (pa_cons (pv 0) (pa_cons (pv 1) pa_nil))))) pss_nil)
      (pss_one (ps_ret (pe_cf cP hr pass0 (pa_cons (pv 0) (pa_cons (pv 1) (pa_cons (pv 2) pa_nil)))))))), ?_⟩
    refine ⟨_, rfl, st, 9, rfl, by decide, by decide, hst, fun d n1 z1 hd0 hd1 a1 a2 a3 => ?_⟩
    have sb1 : SameBut st H (upd H st (.lst [.int n1, .int z1])) := SameBut.set
    have hs1 : StAt (upd H st (.lst [.int n1, .int z1])) st := ⟨n1, z1, upd_same, a1, a2, a3⟩
    generalize upd H st (.lst [.int n1, .int z1]) = H1 at sb1 hs1
    have hit1 := sb1 _ _ (ne_st hst hit) hit
    have kk : ∀ (D : Addr) (H' : Hp), H1 D = none → SameBut st H1 H' → StAt H' st → (∃ order, order.Perm ns ∧ Part H' D order ns) → Q (.ref D) H' := fun D H' hD sb hs hx => by
      refine kq D H' ?_ (sb1.trans sb) hs hx
      cases e : H D with
      | none => rfl
      | some o =>
        have := sb1 _ _ (new_ne_st hs1 hD) e
        rw [this] at hD
        cases hD
    refine ⟨_, rfl, _, _, rfl, rfl, _, rfl, ite2 (fun _ => ?_) (fun _ => ?_)⟩
    · exact ⟨_, rfl, _, rfl, st, it, ns, rfl, hs1, hit1, hnd, hlen, kk⟩
    · refine ⟨_, rfl, _, _, rfl, rfl, _, rfl, ite2 (fun _ => ?_) (fun _ => ?_)⟩
      · exact ⟨_, rfl, _, rfl, st, it, ns, rfl, hs1, hit1, hnd, hlen, kk⟩
      · exact ⟨_, rfl, _, rfl, _, rfl, st, it, ns, d, rfl, hs1, hit1, hnd, hlen, kk⟩
/-- _law_group(state, top) -/
def spGroup : Sp := fun vs H Q _ => ∃ (st : Addr) (m : Int), vs = [.ref st, .int m] ∧ 0 ≤ m ∧ m ≤ 20 ∧ StAt H st ∧
  ∀ (T a D : Addr) (ns : List Str) (H' : Hp), H' T = some (.tup [.ref a, .ref D]) → SameBut st H H' → StAt H' st → H a = none → a ≠ st → H' a = some (lstO ns) → ns.Nodup → (∀ z ∈ ns, nameS z = true) → (ns.length : Int) ≤ m → (∃ order, order.Perm ns ∧ Part H' D order ns) → H D = none → Q (.ref T) H'
theorem ok_group {f : Addr} {fd : FuncData} (F : Fun K "_law_group" "_law_group" sLgroup f fd) (B : Bl mg) (cT : CF P w K mg base CX0 1 "_law_take" ["_law_state", "_law_many"] spTake) (cN : CF P w K mg base CX0 3 "_law_names" ["_law_state", "_law_many"] spNames)
    (cW : CF P w K mg base CX0 4 "_law_wishes" ["_law_state", "_law_names_here"] spWsh) : FnOk P w K mg base CX0 5 f fd ["_law_state", "_law_top"] spGroup := by
  refine F.ok scLgroup (fun vs H Q E h => ?_) (fun cdv A outer s H vs Q E hr h => ?_)
  · obtain ⟨st, m, rfl, _⟩ := h
    rfl
  · obtain ⟨st, m, rfl, hm0, hm1, hst, kq⟩ := h
    have hr1 : Room 1 _ := hr.mono (by decide)
    have hr3 : Room 3 _ := hr.mono (by decide)
    refine ⟨_, pss_cons (ps_set (i := 2) scLgroup.nd rfl (Or.inl rfl) (pe_cf cN hr3 pass0 (pa_cons (pv 0) (pa_cons (pe_cf cT hr1 pass0 (pa_cons (pv 0) (pa_cons (pe_op op_add (pv 1) pe_int) pa_nil))) pa_nil))))
      (pss_cons (ps_set (i := 3) scLgroup.nd rfl (Or.inl rfl) (pe_cf cW hr pass0 (pa_cons (pv 0) (pa_cons (pv 2) pa_nil))))
      (pss_one (ps_ret (pe_tup (pa_cons (pv 2) (pa_cons (pv 3) pa_nil)))))), ?_⟩
    refine ⟨_, rfl, _, rfl, _, rfl, _, _, rfl, rfl, st, m + 1, rfl, by omega, by omega, hst, fun d n1 z1 hd0 hd1 a1 a2 a3 => ?_⟩
    have sb1 : SameBut st H (upd H st (.lst [.int n1, .int z1])) := SameBut.set
    have hs1 : StAt (upd H st (.lst [.int n1, .int z1])) st := ⟨n1, z1, upd_same, a1, a2, a3⟩
    have back : ∀ D, (upd H st (.lst [.int n1, .int z1])) D = none → H D = none := fun D hD => by
      by_cases e : D = st
      · rw [e, upd_same] at hD
        cases hD
      · rw [upd_ne e] at hD
        exact hD
    generalize upd H st (.lst [.int n1, .int z1]) = H1 at sb1 hs1 back
    obtain ⟨d, rfl⟩ := Int.eq_ofNat_of_zero_le hd0
    refine ⟨st, d, rfl, by omega, hs1, fun a ns H2 hlen hnd hnm sb2 hs2 ha hast ea => ?_⟩
    refine ⟨_, rfl, _, rfl, st, a, ns, rfl, hs2, ea, hnd, by omega, fun D H3 hD sb3 hs3 hx => ?_⟩
    have ea3 := sb3 _ _ hast ea
    obtain ⟨order, hperm, hP⟩ := hx
    refine ⟨_, rfl, _, rfl, ?_⟩
    have fin : ∀ T, H3 T = none → Q (.ref T) (upd H3 T (.tup [.ref a, .ref D])) := fun T hT => by
      have s4 : Same H3 (upd H3 T (.tup [.ref a, .ref D])) := Same.new hT
      refine kq T a D ns _ upd_same (((sb1.trans sb2).trans sb3).trans (s4.but st)) (hs3.same s4) (back a ha) hast (s4 _ _ ea3) hnd hnm (by omega) ⟨order, hperm, hP.same s4⟩ ?_
      refine back D ?_
      cases e : H1 D with
      | none => rfl
      | some o =>
        have := sb2 _ _ (new_ne_st hs2 hD) e
        rw [this] at hD
        cases hD
    first
      | exact ⟨by show 2 ≤ sizeLine; rw [sizeLine_eq]; decide, fun T hT => fin T hT⟩
      | exact fun T hT => fin T hT
end
end Qp
/-! a text in a list or tuple of any values -/
namespace L2
open PySem PySem.Spec PyProof.Rows
open AutoSeq1 (wpAny_loadPart')
open MeetsSeq MeetsSeq2 MeetsSeq3 SeqRoads2 SeqAt
theorem q_dict_str {A : Around} {s : Shared} {l : Addr} {o : Obj} (b : Str) (u : Tok) (hl : s.heap.get? l = some o) (hc : o.cls = .type "dict") (hd : ∃ es ep, o.data = .dict es ep) (hu : A.units < cLine) : EqAt A s (.ref l) (.str b u) false := fun prog w E Q h => by
  unfold eqBool
  refine wpAny_holding ?_
  refine wpAny_ite_split (fun hab => absurd (eq_of_beq hab) nofun) (fun _ => ?_)
  refine wpAny_bind ?_
  refine rc_eq_decline_or (k := false) ⟨_, hl, hc⟩ (typeIs_str s b u) (by decide) F.sub_str_dict F.slot_dict_eq F.slot_str_eq_refl
    (fun _ hq => call_meets F.slot_dict_eq ⟨_, hl, hc⟩ F.entry_dict_eq (F.args_dict_eq_2 _ _) (q_dict_eq_str l o hc b u) ⟨hl, hq⟩)
    (fun _ hq => call_meets F.slot_str_eq_refl (typeIs_str s b u) F.entry_str_eq (F.args_str_eq_2 _ _) (q_str_eq_dict b u l o hc hd) ⟨hl, hq⟩)
    (fun _ hq => wpAny_of_eq (rfl : isSame (.ref l) (.str b u) = pure false) hq) (.inr hu) (wpAny_truthy_bool h)
theorem eqAt_itemS {X : Cx} {pins : List (Addr × Obj)} {σ : St} {H : Hp} {s : Shared} {A : Around} (I : Inv X pins σ H s) (hu : A.units < cLine) {x : V} {v : Value} (rx : RelV x v) (ex : EltV H x) (z : Str) (k : Tok) : EqAt A s v (.str z k) (decide (x = .str z)) := by
  cases ex with
  | flat fx =>
    cases x with
    | non => cases rx; exact EqAt.none_str z k
    | bl b => cases rx; exact EqAt.bool_str b z k
    | int b => obtain ⟨t, rfl⟩ := rx; exact EqAt.int_str b t z k
    | str b =>
      obtain ⟨t, rfl⟩ := rx
      have e := EqAt.str_str (A := A) (s := s) b t z k
      have q : (b == z) = decide (V.str b = V.str z) := by
        by_cases h : b = z
        · subst h; simp
        · have h2 : ¬ V.str b = V.str z := fun y => h (V.str.inj y)
          rw [decide_eq_false h2]
          simpa using h
      rw [← q]
      exact e
    | _ => exact absurd (show false = true from fx) Bool.false_ne_true
  | @lst a xs h =>
    cases (show v = Value.ref a from rx)
    obtain ⟨_, its, n, _, h1⟩ := (show ObjOk X.prog X.w H s.heap a (.lst xs) from I.hok a _ h)
    exact EqAt.list_str (items := its.toArray) z k ⟨_, h1, rfl, n, rfl⟩ hu
  | @tup a xs h =>
    cases (show v = Value.ref a from rx)
    obtain ⟨_, its, _, h1⟩ := (show ObjOk X.prog X.w H s.heap a (.tup xs) from I.hok a _ h)
    exact EqAt.tuple_str z k h1 hu
  | @dct a kvs h =>
    cases (show v = Value.ref a from rx)
    obtain ⟨_, _, vs, _, o, es, ep, h1, h2, h3, _⟩ := (show ObjOk X.prog X.w H s.heap a (.dK kvs) from I.hok a _ h)
    exact q_dict_str z k h1 h2.1 ⟨_, _, h3⟩ hu
def isS (z : Str) (u : Value) : Bool := match u with
  | .str y _ => decide (y = z)
  | _ => false
theorem isS_rel {x : V} {u : Value} {z : Str} (r : RelV x u) : isS z u = decide (x = .str z) := by
  cases x with
  | str y =>
    obtain ⟨t, rfl⟩ := r
    show decide (y = z) = decide (V.str y = V.str z)
    rw [Bool.eq_iff_iff, decide_eq_true_iff, decide_eq_true_iff]
    exact ⟨fun e => by rw [e], fun e => V.str.inj e⟩
  | non => cases r; rfl
  | bl b => cases r; rfl
  | int b => obtain ⟨t, rfl⟩ := r; rfl
  | ref a => cases (show u = Value.ref a from r); rfl
  | byt b => obtain ⟨t, rfl⟩ := r; rfl
  | flt b => obtain ⟨t, rfl⟩ := r; rfl
  | ty n => cases (show u = Value.type n from r); rfl
theorem any_isS {z : Str} : ∀ {xs : List V} {us : List Value}, Vals xs us → us.any (isS z) = decide (V.str z ∈ xs)
  | [], _, .nil => rfl
  | x :: xs, u :: us, .cons r t => by
    have e := any_isS (z := z) t
    rw [List.any_cons, e, isS_rel r]
    rw [Bool.eq_iff_iff, Bool.or_eq_true, decide_eq_true_iff, decide_eq_true_iff, decide_eq_true_iff, List.mem_cons]
    exact ⟨fun h => h.imp (fun e => e.symm) id, fun h => h.imp (fun e => e.symm) id⟩
theorem mem_isS {X : Cx} {pins : List (Addr × Obj)} {σ : St} {H : Hp} {s : Shared} {A : Around} (I : Inv X pins σ H s) (hu : A.units < cLine) {z : Str} {k : Tok} : ∀ {xs : List V} {us : List Value}, Vals xs us → (∀ x ∈ xs, EltV H x) → ∀ u ∈ us, EqAt A s u (.str z k) (isS z u)
  | [], _, .nil, _ => fun u hu => by cases hu
  | x :: xs, u :: us, .cons r t, he => fun u' hu' => by
    rcases List.mem_cons.mp hu' with rfl | hu'
    · rw [isS_rel r]
      exact eqAt_itemS I hu r (he x List.mem_cons_self) z k
    · exact mem_isS I hu t (fun y hy => he y (List.mem_cons_of_mem _ hy)) u' hu'
/-- a text in a list of any values -/
def rInV (K : PySem.W.Frag) (neg : Bool) : R2 := fun x y H Q => ∃ z p xs, x = .str z ∧ y = .ref p ∧ SqL K H p xs ∧ (∀ x ∈ xs, EltV H x) ∧ Q (.bl (if neg then !decide (V.str z ∈ xs) else decide (V.str z ∈ xs))) H
theorem op_inV {X : Cx} (hu : X.A.units + 64 < cLine) : OpR X (compareOp .In) (rInV X.K false) := by
  intro pins s σ H x y v u Q I rx ry h
  obtain ⟨z, p, xs, rfl, rfl, hq, he, q⟩ := h
  cases ry
  obtain ⟨k, rfl⟩ := rx
  obtain ⟨its, r, pl, hz⟩ := I.list hq
  refine SeqAt.in_listAt (isS z) pl.isList (fun w hw => mem_isS I (by first | exact Nat.lt_of_le_of_lt (Nat.le_add_right _ 64) hu | exact Nat.lt_of_le_of_lt (Nat.add_le_add_left (by decide) _) hu) r he w (by simpa using hw)) ⟨.bl _, H, I, rfl, ?_⟩
  rw [show its.toArray.any (isS z) = its.any (isS z) by simp, any_isS r]
  exact q
theorem op_notInV {X : Cx} (hu : X.A.units + 64 < cLine) : OpR X (compareOp .NotIn) (rInV X.K true) := by
  intro pins s σ H x y v u Q I rx ry h
  obtain ⟨z, p, xs, rfl, rfl, hq, he, q⟩ := h
  cases ry
  obtain ⟨k, rfl⟩ := rx
  obtain ⟨its, r, pl, hz⟩ := I.list hq
  refine SeqAt.notIn_listAt (isS z) pl.isList (fun w hw => mem_isS I (by first | exact Nat.lt_of_le_of_lt (Nat.le_add_right _ 64) hu | exact Nat.lt_of_le_of_lt (Nat.add_le_add_left (by decide) _) hu) r he w (by simpa using hw)) ⟨.bl _, H, I, rfl, ?_⟩
  rw [show its.toArray.any (isS z) = its.any (isS z) by simp, any_isS r]
  exact q
end L2
/-! x in o, o[i], where o is an instance of a class that defs __contains__, __getitem__ -/
namespace L2
open PySem PySem.Spec PyProof.Rows
section
variable {X : Cx} {k : Nat} {f C : Addr} {fd : FuncData} {ps : List Str} {sp : Sp}
theorem run_fnAt {A' : Around} {pins : List (Addr × Obj)} {σ : St} {H : Hp} {s : Shared} {Q : VK} {us : List Value} {vs : List V} (he : Env0 X.prog X.w X.K X.mg X.base A' X.stack s H) (F : FnOk X.prog X.w X.K X.mg X.base CX0 k f fd ps sp) (hr : Room k A') (hb : Binds X.K fd ps [])
    (I : Inv X pins σ H s) (r : Vals vs us) (h : sp vs H Q E0) : wpAny (model X.prog X.w) A' (call (.ref f) us) (EP X pins σ Q) X.xe s := by
  have hl : (us ++ []).length = ps.length := by rw [List.append_nil, ← r.length]; exact F.len _ _ _ _ h
  have hb' := hb s us I.kIn hl
  rw [List.append_nil] at hb'
  refine wpAny_call (codeAny_mono (F.run A' X.stack s H ⟨us, []⟩ us vs Q E0 hr he hb' r h) fun r s' hq => ?_)
  cases r with
  | error e => exact False.elim hq
  | ok fl =>
    cases fl with
    | ret u => exact I.after hq
    | next => exact False.elim hq
    | brk => exact False.elim hq
    | cont => exact False.elim hq
/-- x in o -/
def rInO (C : Addr) (sp : Sp) (neg : Bool) : R2 := fun x y H Q => ∃ a dx fs, y = .ref a ∧ H a = some (.ins C dx fs) ∧ sp [y, x] H (fun v H' => ∃ b : Bool, v = .bl b ∧ Q (.bl (if neg = true then !b else b)) H') E0
theorem contains_own {pins : List (Addr × Obj)} {σ : St} {H : Hp} {s : Shared} {x : V} {v : Value} {a dx : Addr} {fs : List (Str × V)} {R : Bool → Shared → Prop} (hm : Meth X.K C "__contains__" f) (F : FnOk X.prog X.w X.K X.mg X.base CX0 k f fd ps sp) (hr : Room k X.A) (hb : Binds X.K fd ps [])
    (I : Inv X pins σ H s) (rx : RelV x v) (ha : H a = some (.ins C dx fs)) (Qb : Bool → Hp → Prop) (h : sp [.ref a, x] H (fun v H' => ∃ b : Bool, v = .bl b ∧ Qb b H') E0)
    (hq : ∀ b H' s', Inv X pins σ H' s' → Qb b H' → R b s') : wpAny (model X.prog X.w) X.A (contains (.ref a) v) R X.xe s := by
  obtain ⟨mA, O, _, _, _, _⟩ := ins_get I.hok ha
  obtain ⟨od, J, _⟩ := O.look
  unfold contains
  refine wpAny_holding (wpAny_bind (wpAny_bind (J.type.here ((PySem.W.looks_findIn I.kIn hm.at_).here ?_))))
  rw [if_neg (by simp)]
  refine wpAny_bind (PySem.W.unlessNone_K I.kIn J hm.at_ hm.fn (thn (run_fnAt I.env0 F hr hb I (vs := [V.ref a, x]) (.cons rfl (.cons rx .nil)) h) fun u s1 hu => ?_))
  obtain ⟨y, H1, I1, ry, b, rfl, q⟩ := hu
  cases ry
  exact wpAny_truthy_bool (hq b H1 s1 I1 q)
theorem op_inO (hm : Meth X.K C "__contains__" f) (F : FnOk X.prog X.w X.K X.mg X.base CX0 k f fd ps sp) (hr : Room k X.A) (hb : Binds X.K fd ps []) : OpR X (compareOp .In) (rInO C sp false) := by
  intro pins s σ H x y v u Q I rx ry h
  obtain ⟨a, dx, fs, rfl, ha, h⟩ := h
  cases ry
  exact wpAny_bind (contains_own hm F hr hb I rx ha (fun b H' => Q (.bl b) H') h fun b H' s' I' q => wpAny_pure ⟨.bl b, H', I', rfl, q⟩)
theorem op_notInO (hm : Meth X.K C "__contains__" f) (F : FnOk X.prog X.w X.K X.mg X.base CX0 k f fd ps sp) (hr : Room k X.A) (hb : Binds X.K fd ps []) : OpR X (compareOp .NotIn) (rInO C sp true) := by
  intro pins s σ H x y v u Q I rx ry h
  obtain ⟨a, dx, fs, rfl, ha, h⟩ := h
  cases ry
  exact wpAny_bind (contains_own hm F hr hb I rx ha (fun b H' => Q (.bl (!b)) H') h fun b H' s' I' q => wpAny_pure ⟨.bl (!b), H', I', rfl, q⟩)
/-- o[i] -/
def rIxO (C : Addr) (sp : Sp) : R2 := fun x y H Q => ∃ a dx fs, x = .ref a ∧ H a = some (.ins C dx fs) ∧ sp [x, y] H Q E0
theorem pe_ixO {a b : Expr} {ta tb : TE} {pos : Pos} (hm : Meth X.K C "__getitem__" f) (hfn : PySem.W.fnIn X.K f = true) (F : FnOk X.prog X.w X.K X.mg X.base CX0 k f fd ps sp) (hr : Room (k + 1) X.A) (hbd : Binds X.K fd ps []) (ha : PE X a ta) (hb : PE X b tb)
    (hsl : ∀ v u, subscripted b true v u = runValue (.builtin "lifetime.subscript" ⟨[v, u], []⟩) := by intros; rfl) : PE X (.Subscript a b pos) (tOp (rIxO C sp) ta tb) := by
  refine ⟨fun pins s σ H Q I h => ?_⟩
  refine Subscript_ (binT ha hb I h fun v u s2 x y H2 I2 rx ry q => ?_)
  obtain ⟨o, dx, fs, rfl, ho, q⟩ := q
  cases rx
  obtain ⟨mA, O, _, _, _, _⟩ := ins_get I2.hok ho
  obtain ⟨od, J, _⟩ := O.look
  have XK := I2.kIn
  unfold PySem.W.fnIn at hfn
  split at hfn
  · rename_i e
    unfold subscriptTail getitemInPython
    refine wpAny_bind (wpAny_bind (wpAny_bind (J.type.here ((PySem.W.looks_findIn XK hm.at_).here ?_))))
    dsimp only
    refine wpAny_bind (wpAny_load (XK _ _ e) (wpAny_pure ?_))
    dsimp only
    rw [hsl]
    refine wpAny_bind (wpAny_runValue (codeAny_builtin PySem.W.entry_sub ?_))
    unfold Builtin.«lifetime.subscript»
    refine wpAny_bind (PySem.W.special_fn XK J hm.at_ (beq_iff_eq.mp hm.fn) (thn (run_fnAt I2.env0.in1 F hr.in1 hbd I2 (vs := [V.ref o, y]) (.cons rfl (.cons ry .nil)) q) fun v s' z => ?_))
    refine wpAny_pure ?_
    show wpAny (model X.prog X.w) X.A (letTemporaryGo a (.ref o) v >>= fun _ => pure v) (EP X pins σ Q) X.xe s'
    exact wpAny_bind (wpAny_letTemporaryGo (wpAny_pure z))
  · cases hfn
end
end L2
/-! sorted(xs), xs a list of pairs of texts, any number of them -/
namespace QP
open PySem PyProof.Rows Srt SrtO
def lexS (p q : List Nat × List Nat) : Bool := if p.1 = q.1 then decide (p.2 < q.2) else decide (p.1 < q.1)
theorem lexS_no {p q : List Nat × List Nat} : lexS p q = false ↔ (q.1 = p.1 ∧ q.2 ≤ p.2) ∨ (q.1 ≠ p.1 ∧ q.1 ≤ p.1) := by
  unfold lexS
  by_cases e : p.1 = q.1
  · rw [if_pos e, decide_eq_false_iff_not, List.not_lt]
    constructor
    · exact fun h => .inl ⟨e.symm, h⟩
    · rintro (h | h)
      · exact h.2
      · exact absurd e.symm h.1
  · rw [if_neg e, decide_eq_false_iff_not, List.not_lt]
    constructor
    · exact fun h => .inr ⟨fun z => e z.symm, h⟩
    · rintro (h | h)
      · exact absurd h.1.symm e
      · exact h.2
theorem lexS_swo {α : Type} (k : α → List Nat × List Nat) : Swo fun v u => lexS (k v) (k u) := by
  have tr : ∀ x y z : α, lexS (k x) (k y) = false → lexS (k y) (k z) = false → lexS (k x) (k z) = false := fun x y z h1 h2 => by
    rcases lexS_no.mp h1 with ⟨a1, a2⟩ | ⟨a1, a2⟩
    · rcases lexS_no.mp h2 with ⟨b1, b2⟩ | ⟨b1, b2⟩
      · exact lexS_no.mpr (.inl ⟨b1.trans a1, List.le_trans b2 a2⟩)
      · exact lexS_no.mpr (.inr ⟨by rw [← a1]; exact b1, by rw [← a1]; exact b2⟩)
    · rcases lexS_no.mp h2 with ⟨b1, b2⟩ | ⟨b1, b2⟩
      · exact lexS_no.mpr (.inr ⟨by rw [b1]; exact a1, by rw [b1]; exact a2⟩)
      · refine lexS_no.mpr (.inr ⟨fun e => a1 (List.le_antisymm a2 (by rw [← e]; exact b2)), List.le_trans b2 a2⟩)
  refine ⟨fun x y h => ?_, fun x y z h1 h2 => tr z y x h2 h1⟩
  have h : lexS (k x) (k y) = true := h
  unfold lexS at h
  by_cases e : (k x).1 = (k y).1
  · rw [if_pos e] at h
    exact lexS_no.mpr (.inl ⟨e, List.le_of_lt (of_decide_eq_true h)⟩)
  · rw [if_neg e] at h
    exact lexS_no.mpr (.inr ⟨e, List.le_of_lt (of_decide_eq_true h)⟩)
def IsPairS (h : Heap) (v : Value) (p : List Nat × List Nat) : Prop := ∃ a o x t y u n, v = .ref a ∧ h.get? a = some o ∧ o.cls = .type "tuple" ∧ o.data = .seq #[.str x t, .str y u] n ∧ p = (x.cps.toList, y.cps.toList)
theorem IsPairS.keeps {h h' : Heap} {v : Value} {p : List Nat × List Nat} (q : IsPairS h v p) (k : ∀ b o, h.get? b = some o → o.cls = .type "tuple" → h'.get? b = some o) : IsPairS h' v p := by
  obtain ⟨a, o, x, t, y, u, n, e, ho, hc, hd, ep⟩ := q
  exact ⟨a, o, x, t, y, u, n, e, k _ _ ho hc, hc, hd, ep⟩
theorem firstsS {h : Heap} : ∀ {vs : List Value}, (∀ v ∈ vs, ∃ p, IsPairS h v p) → ∃ fs : List Value, PySem.W.KatTups h vs fs ∧ fs.length = vs.length ∧ ∀ f ∈ fs, ∃ x t, f = Value.str x t
  | [], _ => ⟨[], PySem.W.KatTups.nil, rfl, fun _ hm => by simp at hm⟩
  | v :: vs, hp => by
    obtain ⟨fs, h1, h2, h3⟩ := firstsS (vs := vs) fun v' hm => hp v' (List.mem_cons_of_mem _ hm)
    obtain ⟨p, a, o, x, t, y, u, n, e, ho, hc, hd, _⟩ := hp v (List.mem_cons_self ..)
    subst e
    refine ⟨.str x t :: fs, PySem.W.KatTups.cons ho hc hd rfl h1, by rw [List.length_cons, List.length_cons, h2], fun f hm => ?_⟩
    rcases List.mem_cons.mp hm with rfl | hm
    · exact ⟨x, t, rfl⟩
    · exact h3 f hm
section
variable {prog : Program} {w : World} {A : Around} {E : Value → Shared → Prop} {s : Shared}
theorem pairS_cmp {vs : List Value} {k : Value → List Nat × List Nat} (hp : ∀ v ∈ vs, IsPairS s.heap v (k v)) : Cmp prog w A s (tuples' true) (fun p => p.1 ∈ vs) (lt2 fun v u => lexS (k v) (k u)) := by
  intro p q hm hm'
  have h1 := hp _ hm
  have h2 := hp _ hm'
  show wpAny (model prog w) A (keyLt' (tuples' true) p.1 q.1) (fun r s' => s' = s ∧ r = lexS (k p.1) (k q.1)) (fun _ _ => False) s
  generalize k p.1 = kp at h1 ⊢
  generalize k q.1 = kq at h2 ⊢
  obtain ⟨a, o, x, t, y, u, n, e, ho, hc, hd, rfl⟩ := h1
  obtain ⟨a', o', x', t', y', u', n', e', ho', hc', hd', rfl⟩ := h2
  rw [e, e']
  unfold lexS
  refine PySem.W.kat_lt ho hd ho' hd' ?_
  show PySem.W.KatLex prog w A true (decide (2 < 2)) _ [(.str x t, .str x' t'), (.str y u, .str y' u')] 0 s
  refine PySem.W.kat_cons (SeqAt.EqAt.str_str x t x' t' prog w _ _ ?_)
  have sx : ∀ {a b : Str}, (a == b) = true → a.cps.toList = b.cps.toList := fun h => by rw [beq_iff_eq.mp h]
  have sn : ∀ {a b : Str}, (a == b) = false → ¬ a.cps.toList = b.cps.toList := fun {a b} h z => by
    have : (a == b) = true := by rw [← SeqAt.str_beq]; exact beq_iff_eq.mpr z
    rw [this] at h
    cases h
  refine PySem.W.kat_go (fun e1 => ?_) (fun e1 => ?_)
  · have ex := sx e1
    refine PySem.W.kat_yes (PySem.W.kat_cons (SeqAt.EqAt.str_str y u y' u' prog w _ _ ?_))
    refine PySem.W.kat_go (fun e2 => ?_) (fun e2 => ?_)
    · have ey := sx e2
      have e3 : (if x.cps.toList = x'.cps.toList then decide (y.cps.toList < y'.cps.toList) else decide (x.cps.toList < x'.cps.toList)) = false := by
        rw [if_pos ex, ey]
        exact decide_eq_false (List.lt_irrefl _)
      exact PySem.W.kat_yes (PySem.W.kat_nil ⟨rfl, e3.symm⟩)
    · have e3 : (if x.cps.toList = x'.cps.toList then decide (y.cps.toList < y'.cps.toList) else decide (x.cps.toList < x'.cps.toList)) = decide (y.cps.toList < y'.cps.toList) := if_pos ex
      refine PySem.W.kat_no (PySem.W.kat_one _ _ (PySem.P.lt_str ?_))
      exact ⟨rfl, e3.symm⟩
  · have ex := sn (by simpa using e1)
    have e3 : (if x.cps.toList = x'.cps.toList then decide (y.cps.toList < y'.cps.toList) else decide (x.cps.toList < x'.cps.toList)) = decide (x.cps.toList < x'.cps.toList) := if_neg ex
    exact PySem.W.kat_no (oneLt_str ⟨rfl, e3.symm⟩)
theorem pairsS_sortable {a : Addr} {vs : List Value} {k : Value → List Nat × List Nat} (h0 : 0 < vs.length) (hp : ∀ v ∈ vs, IsPairS s.heap v (k v)) (ha : ∀ o, s.heap.get? a = some o → o.cls ≠ .type "tuple") : SortableO prog w A s a vs fun v u => lexS (k v) (k u) := by
  intro h' keep
  have hp' : ∀ v ∈ vs, IsPairS h' v (k v) := fun v hm => (hp v hm).keeps fun b o e c => keep b o (fun z => by subst z; exact ha o e c) e
  obtain ⟨fs, h1, h2, h3⟩ := firstsS fun v hm => ⟨_, hp' v hm⟩
  refine ⟨tuples' true, fun Q E hq => ?_, pairS_cmp hp'⟩
  refine PySem.W.kat_kind (T := .type "str") h1 (by omega) (fun f hm => ?_) (by rfl) ?_
  · obtain ⟨x, t, rfl⟩ := h3 f hm
    exact PySem.W.Looks.now
  · have e : (Value.type "str" != Value.type "tuple") = true := by first | decide +kernel | rfl | decide
    rw [e]
    exact hq
end
end QP
namespace L2
open PySem PySem.Spec PyProof.Rows
abbrev ltPS (k : V → List Nat × List Nat) (x y : V) : Bool := QP.lexS (k x) (k y)
/-- sorted(xs), xs a list of pairs of texts (k says which): a new list, sorted, equal ones in their order -/
def rSortedPS (K : PySem.W.Frag) : List V → Hp → VK → Prop := fun vs H Q => ∃ (a : Addr) (xs : List V) (k : V → Str × Str), vs = [V.ref a] ∧ SqL K H a xs ∧ (∀ x ∈ xs, ∃ t, x = V.ref t ∧ H t = some (.tup [.str (k x).1, .str (k x).2])) ∧
  ∀ ys p, SrtO.Srtd (ltPS fun v => ((k v).1.cps.toList, (k v).2.cps.toList)) ys → SrtO.Stb (ltPS fun v => ((k v).1.cps.toList, (k v).2.cps.toList)) ys xs → H p = none → Q (.ref p) (upd H p (.lst ys))
section
variable {X : Cx}
theorem cr_sortedPS : CallR X (.builtin "sorted") (rSortedPS X.K) := by
  intro pins s σ H vs us Q I r h
  obtain ⟨a, xs, k, rfl, hs, hx, q⟩ := h
  obtain ⟨its, rv, hl, hz⟩ := I.list hs
  obtain ⟨u, rfl, ru⟩ := vals1 r
  obtain rfl : u = Value.ref a := ru
  obtain ⟨e1, e2⟩ := refs_back rv fun x m => by
    obtain ⟨t, e, _⟩ := hx x m
    exact ⟨t, e⟩
  have hpair : ∀ v ∈ its, QP.IsPairS s.heap v ((k (backV v)).1.cps.toList, (k (backV v)).2.cps.toList) := fun v hv => by
    obtain ⟨t, rfl⟩ := e2 v hv
    have hm : V.ref t ∈ xs := by rw [e1]; exact List.mem_map.mpr ⟨_, hv, rfl⟩
    obtain ⟨t', e, ht⟩ := hx _ hm
    cases e
    obtain ⟨_, its2, r2, o, ho, hc, n, hd⟩ := I.hok _ _ ht
    obtain ⟨u1, u2, rfl, ri, rj⟩ := vals2 r2
    obtain ⟨t1, rfl⟩ := ri
    obtain ⟨t2, rfl⟩ := rj
    exact ⟨t, o, _, t1, _, t2, n, rfl, ho, hc, hd, rfl⟩
  refine SrtO.sorted_ord (QP.lexS_swo fun u => ((k (backV u)).1.cps.toList, (k (backV u)).2.cps.toList)) hl.isList (by rw [← rv.length]; exact hz) (fun h2 h₁ a' ha kk => ?_) fun out h1 h2 => ?_
  · refine QP.pairsS_sortable (s := { s with heap := h₁ }) (by omega) (fun v hm => (hpair v hm).keeps fun b o e _ => (kk b o e).2) fun o e => ?_
    have e' : some o = some (seqObj "list" its.toArray 0) := e.symm.trans ha
    cases e'
    intro c
    exact absurd (Value.type.inj c) (by decide)
  · have h3 : ∀ u ∈ out, ∃ a, u = Value.ref a := fun u hu => e2 u (h2.perm.mem_iff.mp hu)
    obtain ⟨n, hn⟩ := PyProof.Rows.sortedAll_at s.heap its out.toArray
    have hb : SrtO.Stb (ltPS fun v => ((k v).1.cps.toList, (k v).2.cps.toList)) (out.map backV) xs := by
      rw [e1]
      exact SrtO.Stb.map (QP.lexS_swo fun v => ((k v).1.cps.toList, (k v).2.cps.toList)) backV h2
    refine ⟨.ref _, upd H (s.heap.objs.size + 1) (.lst (out.map backV)), I.laid (t' := s.toks) (fun _ _ => PyProof.Rows.sortedAll_old) (Nat.le_succ _) ⟨?_, out, n, vals_back h3, hn⟩, rfl, q _ _ (SrtO.srtd_map h1) hb (I.hok.fresh (Nat.le_succ _))⟩
    rw [hb.len]
    exact hz
end
end L2
namespace L2
open PySem PySem.Spec PyProof.Rows
/-- a list of pairs of a name and its list -/
def MRows (H : Hp) (l : Addr) (zs : List Str) (ws : Str → List Str) : Prop := ∃ (ys : List V) (k : V → Str) (m : V → Addr), H l = some (.lst ys) ∧ (∀ y ∈ ys, ∃ t, y = .ref t ∧ H t = some (.tup [.str (k y), .ref (m y)]) ∧ H (m y) = some (lstO (ws (k y))) ∧ m y ≠ l) ∧ ys.map k = zs
theorem MRows.same {H H' : Hp} (s : Same H H') {l : Addr} {zs : List Str} {ws : Str → List Str} (h : MRows H l zs ws) : MRows H' l zs ws := by
  obtain ⟨ys, k, m, e, q, r⟩ := h
  refine ⟨ys, k, m, s _ _ e, fun y hy => ?_, r⟩
  obtain ⟨t, e1, e2, e3, e4⟩ := q y hy
  exact ⟨t, e1, s _ _ e2, s _ _ e3, e4⟩
theorem MRows.nil {H : Hp} {l : Addr} {ws : Str → List Str} (h : H l = some (.lst [])) : MRows H l [] ws := ⟨[], fun _ => "", fun _ => 0, h, (fun _ h => by cases h), rfl⟩
theorem MRows.lst {H : Hp} {l : Addr} {zs : List Str} {ws : Str → List Str} (h : MRows H l zs ws) : ∃ ys, H l = some (.lst ys) ∧ ys.length = zs.length := by
  obtain ⟨ys, k, m, e, _, r⟩ := h
  exact ⟨ys, e, by rw [← r, List.length_map]⟩
theorem MRows.snoc {H : Hp} {l T M : Addr} {zs : List Str} {ws : Str → List Str} {a : Str} (h : MRows H l zs ws) (hM : H M = some (lstO (ws a))) (hMl : M ≠ l) (hT : H T = none) : ∃ ys, (upd H T (.tup [.str a, .ref M])) l = some (.lst ys) ∧ ys.length = zs.length ∧
    MRows (upd (upd H T (.tup [.str a, .ref M])) l (.lst (ys ++ [.ref T]))) l (zs ++ [a]) ws := by
  obtain ⟨ys, k, m, e, q, r⟩ := h
  have nlT : l ≠ T := ne_of_none e hT
  have nMT : M ≠ T := ne_of_none hM hT
  refine ⟨ys, by rw [upd_ne nlT]; exact e, by rw [← r, List.length_map], ys ++ [.ref T], fun y => if y = .ref T then a else k y, fun y => if y = .ref T then M else m y, upd_same, fun y hy => ?_, ?_⟩
  · rcases List.mem_append.mp hy with z | z
    · obtain ⟨t, rfl, e2, e3, e4⟩ := q y z
      have n1 : t ≠ T := ne_of_none e2 hT
      have n2 : t ≠ l := ne_of e2 e (by intro z; cases z)
      have n3 : ¬ (V.ref t = V.ref T) := fun z => n1 (V.ref.inj z)
      refine ⟨t, rfl, ?_⟩
      show (upd (upd H T (.tup [.str a, .ref M])) l (.lst (ys ++ [.ref T]))) t = some (HO.tup [.str (if V.ref t = V.ref T then a else k (.ref t)), .ref (if V.ref t = V.ref T then M else m (.ref t))]) ∧ (upd (upd H T (.tup [.str a, .ref M])) l (.lst (ys ++ [.ref T]))) (if V.ref t = V.ref T then M else m (.ref t)) = some (lstO (ws (if V.ref t = V.ref T then a else k (.ref t)))) ∧ (if V.ref t = V.ref T then M else m (.ref t)) ≠ l
      rw [if_neg n3, if_neg n3, upd_ne n2, upd_ne n1, upd_ne e4, upd_ne (ne_of_none e3 hT)]
      exact ⟨e2, e3, e4⟩
    · have ey : y = .ref T := by simpa using z
      subst ey
      refine ⟨T, rfl, ?_⟩
      show (upd (upd H T (.tup [.str a, .ref M])) l (.lst (ys ++ [.ref T]))) T = some (HO.tup [.str (if V.ref T = V.ref T then a else k (.ref T)), .ref (if V.ref T = V.ref T then M else m (.ref T))]) ∧ (upd (upd H T (.tup [.str a, .ref M])) l (.lst (ys ++ [.ref T]))) (if V.ref T = V.ref T then M else m (.ref T)) = some (lstO (ws (if V.ref T = V.ref T then a else k (.ref T)))) ∧ (if V.ref T = V.ref T then M else m (.ref T)) ≠ l
      rw [if_pos rfl, if_pos rfl, upd_ne (Ne.symm nlT), upd_same, upd_ne hMl, upd_ne nMT]
      exact ⟨rfl, hM, hMl⟩
  · rw [List.map_append, ← r]
    congr 1
    · refine List.map_congr_left fun y hy => ?_
      obtain ⟨t, rfl, e2, _⟩ := q y hy
      have n1 : t ≠ T := ne_of_none e2 hT
      exact if_neg fun z => n1 (V.ref.inj z)
    · show [if V.ref T = V.ref T then a else k (.ref T)] = [a]
      rw [if_pos rfl]
end L2
namespace Qp
open PySem L2
theorem pss_never {X : Cx} {st : List Stmt} : PSs X st (fun _ _ _ => False) := ⟨fun _ _ _ _ _ _ h => h.elim⟩
theorem valV_rows_some {ad : Str → Addr} {ps : List Str} {z : Str} : (valV (ps.map fun a => ((Sum.inr a : Key), V.ref (ad a))) (Sum.inr z)).isSome = decide (z ∈ ps) := by
  by_cases h : z ∈ ps
  · rw [valV_rows h, decide_eq_true h]
    rfl
  · rw [valV_rows_none h, decide_eq_false h]
    rfl
section
variable {P : Program} {w : World} {K : PySem.W.Frag} {mg : Str → Option Value} {base : Heap}
/-- Group._has(self, value) -/
def spHasG (C : Addr) : Sp := fun vs H Q _ => ∃ (p : Addr) (z : Str) (ps : List Str) (ws : Str → List Str), vs = [.ref p, .str z] ∧ GroupAt C H p ps ws ∧ Q (.bl (decide (z ∈ ps))) H
theorem ok_hasG {f C : Addr} {fd : FuncData} (F : Fun K "_has" "Group._has" sGrouphas f fd) (B : Bl mg) (T : GTxt K mg C) : FnOk P w K mg base CX0 1 f fd ["self", "value"] (spHasG C) := by
  refine F.ok scGrouphas (fun vs H Q E h => ?_) (fun cdv A outer s H vs Q E hr h => ?_)
  · obtain ⟨p, z, ps, ws, rfl, _⟩ := h
    rfl
  · obtain ⟨p, z, ps, ws, rfl, ⟨dx, a, d1, d2, d3, hp, ha, ⟨ad, e1, r1⟩, _⟩, kq⟩ := h
    have hu := hu_of hr
    refine ⟨_, pss_one (ps_ret (pe_and (pe_isi kit_str B.isi B.str (pv 1)) (pe_one (pe_cmp (pc_din hu (pv 1) (pe_fld (pv 0) rfl)) rfl)))), ?_⟩
    refine ⟨_, rfl, _, .str, rfl, .str z, true, rfl, iteT ⟨_, rfl, _, rfl, p, C, dx, _, _, rfl, hp, T.cl, T.n2, gF_wishes _ _ _ _, d1, _, rfl, DGet.k (k := Sum.inr z) e1, ?_⟩⟩
    rw [valV_rows_some]
    exact kq
/-- Group._check_person(self, value) -/
def spChk (C : Addr) : Sp := fun vs H Q _ => ∃ (p : Addr) (z : Str) (ps : List Str) (ws : Str → List Str), vs = [.ref p, .str z] ∧ GroupAt C H p ps ws ∧ z ∈ ps ∧ Q .non H
/-- a method that is called -/
structure MF (P : Program) (w : World) (K : PySem.W.Frag) (mg : Str → Option Value) (base : Heap) (k : Nat) (C : Addr) (m : Str) (ps : List Str) (sp : Sp) : Prop where
  ex : ∃ f fd, FnOk P w K mg base CX0 k f fd ps sp ∧ Meth K C m f ∧ Binds K fd ps []
theorem ok_chk {f C : Addr} {fd : FuncData} (F : Fun K "_check_person" "Group._check_person" sGroupcheckperson f fd) (B : Bl mg) (T : GTxt K mg C) (mH : MF P w K mg base 1 C "_has" ["self", "value"] (spHasG C)) : FnOk P w K mg base CX0 2 f fd ["self", "value"] (spChk C) := by
  obtain ⟨fH, fdH, FH, MH, bH⟩ := mH.ex
  refine F.ok scGroupcheckperson (fun vs H Q E h => ?_) (fun cdv A outer s H vs Q E hr h => ?_)
  · obtain ⟨p, z, ps, ws, rfl, _⟩ := h
    rfl
  · obtain ⟨p, z, ps, ws, rfl, hG, hz, kq⟩ := h
    refine ⟨_, pss_one (ps_if (pt_not (pt_val (pe_meth (pv 0) T.cl MH FH hr bH .nil pass0 (pa_cons (pv 1) pa_nil)))) pss_never pss_nil), ?_⟩
    obtain ⟨dx, a, d1, d2, d3, hp, r⟩ := hG
    refine ⟨_, rfl, p, dx, _, rfl, hp, gF_no _ _ _ _ (by decide +kernel) (by decide +kernel) (by decide +kernel) (by decide +kernel), _, rfl, p, z, ps, ws, rfl, ⟨dx, a, d1, d2, d3, hp, r⟩, _, rfl, ?_⟩
    rw [decide_eq_true hz]
    exact iteF kq
/-- Group.wishes(self, a) -/
def spWishM (C : Addr) : Sp := fun vs H Q _ => ∃ (p : Addr) (z : Str) (ps : List Str) (ws : Str → List Str), vs = [.ref p, .str z] ∧ GroupAt C H p ps ws ∧ z ∈ ps ∧ ∀ l, H l = none → Q (.ref l) (upd H l (lstO (ws z)))
theorem ok_wishM {f C : Addr} {fd : FuncData} (F : Fun K "wishes" "Group.wishes" sGroupwishes f fd) (B : Bl mg) (T : GTxt K mg C) (mC : MF P w K mg base 2 C "_check_person" ["self", "value"] (spChk C)) : FnOk P w K mg base CX0 3 f fd ["self", "a"] (spWishM C) := by
  obtain ⟨fC, fdC, FC, MC, bC⟩ := mC.ex
  refine F.ok scGroupwishes (fun vs H Q E h => ?_) (fun cdv A outer s H vs Q E hr h => ?_)
  · obtain ⟨p, z, ps, ws, rfl, _⟩ := h
    rfl
  · obtain ⟨p, z, ps, ws, rfl, hG, hz, kq⟩ := h
    have hu := hu_of hr
    refine ⟨_, pss_cons (ps_expr (pe_meth (pv 0) T.cl MC FC hr bC .nil pass0 (pa_cons (pv 1) pa_nil)))
      (pss_one (ps_ret (pe_callTy call_list_of (by rfl) B.lst (by decide +kernel) (pa_cons (pe_dget hu (pe_fld (pv 0) rfl) (pv 1) (fun _ _ => rfl)) pa_nil)))), ?_⟩
    have hG2 := hG
    obtain ⟨dx, a, d1, d2, d3, hp, ha, ⟨ad, e2, r2⟩, r3⟩ := hG2
    refine ⟨_, rfl, p, dx, _, rfl, hp, gF_no _ _ _ _ (by decide +kernel) (by decide +kernel) (by decide +kernel) (by decide +kernel), _, rfl, p, z, ps, ws, rfl, hG, hz, ?_⟩
    exact ⟨_, rfl, p, C, dx, _, _, rfl, hp, T.cl, T.n2, gF_wishes _ _ _ _, _, rfl, d1, _, rfl, by rw [← valV_rows (ad := ad) hz]; exact DGet.k (k := Sum.inr z) e2, ad z, (ws z).map V.str, rfl, .inl (SqL.of (r2 z hz).1), fun l hl => kq l hl⟩
theorem GroupAt.same {C : Addr} {H H' : Hp} (s : Same H H') {p : Addr} {ps : List Str} {ws : Str → List Str} (h : GroupAt C H p ps ws) : GroupAt C H' p ps ws := by
  obtain ⟨dx, a, d1, d2, d3, hp, ha, r1, r2, r3⟩ := h
  exact ⟨dx, a, d1, d2, d3, s _ _ hp, s _ _ ha, r1.same s, r2.same s, r3.same s⟩
/-- _law_model(names, wishes) -/
def spModel : Sp := fun vs H Q _ => ∃ (n d : Addr) (ns : List Str) (kvs : List (Key × V)) (ws : Str → List Str), vs = [.ref n, .ref d] ∧ H n = some (lstO ns) ∧ ns.length ≤ 1000 ∧ H d = some (.dK kvs) ∧ (∀ a ∈ ns, ∃ ad, valV kvs (Sum.inr a) = some (.ref ad) ∧ H ad = some (lstO (ws a))) ∧
  ∀ (l : Addr) (H' : Hp), Same H H' → MRows H' l ns ws → Q (.ref l) H'
theorem ok_model {f : Addr} {fd : FuncData} (F : Fun K "_law_model" "_law_model" sLmodel f fd) (B : Bl mg) : FnOk P w K mg base CX0 1 f fd ["_law_names_here", "_law_wishes_here"] spModel := by
  refine F.ok scLmodel (fun vs H Q E h => ?_) (fun cdv A outer s H vs Q E hr h => ?_)
  · obtain ⟨n, d, ns, kvs, ws, rfl, _⟩ := h
    rfl
  · obtain ⟨n, d, ns, kvs, ws, rfl, hn, hlen, ed, hsub, kq⟩ := h
    have hu := hu_of hr
    have esz : sizeLine = 16777216 := sizeLine_eq
    refine ⟨_, pss_cons (ps_set (i := 2) scLmodel.nd rfl (Or.inl rfl) (pe_lst pa_nil))
      (pss_cons (ps_for PassesOwn.never rfl (pi_list (pv 0)) (pg_name (i := 3) scLmodel.nd rfl (Or.inl rfl))
        (pss_one (ps_expr (pe_bm PySem.F.plainAttrs_list PySem.F.slot_list_append PySem.F.type_list_append mt_append (pv 2) (pa_cons (pe_tup (pa_cons (pv 3) (pa_cons (pe_callTy call_list_of (by rfl) B.lst (by decide +kernel) (pa_cons (pe_dget hu (pv 1) (pv 3) (fun _ _ => rfl)) pa_nil)) pa_nil))) pa_nil)))))
      (pss_one (ps_ret (pv 2)))), ?_⟩
    refine ⟨by show 0 ≤ sizeLine; exact Nat.zero_le _, fun R hR => ?_⟩
    have s0 : Same H (upd H R (.lst [])) := Same.new hR
    have R0 : MRows (upd H R (.lst [])) R [] ws := MRows.nil upd_same
    generalize upd H R (.lst []) = H0 at s0 R0
    refine ⟨_, rfl, n, rfl, ⟨_, SqL.of (s0 _ _ hn)⟩, for_it walk_list (fun i σ H' => ∃ v : Option V, σ = [some (.ref n), some (.ref d), some (.ref R), v] ∧ Same H H' ∧ MRows H' R (ns.take i) ws) ⟨none, rfl, s0, R0⟩ (fun i σ H' _ ⟨_, _, z, _⟩ => SqL.of (z _ _ hn)) ?_ ?_⟩
    · rintro i x σ Hx H1 hi ⟨v, rfl, s1, R1⟩ ⟨rfl, hx⟩
      rw [List.length_map] at hi
      rw [List.getElem?_map] at hx
      cases ea : ns[i]? with
      | none => rw [ea] at hx; cases hx
      | some a =>
        rw [ea] at hx
        cases hx
        obtain ⟨ad, hva, rd⟩ := hsub a (List.mem_of_getElem? ea)
        obtain ⟨ys0, e0, l0⟩ := R1.lst
        refine ⟨_, rfl, .inl ⟨rfl, _, SqL.of e0⟩, _, rfl, _, rfl, _, rfl, d, _, rfl, by rw [← hva]; exact DGet.k (k := Sum.inr a) (s1 _ _ ed), ad, (ws a).map V.str, rfl, .inl (SqL.of (s1 _ _ rd)), fun M hM => ?_⟩
        have s2 : Same H1 (upd H1 M (.lst ((ws a).map V.str))) := Same.new hM
        have eM : (upd H1 M (.lst ((ws a).map V.str))) M = some (lstO (ws a)) := upd_same
        have nMR : M ≠ R := fun z => by rw [z, e0] at hM; cases hM
        have hMH : H M = none := s1.free hM
        generalize upd H1 M (.lst ((ws a).map V.str)) = H2 at s2 eM
        refine ⟨by show 2 ≤ sizeLine; omega, fun T hT => ?_⟩
        obtain ⟨ys, g1, g2, g3⟩ := (R1.same s2).snoc eM nMR hT
        refine ⟨R, ys, .ref T, rfl, rfl, g1, by rw [g2, List.length_take]; omega, _, rfl, fun b o e => ?_, ?_⟩
        · rw [upd_ne (ne_of_none e hR), upd_ne (ne_of_none (s2 _ _ (s1 _ _ e)) hT)]
          exact s2 _ _ (s1 _ _ e)
        · rw [take_snoc ea]
          exact g3
    · rintro σ H1 ⟨v, rfl, s1, R1⟩
      rw [List.length_map, List.take_of_length_le (Nat.le_refl _)] at R1
      exact ⟨_, rfl, kq R H1 s1 R1⟩
/-- Group.people(self) -/
def spPeople (C : Addr) : Sp := fun vs H Q _ => ∃ (p : Addr) (ps : List Str) (ws : Str → List Str), vs = [.ref p] ∧ GroupAt C H p ps ws ∧ ∀ l, H l = none → Q (.ref l) (upd H l (.lst (ps.map V.str)))
theorem ok_people {f C : Addr} {fd : FuncData} (F : Fun K "people" "Group.people" sGrouppeople f fd) (B : Bl mg) (T : GTxt K mg C) : FnOk P w K mg base CX0 1 f fd ["self"] (spPeople C) := by
  refine F.ok scGrouppeople (fun vs H Q E h => ?_) (fun cdv A outer s H vs Q E hr h => ?_)
  · obtain ⟨p, ps, ws, rfl, _⟩ := h
    rfl
  · obtain ⟨p, ps, ws, rfl, ⟨dx, a, d1, d2, d3, hp, ha, _⟩, kq⟩ := h
    refine ⟨_, pss_one (ps_ret (pe_callTy call_list_of (by rfl) B.lst (by decide +kernel) (pa_cons (pe_fld (pv 0) rfl) pa_nil))), ?_⟩
    exact ⟨_, rfl, p, C, dx, _, _, rfl, hp, T.cl, T.n1, gF_people _ _ _ _, a, _, rfl, .inr (SqT.of ha), kq⟩
/-- _law_shows(group) -/
def spShows (C : Addr) : Sp := fun vs H Q _ => ∃ (p : Addr) (ps : List Str) (ws : Str → List Str), vs = [.ref p] ∧ GroupAt C H p ps ws ∧ ps.length ≤ 1000 ∧ ∀ (l : Addr) (H' : Hp), Same H H' → MRows H' l ps ws → Q (.ref l) H'
theorem ok_shows {f C : Addr} {fd : FuncData} (F : Fun K "_law_shows" "_law_shows" sLshows f fd) (B : Bl mg) (T : GTxt K mg C) (mP : MF P w K mg base 1 C "people" ["self"] (spPeople C)) (mW : MF P w K mg base 3 C "wishes" ["self", "a"] (spWishM C)) : FnOk P w K mg base CX0 4 f fd ["_law_group_here"] (spShows C) := by
  obtain ⟨fP, fdP, FP, MP, bP⟩ := mP.ex
  obtain ⟨fW, fdW, FW, MW, bW⟩ := mW.ex
  refine F.ok scLshows (fun vs H Q E h => ?_) (fun cdv A outer s H vs Q E hr h => ?_)
  · obtain ⟨p, ps, ws, rfl, _⟩ := h
    rfl
  · obtain ⟨p, ps, ws, rfl, hG, hlen, kq⟩ := h
    have hr1 : Room 1 _ := hr.mono (by decide)
    have esz : sizeLine = 16777216 := sizeLine_eq
    refine ⟨_, pss_cons (ps_set (i := 1) scLshows.nd rfl (Or.inl rfl) (pe_lst pa_nil))
      (pss_cons (ps_for PassesOwn.never rfl (pi_list (pe_meth0 (pv 0) T.cl MP FP hr1 bP .nil pass0)) (pg_name (i := 2) scLshows.nd rfl (Or.inl rfl))
        (pss_one (ps_expr (pe_bm PySem.F.plainAttrs_list PySem.F.slot_list_append PySem.F.type_list_append mt_append (pv 1) (pa_cons (pe_tup (pa_cons (pv 2) (pa_cons (pe_meth (pv 0) T.cl MW FW hr bW .nil pass0 (pa_cons (pv 2) pa_nil)) pa_nil))) pa_nil)))))
      (pss_one (ps_ret (pv 1)))), ?_⟩
    refine ⟨by show 0 ≤ sizeLine; exact Nat.zero_le _, fun R hR => ?_⟩
    have s0 : Same H (upd H R (.lst [])) := Same.new hR
    have R0 : MRows (upd H R (.lst [])) R [] ws := MRows.nil upd_same
    generalize upd H R (.lst []) = H0 at s0 R0
    have hG0 := hG.same s0
    have hG1 := hG0
    obtain ⟨dx, a0, d1, d2, d3, hp, _⟩ := hG1
    refine ⟨_, rfl, p, dx, _, rfl, hp, gF_no _ _ _ _ (by decide +kernel) (by decide +kernel) (by decide +kernel) (by decide +kernel), p, ps, ws, rfl, hG0, fun N hN => ?_⟩
    have sN : Same H0 (upd H0 N (.lst (ps.map V.str))) := Same.new hN
    have eN : (upd H0 N (.lst (ps.map V.str))) N = some (lstO ps) := upd_same
    generalize upd H0 N (.lst (ps.map V.str)) = HN at sN eN
    have nNR : N ≠ R := fun z => by
      obtain ⟨ys0, e0, _⟩ := R0.lst
      rw [z, e0] at hN
      cases hN
    refine ⟨N, rfl, ⟨_, SqL.of eN⟩, for_it walk_list (fun i σ H' => ∃ v : Option V, σ = [some (.ref p), some (.ref R), v] ∧ Same H H' ∧ H' N = some (lstO ps) ∧ MRows H' R (ps.take i) ws) ⟨none, rfl, s0.trans sN, eN, R0.same sN⟩ (fun i σ H' _ ⟨_, _, _, z, _⟩ => SqL.of z) ?_ ?_⟩
    · rintro i x σ Hx H1 hi ⟨v, rfl, s1, eN1, R1⟩ ⟨rfl, hx⟩
      rw [List.length_map] at hi
      rw [List.getElem?_map] at hx
      cases ea : ps[i]? with
      | none => rw [ea] at hx; cases hx
      | some a =>
        rw [ea] at hx
        cases hx
        have hap := List.mem_of_getElem? ea
        obtain ⟨ys0, e0, l0⟩ := R1.lst
        have hG2 := hG.same s1
        have hG3 := hG2
        obtain ⟨dx2, a2, d12, d22, d32, hp2, _⟩ := hG3
        refine ⟨_, rfl, .inl ⟨rfl, _, SqL.of e0⟩, _, rfl, _, rfl, p, dx2, _, rfl, hp2, gF_no _ _ _ _ (by decide +kernel) (by decide +kernel) (by decide +kernel) (by decide +kernel), _, rfl, p, a, ps, ws, rfl, hG2, hap, fun M hM => ?_⟩
        have s2 : Same H1 (upd H1 M (lstO (ws a))) := Same.new hM
        have eM : (upd H1 M (lstO (ws a))) M = some (lstO (ws a)) := upd_same
        have nMR : M ≠ R := fun z => by rw [z, e0] at hM; cases hM
        generalize upd H1 M (lstO (ws a)) = H2 at s2 eM
        refine ⟨by show 2 ≤ sizeLine; omega, fun T hT => ?_⟩
        obtain ⟨ys, g1, g2, g3⟩ := (R1.same s2).snoc eM nMR hT
        refine ⟨R, ys, .ref T, rfl, rfl, g1, by rw [g2, List.length_take]; omega, _, rfl, fun b o e => ?_, ?_, ?_⟩
        · rw [upd_ne (ne_of_none e hR), upd_ne (ne_of_none (s2 _ _ (s1 _ _ e)) hT)]
          exact s2 _ _ (s1 _ _ e)
        · rw [upd_ne nNR, upd_ne (ne_of_none (s2 _ _ eN1) hT)]
          exact s2 _ _ eN1
        · rw [take_snoc ea]
          exact g3
    · rintro σ H1 ⟨v, rfl, s1, eN1, R1⟩
      rw [List.length_map, List.take_of_length_le (Nat.le_refl _)] at R1
      exact ⟨_, rfl, kq R H1 s1 R1⟩
end
end Qp
namespace Qp
open PySem L2
section
variable {P : Program} {w : World} {K : PySem.W.Frag} {mg : Str → Option Value} {base : Heap}
/-- _law_copy -/
def spCopy : Sp := fun vs H Q _ => ∃ (d : Addr) (qs : List Str) (ws : Str → List Str), vs = [.ref d] ∧ RowsG H d qs (fun a => lstO (ws a)) ∧ qs.Nodup ∧ qs.length ≤ 1000 ∧ ∀ D H', Same H H' → RowsG H' D qs (fun a => lstO (ws a)) → Q (.ref D) H'
theorem ok_copy {f : Addr} {fd : FuncData} (F : Fun K "_law_copy" "_law_copy" sLcopy f fd) (B : Bl mg) : FnOk P w K mg base CX0 1 f fd ["_law_wishes_here"] spCopy := by
  refine F.ok scLcopy (fun vs H Q E h => ?_) (fun cdv A outer s H vs Q E hr h => ?_)
  · obtain ⟨d, qs, ws, rfl, _⟩ := h
    rfl
  · obtain ⟨d, qs, ws, rfl, hR, hnd, hlen, kq⟩ := h
    have hu := hu_of hr
    have esz : sizeLine = 16777216 := sizeLine_eq
    refine ⟨_, pss_cons (ps_set (i := 1) scLcopy.nd rfl (Or.inl rfl) pe_dnewK)
      (pss_cons (ps_lock (ps_for PassesOwn.never rfl (pi_keys (pv 0)) (pg_name (i := 2) scLcopy.nd rfl (Or.inl rfl)) (pss_one (ps_dput hu (pv 1) (pv 2) (pe_callTy call_list_of (by rfl) B.lst (by decide +kernel) (pa_cons (pe_dget hu (pv 0) (pv 2) (fun _ _ => rfl)) pa_nil)) rfl))))
      (pss_one (ps_ret (pv 1)))), ?_⟩
    refine fun D hD => ?_
    have s0 : Same H (upd H D (.dK [])) := Same.new hD
    have R0 : RowsG (upd H D (.dK [])) D [] (fun a => lstO (ws a)) := RowsG.nil upd_same
    have hR0 := hR.same s0
    have nDd : d ≠ D := by
      obtain ⟨ad, e, _⟩ := hR
      exact ne_of_none e hD
    generalize upd H D (.dK []) = H0 at s0 R0 hR0
    obtain ⟨ad, hd, hrows⟩ := hR0
    refine ⟨d, _, hd, True.intro, fun od => ?_⟩
    have sl : ∀ b o, b ≠ d → H0 b = some o → (upd H0 d (.frz od (.dK (qs.map fun a => (Sum.inr a, V.ref (ad a)))))) b = some o := fun b o n e => by rw [upd_ne n]; exact e
    have R1 : RowsG (upd H0 d (.frz od (.dK (qs.map fun a => (Sum.inr a, V.ref (ad a)))))) D [] (fun a => lstO (ws a)) := by
      obtain ⟨ad2, e, _⟩ := R0
      exact RowsG.nil (by rw [upd_ne (Ne.symm nDd)]; exact e)
    generalize hL : upd H0 d (.frz od (.dK (qs.map fun a => (Sum.inr a, V.ref (ad a))))) = HL at sl R1
    have hf : HL d = some (.frz od (.dK (qs.map fun a => (Sum.inr a, V.ref (ad a))))) := by rw [← hL]; exact upd_same
    refine ⟨_, rfl, d, od, rfl, .inl ⟨_, hf, for_it walk_keys (fun i σ H' => ∃ v2 : Option V, σ = [some (.ref d), some (.ref D), v2] ∧ SameBut D HL H' ∧ RowsG H' D (qs.take i) (fun a => lstO (ws a))) ⟨none, rfl, SameBut.refl _ _, R1⟩ (fun i σ H' _ ⟨_, _, z, _⟩ => z _ _ nDd hf) ?_ ?_⟩⟩
    · rintro i x σ Hx H1 hi ⟨v2, rfl, s1, R⟩ ⟨rfl, k, v, hk, rfl⟩
      rw [List.length_map] at hi
      rw [List.getElem?_map] at hk
      cases ea : qs[i]? with
      | none => rw [ea] at hk; cases hk
      | some a =>
        rw [ea] at hk
        cases hk
        have haq : a ∈ qs := List.mem_of_getElem? ea
        have nad : ad a ≠ D := by
          obtain ⟨ad2, e, _⟩ := R0
          exact ne_of (hrows a haq).1 e (by intro z; cases z)
        have g2 : H1 (ad a) = some (lstO (ws a)) := s1 _ _ nad (sl _ _ (hrows a haq).2 (hrows a haq).1)
        refine ⟨_, rfl, _, rfl, d, _, rfl, .inl ⟨_, Sum.inr a, .inr ⟨od, s1 _ _ nDd hf⟩, rfl, (valV_rows haq).symm⟩, ad a, (ws a).map V.str, rfl, .inl (SqL.of g2), fun L hL2 => ?_⟩
        have hLD : L ≠ D := by
          obtain ⟨ad2, e2, _⟩ := R
          intro z
          rw [z, e2] at hL2
          cases hL2
        obtain ⟨kv2, h1, h2, h3⟩ := R.snoc (Same.new (o := .lst ((ws a).map V.str)) hL2) (not_mem_take hnd ea) (p := L) upd_same hLD
        refine ⟨_, rfl, _, rfl, D, _, rfl, DPut.k (k := Sum.inr a) h1 (by rw [h2, List.length_take]; omega), _, rfl, fun b o hb e => ?_, ?_⟩
        · rw [upd_ne hb, upd_ne (ne_of_none (s1 _ _ hb e) hL2)]
          exact s1 _ _ hb e
        · rw [take_snoc ea]
          exact h3
    · rintro σ H1 ⟨v2, rfl, s1, R⟩
      rw [List.length_map, List.take_of_length_le (Nat.le_refl _)] at R
      refine ⟨s1 _ _ nDd hf, _, rfl, kq D _ (fun b o e => ?_) ?_⟩
      · have nbD : b ≠ D := ne_of_none e hD
        by_cases hb : b = d
        · rw [hb, upd_same]
          rw [hb] at e
          have := s0 _ _ e
          rw [hd] at this
          exact this
        · rw [upd_ne hb]
          exact s1 _ _ nbD (sl b o hb (s0 _ _ e))
      · obtain ⟨ad2, e2, q2⟩ := R
        refine ⟨ad2, by rw [upd_ne (Ne.symm nDd)]; exact e2, fun a ha => ⟨?_, (q2 a ha).2⟩⟩
        have hne : ad2 a ≠ d := fun z => by
          have q := (q2 a ha).1
          rw [z, s1 _ _ nDd hf] at q
          cases q
        rw [upd_ne hne]
        exact (q2 a ha).1
end
/-- nothing is bad -/
theorem badFrom_ok {ok : V → Bool} : ∀ {l pre : List V}, (∀ x ∈ l, ok x = true) → (pre ++ l).Nodup → badFrom ok pre l = none
  | [], _, _, _ => rfl
  | x :: r, pre, h, hn => by
    have hx : x ∉ pre := fun z => by
      obtain ⟨_, _, h3⟩ := List.nodup_append.mp hn
      exact h3 x z x List.mem_cons_self rfl
    have e : pre.contains x = false := by
      cases e : pre.contains x with
      | false => rfl
      | true => exact absurd (by simpa using e) hx
    rw [badFrom_cons, h x List.mem_cons_self, e]
    show (if true = true then badFrom ok (pre ++ [x]) r else some pre.length) = none
    rw [if_pos rfl]
    refine badFrom_ok (fun y hy => h y (List.mem_cons_of_mem _ hy)) ?_
    rw [List.append_assoc]
    exact hn
theorem nodup_str {zs : List Str} (h : zs.Nodup) : (zs.map V.str).Nodup := List.Pairwise.map V.str (fun a b h e => h (V.str.inj e)) h
theorem due_ok {ns : List Str} (hn : ns.Nodup) (hm : ∀ z ∈ ns, nameS z = true) (hl : ns.length ≤ 16) : dueP (some (ns.map V.str)) = none := by
  unfold dueP
  simp only [List.length_map, if_pos hl]
  rw [badFrom_ok (fun x hx => ?_) (by rw [List.nil_append]; exact nodup_str hn)]
  · rfl
  · obtain ⟨z, hz, rfl⟩ := List.mem_map.mp hx
    exact hm z hz
theorem okW_of {ns : List Str} {p : Str} {ws : List Str} (g : GRow ns p ws) : okW ns p (some (ws.map V.str)) = true := by
  refine decide_eq_true ?_
  rw [badFrom_ok (fun x hx => ?_) (by rw [List.nil_append]; exact nodup_str g.1)]
  · rfl
  · obtain ⟨z, hz, rfl⟩ := List.mem_map.mp hx
    obtain ⟨h1, h2⟩ := g.2 z hz
    exact inS_iff.mpr ⟨z, List.mem_filter.mpr ⟨h1, by rw [decide_eq_false h2]; rfl⟩, rfl⟩
theorem hasB_of {ad : Str → Addr} {order ns : List Str} (hp : order.Perm ns) : hasB (order.map fun a => ((Sum.inr a : Key), V.ref (ad a))) ns = true := by
  unfold hasB
  rw [decide_eq_true (by rw [List.length_map]; exact hp.length_eq), Bool.true_and, List.all_eq_true]
  intro z hz
  rw [valV_rows (hp.mem_iff.mpr hz)]
  rfl
theorem rows_congr {H : Hp} {d : Addr} {ps : List Str} {ws ws' : Str → List Str} (h : RowsG H d ps (fun a => lstO (ws a))) (e : ∀ a ∈ ps, ws' a = ws a) : RowsG H d ps (fun a => lstO (ws' a)) := by
  obtain ⟨ad, e1, q⟩ := h
  refine ⟨ad, e1, fun a ha => ?_⟩
  show H (ad a) = some (lstO (ws' a)) ∧ ad a ≠ d
  rw [e a ha]
  exact q a ha
end Qp
namespace Qp
open PySem L2
def short (v : V) : Prop := ∀ z, v = .str z → z.length ≤ 1000
/-- no list, or a list of values of kinds; a text is short -/
def LstK (m : Nat) (H : Hp) (v : V) (o : Option (List V)) : Prop := ∃ k, IsK H v k ∧ (match o with
  | none => k ≠ .lst
  | some xs => ∃ a, v = .ref a ∧ H a = some (.lst xs) ∧ xs.length ≤ m ∧ ∀ y ∈ xs, ∃ k, IsK H y k) ∧ short v
theorem LstK.same {m : Nat} {H H' : Hp} (s : Same H H') {v : V} {o : Option (List V)} (h : LstK m H v o) : LstK m H' v o := by
  obtain ⟨k, ik, q, sv⟩ := h
  refine ⟨k, ik.same s, ?_, sv⟩
  cases o with
  | none => exact q
  | some xs =>
    obtain ⟨a, e, h, hl, hy⟩ := q
    exact ⟨a, e, s _ _ h, hl, fun y m => (hy y m).imp fun _ q => q.same s⟩
theorem short_ref (a : Addr) : short (.ref a) := fun _ h => by cases h
end Qp
namespace Qp
open PySem L2
theorem _root_.L2.IsK.butD {H H' : Hp} {d : Addr} (s : SameBut d H H') {k1 k2 : List (Key × V)} (hd : H d = some (.dK k1)) (hd' : H' d = some (.dK k2)) {v : V} {k : Kd} (ik : IsK H v k) : IsK H' v k := by
  cases ik with
  | non => exact .non
  | bl b => exact .bl b
  | int i => exact .int i
  | str z => exact .str z
  | @lst a xs h => exact .lst (s _ _ (ne_of h hd (by intro z; cases z)) h)
  | @tup a xs h => exact .tup (s _ _ (ne_of h hd (by intro z; cases z)) h)
  | @dct a xs h =>
    by_cases ha : a = d
    · rw [ha]; exact .dct hd'
    · exact .dct (s _ _ ha h)
theorem _root_.L2.IsK.butL {H H' : Hp} {d : Addr} (s : SameBut d H H') {k1 k2 : List V} (hd : H d = some (.lst k1)) (hd' : H' d = some (.lst k2)) {v : V} {k : Kd} (ik : IsK H v k) : IsK H' v k := by
  cases ik with
  | non => exact .non
  | bl b => exact .bl b
  | int i => exact .int i
  | str z => exact .str z
  | @lst a xs h =>
    by_cases ha : a = d
    · rw [ha]; exact .lst hd'
    · exact .lst (s _ _ ha h)
  | @tup a xs h => exact .tup (s _ _ (ne_of h hd (by intro z; cases z)) h)
  | @dct a xs h => exact .dct (s _ _ (ne_of h hd (by intro z; cases z)) h)
theorem LstK.butD {m : Nat} {H H' : Hp} {d : Addr} (s : SameBut d H H') {k1 k2 : List (Key × V)} (hd : H d = some (.dK k1)) (hd' : H' d = some (.dK k2)) {v : V} {o : Option (List V)} (h : LstK m H v o) : LstK m H' v o := by
  obtain ⟨k, ik, q, sv⟩ := h
  refine ⟨k, ik.butD s hd hd', ?_, sv⟩
  cases o with
  | none => exact q
  | some xs =>
    obtain ⟨a, e, h, hl, hy⟩ := q
    exact ⟨a, e, s _ _ (ne_of h hd (by intro z; cases z)) h, hl, fun y m => (hy y m).imp fun _ q => q.butD s hd hd'⟩
theorem LstK.butL {m : Nat} {H H' : Hp} {d : Addr} (s : SameBut d H H') {k1 k2 : List V} (hd : H d = some (.lst k1)) (hd' : H' d = some (.lst k2)) (hl2 : k2.length ≤ m) (hk2 : ∀ y ∈ k2, ∃ k, IsK H' y k) {v : V} (h : ∃ o, LstK m H v o) : ∃ o, LstK m H' v o := by
  obtain ⟨o, k, ik, q, sv⟩ := h
  cases o with
  | none => exact ⟨none, k, ik.butL s hd hd', q, sv⟩
  | some xs =>
    obtain ⟨a, e, h, hl, hy⟩ := q
    by_cases ha : a = d
    · exact ⟨some k2, k, ik.butL s hd hd', ⟨a, e, by rw [ha]; exact hd', hl2, hk2⟩, sv⟩
    · exact ⟨some xs, k, ik.butL s hd hd', ⟨a, e, s _ _ ha h, hl, fun y m => (hy y m).imp fun _ q => q.butL s hd hd'⟩, sv⟩
/-- any value that the law draws -/
def AnyV (H : Hp) (v : V) : Prop := ∃ k, IsK H v k ∧ (∃ o, LstK 2 H v o) ∧ (k = .dct → ∃ (a : Addr) (kvs : List (Key × V)), v = .ref a ∧ H a = some (.dK kvs) ∧ ∀ key x, valV kvs key = some x → ∃ o, LstK 2 H x o)
theorem AnyV.kd {H : Hp} {v : V} (h : AnyV H v) : ∃ k, IsK H v k := let ⟨k, ik, _⟩ := h; ⟨k, ik⟩
theorem AnyV.lstK {H : Hp} {v : V} (h : AnyV H v) : ∃ o, LstK 2 H v o := let ⟨_, _, q, _⟩ := h; q
theorem AnyV.same {H H' : Hp} (s : Same H H') {v : V} (h : AnyV H v) : AnyV H' v := by
  obtain ⟨k, ik, ⟨o, ho⟩, hd⟩ := h
  refine ⟨k, ik.same s, ⟨o, ho.same s⟩, fun e => ?_⟩
  obtain ⟨a, kvs, e1, e2, e3⟩ := hd e
  exact ⟨a, kvs, e1, s _ _ e2, fun key x hx => (e3 key x hx).imp fun _ q => q.same s⟩
theorem AnyV.butD {H H' : Hp} {d : Addr} (s : SameBut d H H') {k1 k2 : List (Key × V)} (hd : H d = some (.dK k1)) (hd' : H' d = some (.dK k2)) (hk2 : ∀ key x, valV k2 key = some x → ∃ o, LstK 2 H' x o) {v : V} (h : AnyV H v) : AnyV H' v := by
  obtain ⟨k, ik, ⟨o, ho⟩, hv⟩ := h
  refine ⟨k, ik.butD s hd hd', ⟨o, ho.butD s hd hd'⟩, fun e => ?_⟩
  obtain ⟨a, kvs, e1, e2, e3⟩ := hv e
  by_cases ha : a = d
  · exact ⟨a, k2, e1, by rw [ha]; exact hd', hk2⟩
  · exact ⟨a, kvs, e1, s _ _ ha e2, fun key x hx => (e3 key x hx).imp fun _ q => q.butD s hd hd'⟩
theorem AnyV.butL {H H' : Hp} {d : Addr} (s : SameBut d H H') {k1 k2 : List V} (hd : H d = some (.lst k1)) (hd' : H' d = some (.lst k2)) (hl2 : k2.length ≤ 2) (hk2 : ∀ y ∈ k2, ∃ k, IsK H' y k) {v : V} (h : AnyV H v) : AnyV H' v := by
  obtain ⟨k, ik, ho, hv⟩ := h
  refine ⟨k, ik.butL s hd hd', LstK.butL s hd hd' hl2 hk2 ho, fun e => ?_⟩
  obtain ⟨a, kvs, e1, e2, e3⟩ := hv e
  exact ⟨a, kvs, e1, s _ _ (ne_of e2 hd (by intro z; cases z)) e2, fun key x hx => LstK.butL s hd hd' hl2 hk2 (e3 key x hx)⟩
theorem AnyV.but {H H' : Hp} {st : Addr} (s : SameBut st H H') {n z : Int} (hst : H st = some (.lst [.int n, .int z])) {m y : Int} (hst' : H' st = some (.lst [.int m, .int y])) {v : V} (h : AnyV H v) : AnyV H' v :=
  h.butL s hst hst' (by show 2 ≤ 2; decide) fun y hy => by
    rcases List.mem_cons.mp hy with e | hy
    · exact ⟨_, by rw [e]; exact .int _⟩
    · rcases List.mem_cons.mp hy with e | hy
      · exact ⟨_, by rw [e]; exact .int _⟩
      · cases hy
theorem anyV_flat {H : Hp} {v : V} {k : Kd} (h : IsK H v k) (h1 : k ≠ .lst) (h2 : k ≠ .dct) (sv : short v := by (intro _ h; cases h)) : AnyV H v := ⟨k, h, ⟨none, k, h, h1, sv⟩, fun e => absurd e h2⟩
theorem anyV_non {H : Hp} : AnyV H .non := anyV_flat .non (by decide) (by decide)
theorem anyV_bl {H : Hp} (b : Bool) : AnyV H (.bl b) := anyV_flat (.bl b) (by decide) (by decide)
theorem anyV_int {H : Hp} (b : Int) : AnyV H (.int b) := anyV_flat (.int b) (by decide) (by decide)
theorem anyV_str {H : Hp} (z : Str) (hz : z.length ≤ 1000 := by decide) : AnyV H (.str z) := anyV_flat (.str z) (by decide) (by decide) (fun y e => by cases e; exact hz)
theorem anyV_tup {H : Hp} {a : Addr} {xs : List V} (h : H a = some (.tup xs)) : AnyV H (.ref a) := anyV_flat (.tup h) (by decide) (by decide)
theorem anyV_lst {H : Hp} {a : Addr} {xs : List V} (h : H a = some (.lst xs)) (hl : xs.length ≤ 2) (hk : ∀ y ∈ xs, ∃ k, IsK H y k) : AnyV H (.ref a) := ⟨.lst, .lst h, ⟨some xs, .lst, .lst h, ⟨a, rfl, h, hl, hk⟩, short_ref _⟩, fun e => by cases e⟩
theorem anyV_dct {H : Hp} {a : Addr} {kvs : List (Key × V)} (h : H a = some (.dK kvs)) (hk : ∀ key x, valV kvs key = some x → ∃ o, LstK 2 H x o) : AnyV H (.ref a) := ⟨.dct, .dct h, ⟨none, .dct, .dct h, by show Kd.dct ≠ Kd.lst; decide, short_ref _⟩, fun _ => ⟨a, kvs, rfl, h, hk⟩⟩
theorem val_one {k : Key} {v : V} {key : Key} {x : V} (h : valV (mergeK [] [(k, v)]) key = some x) : x = v := by
  have e : mergeK [] [(k, v)] = [(k, v)] := rfl
  rw [e] at h
  by_cases q : k = key
  · rw [valV_pos q] at h
    exact (Option.some.inj h).symm
  · rw [valV_neg q] at h
    cases h
theorem val_two {k l : Key} {v u : V} (hkl : k ≠ l) {key : Key} {x : V} (h : valV (mergeK [] [(k, v), (l, u)]) key = some x) : x = v ∨ x = u := by
  have e : mergeK [] [(k, v), (l, u)] = [(k, v), (l, u)] := by
    show putK (putK [] k v) l u = _
    rw [show putK [] k v = [(k, v)] from rfl, putK_new _ (by rw [valV_neg hkl]; rfl)]
    rfl
  rw [e] at h
  by_cases q : k = key
  · rw [valV_pos q] at h
    exact .inl (Option.some.inj h).symm
  · rw [valV_neg q] at h
    by_cases q2 : l = key
    · rw [valV_pos q2] at h
      exact .inr (Option.some.inj h).symm
    · rw [valV_neg q2] at h
      cases h
theorem one_kd {H : Hp} {v : V} (h : ∃ k, IsK H v k) : ∀ y ∈ [v], ∃ k, IsK H y k := fun y hy => by
  have e : y = v := by simpa using hy
  rw [e]; exact h
theorem two_kd {H : Hp} {v u : V} (h : ∃ k, IsK H v k) (h2 : ∃ k, IsK H u k) : ∀ y ∈ [v, u], ∃ k, IsK H y k := fun y hy => by
  rcases List.mem_cons.mp hy with e | hy
  · rw [e]; exact h
  · have e : y = u := by simpa using hy
    rw [e]; exact h2
section
variable {P : Program} {w : World} {K : PySem.W.Frag} {mg : Str → Option Value} {base : Heap}
/-- _law_value(state) -/
def spVal : Sp := fun vs H Q _ => ∃ (st : Addr), vs = [.ref st] ∧ StAt H st ∧ ∀ (v : V) (H' : Hp), SameBut st H H' → StAt H' st → AnyV H' v → Q v H'
theorem ok_val {f : Addr} {fd : FuncData} (F : Fun K "_law_value" "_law_value" sLvalue f fd) (B : Bl mg) (cT : CF P w K mg base CX0 1 "_law_take" ["_law_state", "_law_many"] spTake) : FnOk P w K mg base CX0 2 f fd ["_law_state"] spVal := by
  refine F.ok scLvalue (fun vs H Q E h => ?_) (fun cdv A outer s H vs Q E hr h => ?_)
  · obtain ⟨st, rfl, _⟩ := h
    rfl
  · obtain ⟨st, rfl, hst, kq⟩ := h
    have esz : sizeLine = 16777216 := sizeLine_eq
    have len0 : 0 ≤ sizeLine := Nat.zero_le _
    have len1 : 1 ≤ sizeLine := by rw [esz]; decide
    have len2 : 2 ≤ sizeLine := by rw [esz]; decide
    refine ⟨_, pss_cons (ps_set (i := 1) scLvalue.nd rfl (Or.inl rfl) pe_str)
      (pss_cons (ps_for PassesOwn.never rfl (pi_range1 (by rfl) B.rng (pa_cons pe_int pa_nil)) (pg_name (i := 2) scLvalue.nd rfl (Or.inl rfl)) (pss_one (ps_set (i := 1) scLvalue.nd rfl (Or.inl rfl) (pe_lst (pa_cons (pv 1) pa_nil)))))
      (pss_cons (ps_set (i := 3) scLvalue.nd rfl (Or.inl rfl) (pe_lst (pa_cons pe_non (pa_cons pe_bl (pa_cons pe_bl (pa_cons pe_int (pa_cons pe_int (pa_cons (pe_un un_neg pe_int) (pa_cons pe_int
          (pa_cons pe_str (pa_cons pe_str (pa_cons pe_str (pa_cons pe_str (pa_cons pe_str (pa_cons pe_str (pa_cons (pe_lst pa_nil) (pa_cons (pe_tup pa_nil) (pa_cons pe_dnewK (pa_cons (pe_lst (pa_cons pe_str pa_nil)) pa_nil)))))))))))))))))))
      (pss_cons (ps_set (i := 3) scLvalue.nd rfl (Or.inl rfl) (pe_op op_cat (pv 3) (pe_lst (pa_cons (pe_tup (pa_cons pe_str (pa_cons pe_str pa_nil))) (pa_cons (pe_tup (pa_cons pe_str pa_nil))
          (pa_cons (pe_disp (pps_cons pe_str pe_int pps_nil) (by rfl) (by rfl) (fun z => by cases z) (by decide))
          (pa_cons (pe_disp (pps_cons pe_str (pe_lst (pa_cons pe_str pa_nil)) (pps_cons pe_str (pe_lst (pa_cons pe_str pa_nil)) pps_nil)) (by rfl) (by rfl) (fun z => by cases z) (by decide))
          (pa_cons (pv 1) (pa_cons (pe_lst (pa_cons (pe_lst (pa_cons pe_int pa_nil)) (pa_cons (pe_disp (pps_cons pe_str (pe_lst pa_nil) pps_nil) (by rfl) (by rfl) (fun z => by cases z) (by decide)) pa_nil))) pa_nil)))))))))
      (pss_one (ps_ret (pe_ix ix_list (pv 3) (pe_cf cT hr pass0 (pa_cons (pv 0) (pa_cons (pe_callB call_len_seq (by rfl) B.len PySem.boot_len (pa_cons (pv 3) pa_nil)) pa_nil))) (fun _ _ => rfl))))))), ?_⟩
    refine ⟨80, rfl, by decide, by decide, for_it (walk_range (lo := 0) (n := (80 : Int).toNat)) (fun i σ H' => ∃ (v : V) (v2 : Option V), σ = [some (.ref st), some v, v2, none] ∧ Same H H' ∧ AnyV H' v)
      ⟨_, none, rfl, Same.refl H, anyV_str _⟩ (fun _ _ _ _ _ => True.intro) ?_ ?_⟩
    · rintro i x σ Hx H1 hi ⟨v, v2, rfl, s1, hv⟩ ⟨rfl, rfl⟩
      exact ⟨_, rfl, len1, fun p hp => ⟨_, _, rfl, s1.trans (Same.new hp), anyV_lst upd_same (by show 1 ≤ 2; decide) (one_kd (hv.same (Same.new hp)).kd)⟩⟩
    · rintro σ H1 ⟨v, v2, rfl, s1, hv⟩
      refine ⟨_, rfl, len0, fun a1 h1 => ?_⟩
      have sJ1 : Same H1 (upd H1 a1 (.lst [])) := Same.new h1
      have wa1 : AnyV (upd H1 a1 (.lst [])) (.ref a1) := anyV_lst upd_same (Nat.zero_le _) (fun _ h => by cases h)
      generalize upd H1 a1 (.lst []) = J1 at sJ1 wa1 ⊢
      replace hv := hv.same sJ1
      replace s1 := s1.trans sJ1
      refine ⟨len0, fun a2 h2 => ?_⟩
      have sJ2 : Same J1 (upd J1 a2 (.tup [])) := Same.new h2
      have wa2 : AnyV (upd J1 a2 (.tup [])) (.ref a2) := anyV_tup upd_same
      generalize upd J1 a2 (.tup []) = J2 at sJ2 wa2 ⊢
      replace hv := hv.same sJ2
      replace wa1 := wa1.same sJ2
      replace s1 := s1.trans sJ2
      refine fun a3 h3 => ?_
      have sJ3 : Same J2 (upd J2 a3 (.dK [])) := Same.new h3
      have wa3 : AnyV (upd J2 a3 (.dK [])) (.ref a3) := anyV_dct upd_same (fun _ _ h => by cases h)
      generalize upd J2 a3 (.dK []) = J3 at sJ3 wa3 ⊢
      replace hv := hv.same sJ3
      replace wa1 := wa1.same sJ3
      replace wa2 := wa2.same sJ3
      replace s1 := s1.trans sJ3
      refine ⟨len1, fun a4 h4 => ?_⟩
      have sJ4 : Same J3 (upd J3 a4 (.lst [.str "ann"])) := Same.new h4
      have wa4 : AnyV (upd J3 a4 (.lst [.str "ann"])) (.ref a4) := anyV_lst upd_same (by show 1 ≤ 2; decide) (one_kd ⟨_, .str _⟩)
      generalize upd J3 a4 (.lst [.str "ann"]) = J4 at sJ4 wa4 ⊢
      replace hv := hv.same sJ4
      replace wa1 := wa1.same sJ4
      replace wa2 := wa2.same sJ4
      replace wa3 := wa3.same sJ4
      replace s1 := s1.trans sJ4
      refine ⟨by show 17 ≤ sizeLine; rw [esz]; decide, fun L hL => ?_⟩
      have sJ5 : Same J4 (upd J4 L (.lst ([V.non, .bl true, .bl false, .int 0, .int 1, .int (-1), .int 7, .str "", .str "Ann", .str "abcdefghi", .str "an n", .str "ann\n", .str "ann1", .ref a1, .ref a2, .ref a3, .ref a4] : List V))) := Same.new hL
      have fL : (upd J4 L (.lst ([V.non, .bl true, .bl false, .int 0, .int 1, .int (-1), .int 7, .str "", .str "Ann", .str "abcdefghi", .str "an n", .str "ann\n", .str "ann1", .ref a1, .ref a2, .ref a3, .ref a4] : List V))) L = some (.lst ([V.non, .bl true, .bl false, .int 0, .int 1, .int (-1), .int 7, .str "", .str "Ann", .str "abcdefghi", .str "an n", .str "ann\n", .str "ann1", .ref a1, .ref a2, .ref a3, .ref a4] : List V)) := upd_same
      generalize upd J4 L (.lst ([V.non, .bl true, .bl false, .int 0, .int 1, .int (-1), .int 7, .str "", .str "Ann", .str "abcdefghi", .str "an n", .str "ann\n", .str "ann1", .ref a1, .ref a2, .ref a3, .ref a4] : List V)) = J5 at sJ5 fL ⊢
      replace hv := hv.same sJ5
      replace wa1 := wa1.same sJ5
      replace wa2 := wa2.same sJ5
      replace wa3 := wa3.same sJ5
      replace wa4 := wa4.same sJ5
      replace s1 := s1.trans sJ5
      refine ⟨_, rfl, len2, fun b1 g1 => ?_⟩
      have sJ6 : Same J5 (upd J5 b1 (.tup [.str "ann", .str "bob"])) := Same.new g1
      have wb1 : AnyV (upd J5 b1 (.tup [.str "ann", .str "bob"])) (.ref b1) := anyV_tup upd_same
      generalize upd J5 b1 (.tup [.str "ann", .str "bob"]) = J6 at sJ6 wb1 ⊢
      replace hv := hv.same sJ6
      replace wa1 := wa1.same sJ6
      replace wa2 := wa2.same sJ6
      replace wa3 := wa3.same sJ6
      replace wa4 := wa4.same sJ6
      replace fL := sJ6 _ _ fL
      replace s1 := s1.trans sJ6
      refine ⟨len1, fun b2 g2 => ?_⟩
      have sJ7 : Same J6 (upd J6 b2 (.tup [.str "ann"])) := Same.new g2
      have wb2 : AnyV (upd J6 b2 (.tup [.str "ann"])) (.ref b2) := anyV_tup upd_same
      generalize upd J6 b2 (.tup [.str "ann"]) = J7 at sJ7 wb2 ⊢
      replace hv := hv.same sJ7
      replace wa1 := wa1.same sJ7
      replace wa2 := wa2.same sJ7
      replace wa3 := wa3.same sJ7
      replace wa4 := wa4.same sJ7
      replace wb1 := wb1.same sJ7
      replace fL := sJ7 _ _ fL
      replace s1 := s1.trans sJ7
      refine fun b3 g3 => ?_
      have zb3 : H b3 = none := s1.free g3
      have sJ8 : Same J7 (upd J7 b3 (.dK [])) := Same.new g3
      have fb3 : (upd J7 b3 (.dK [])) b3 = some (.dK []) := upd_same
      generalize upd J7 b3 (.dK []) = J8 at sJ8 fb3 ⊢
      replace hv := hv.same sJ8
      replace wa1 := wa1.same sJ8
      replace wa2 := wa2.same sJ8
      replace wa3 := wa3.same sJ8
      replace wa4 := wa4.same sJ8
      replace wb1 := wb1.same sJ8
      replace wb2 := wb2.same sJ8
      replace fL := sJ8 _ _ fL
      replace s1 := s1.trans sJ8
      refine ⟨fb3, [(Sum.inr "ann", .int 1)], rfl, by decide, ?_⟩
      have bJ9 : SameBut b3 J8 (upd J8 b3 (.dK (mergeK [] ([(Sum.inr "ann", V.int 1)] : List (Key × V))))) := SameBut.set
      have eJ9 : (upd J8 b3 (.dK (mergeK [] ([(Sum.inr "ann", V.int 1)] : List (Key × V))))) b3 = some (.dK (mergeK [] ([(Sum.inr "ann", V.int 1)] : List (Key × V)))) := upd_same
      have tJ9 : Same H (upd J8 b3 (.dK (mergeK [] ([(Sum.inr "ann", V.int 1)] : List (Key × V))))) := fun b o e => by rw [upd_ne (ne_of_none e zb3)]; exact s1 _ _ e
      generalize upd J8 b3 (.dK (mergeK [] ([(Sum.inr "ann", V.int 1)] : List (Key × V)))) = J9 at bJ9 eJ9 tJ9 ⊢
      have kk9 : ∀ key x, valV (mergeK [] ([(Sum.inr "ann", V.int 1)] : List (Key × V))) key = some x → ∃ o, LstK 2 J9 x o := fun key x h => by
        rw [val_one h]
        exact (anyV_int 1).lstK
      replace hv := AnyV.butD bJ9 fb3 eJ9 kk9 hv
      replace wa1 := AnyV.butD bJ9 fb3 eJ9 kk9 wa1
      replace wa2 := AnyV.butD bJ9 fb3 eJ9 kk9 wa2
      replace wa3 := AnyV.butD bJ9 fb3 eJ9 kk9 wa3
      replace wa4 := AnyV.butD bJ9 fb3 eJ9 kk9 wa4
      replace wb1 := AnyV.butD bJ9 fb3 eJ9 kk9 wb1
      replace wb2 := AnyV.butD bJ9 fb3 eJ9 kk9 wb2
      replace fL := bJ9 _ _ (ne_of fL fb3 (by intro z; cases z)) fL
      have wb3 : AnyV J9 (.ref b3) := anyV_dct eJ9 kk9
      replace s1 := tJ9
      refine fun b4 g4 => ?_
      have zb4 : H b4 = none := s1.free g4
      have sJ10 : Same J9 (upd J9 b4 (.dK [])) := Same.new g4
      have fb4 : (upd J9 b4 (.dK [])) b4 = some (.dK []) := upd_same
      generalize upd J9 b4 (.dK []) = J10 at sJ10 fb4 ⊢
      replace hv := hv.same sJ10
      replace wa1 := wa1.same sJ10
      replace wa2 := wa2.same sJ10
      replace wa3 := wa3.same sJ10
      replace wa4 := wa4.same sJ10
      replace wb1 := wb1.same sJ10
      replace wb2 := wb2.same sJ10
      replace wb3 := wb3.same sJ10
      replace fL := sJ10 _ _ fL
      replace s1 := s1.trans sJ10
      refine ⟨len1, fun b5 g5 => ?_⟩
      have sJ11 : Same J10 (upd J10 b5 (.lst [.str "bob"])) := Same.new g5
      have wb5 : AnyV (upd J10 b5 (.lst [.str "bob"])) (.ref b5) := anyV_lst upd_same (by show 1 ≤ 2; decide) (one_kd ⟨_, .str _⟩)
      generalize upd J10 b5 (.lst [.str "bob"]) = J11 at sJ11 wb5 ⊢
      replace hv := hv.same sJ11
      replace wa1 := wa1.same sJ11
      replace wa2 := wa2.same sJ11
      replace wa3 := wa3.same sJ11
      replace wa4 := wa4.same sJ11
      replace wb1 := wb1.same sJ11
      replace wb2 := wb2.same sJ11
      replace wb3 := wb3.same sJ11
      replace fL := sJ11 _ _ fL
      replace fb4 := sJ11 _ _ fb4
      replace s1 := s1.trans sJ11
      refine ⟨len1, fun b6 g6 => ?_⟩
      have sJ12 : Same J11 (upd J11 b6 (.lst [.str "ann"])) := Same.new g6
      have wb6 : AnyV (upd J11 b6 (.lst [.str "ann"])) (.ref b6) := anyV_lst upd_same (by show 1 ≤ 2; decide) (one_kd ⟨_, .str _⟩)
      generalize upd J11 b6 (.lst [.str "ann"]) = J12 at sJ12 wb6 ⊢
      replace hv := hv.same sJ12
      replace wa1 := wa1.same sJ12
      replace wa2 := wa2.same sJ12
      replace wa3 := wa3.same sJ12
      replace wa4 := wa4.same sJ12
      replace wb1 := wb1.same sJ12
      replace wb2 := wb2.same sJ12
      replace wb3 := wb3.same sJ12
      replace wb5 := wb5.same sJ12
      replace fL := sJ12 _ _ fL
      replace fb4 := sJ12 _ _ fb4
      replace s1 := s1.trans sJ12
      refine ⟨fb4, [(Sum.inr "ann", .ref b5), (Sum.inr "bob", .ref b6)], rfl, (by show 2 ≤ 15; decide), ?_⟩
      have bJ13 : SameBut b4 J12 (upd J12 b4 (.dK (mergeK [] ([(Sum.inr "ann", V.ref b5), (Sum.inr "bob", V.ref b6)] : List (Key × V))))) := SameBut.set
      have eJ13 : (upd J12 b4 (.dK (mergeK [] ([(Sum.inr "ann", V.ref b5), (Sum.inr "bob", V.ref b6)] : List (Key × V))))) b4 = some (.dK (mergeK [] ([(Sum.inr "ann", V.ref b5), (Sum.inr "bob", V.ref b6)] : List (Key × V)))) := upd_same
      have tJ13 : Same H (upd J12 b4 (.dK (mergeK [] ([(Sum.inr "ann", V.ref b5), (Sum.inr "bob", V.ref b6)] : List (Key × V))))) := fun b o e => by rw [upd_ne (ne_of_none e zb4)]; exact s1 _ _ e
      generalize upd J12 b4 (.dK (mergeK [] ([(Sum.inr "ann", V.ref b5), (Sum.inr "bob", V.ref b6)] : List (Key × V)))) = J13 at bJ13 eJ13 tJ13 ⊢
      have kk13 : ∀ key x, valV (mergeK [] ([(Sum.inr "ann", V.ref b5), (Sum.inr "bob", V.ref b6)] : List (Key × V))) key = some x → ∃ o, LstK 2 J13 x o := fun key x h => by
        rcases val_two (by decide +kernel) h with e | e
        · rw [e]
          exact wb5.lstK.imp fun _ q => q.butD bJ13 fb4 eJ13
        · rw [e]
          exact wb6.lstK.imp fun _ q => q.butD bJ13 fb4 eJ13
      replace hv := AnyV.butD bJ13 fb4 eJ13 kk13 hv
      replace wa1 := AnyV.butD bJ13 fb4 eJ13 kk13 wa1
      replace wa2 := AnyV.butD bJ13 fb4 eJ13 kk13 wa2
      replace wa3 := AnyV.butD bJ13 fb4 eJ13 kk13 wa3
      replace wa4 := AnyV.butD bJ13 fb4 eJ13 kk13 wa4
      replace wb1 := AnyV.butD bJ13 fb4 eJ13 kk13 wb1
      replace wb2 := AnyV.butD bJ13 fb4 eJ13 kk13 wb2
      replace wb3 := AnyV.butD bJ13 fb4 eJ13 kk13 wb3
      replace wb5 := AnyV.butD bJ13 fb4 eJ13 kk13 wb5
      replace wb6 := AnyV.butD bJ13 fb4 eJ13 kk13 wb6
      replace fL := bJ13 _ _ (ne_of fL fb4 (by intro z; cases z)) fL
      have wb4 : AnyV J13 (.ref b4) := anyV_dct eJ13 kk13
      replace s1 := tJ13
      refine ⟨_, rfl, len1, fun b7 g7 => ?_⟩
      have sJ14 : Same J13 (upd J13 b7 (.lst [.int 1])) := Same.new g7
      have wb7 : AnyV (upd J13 b7 (.lst [.int 1])) (.ref b7) := anyV_lst upd_same (by show 1 ≤ 2; decide) (one_kd ⟨_, .int _⟩)
      generalize upd J13 b7 (.lst [.int 1]) = J14 at sJ14 wb7 ⊢
      replace hv := hv.same sJ14
      replace wa1 := wa1.same sJ14
      replace wa2 := wa2.same sJ14
      replace wa3 := wa3.same sJ14
      replace wa4 := wa4.same sJ14
      replace wb1 := wb1.same sJ14
      replace wb2 := wb2.same sJ14
      replace wb3 := wb3.same sJ14
      replace wb5 := wb5.same sJ14
      replace wb6 := wb6.same sJ14
      replace wb4 := wb4.same sJ14
      replace fL := sJ14 _ _ fL
      replace s1 := s1.trans sJ14
      refine fun b8 g8 => ?_
      have zb8 : H b8 = none := s1.free g8
      have sJ15 : Same J14 (upd J14 b8 (.dK [])) := Same.new g8
      have fb8 : (upd J14 b8 (.dK [])) b8 = some (.dK []) := upd_same
      generalize upd J14 b8 (.dK []) = J15 at sJ15 fb8 ⊢
      replace hv := hv.same sJ15
      replace wa1 := wa1.same sJ15
      replace wa2 := wa2.same sJ15
      replace wa3 := wa3.same sJ15
      replace wa4 := wa4.same sJ15
      replace wb1 := wb1.same sJ15
      replace wb2 := wb2.same sJ15
      replace wb3 := wb3.same sJ15
      replace wb5 := wb5.same sJ15
      replace wb6 := wb6.same sJ15
      replace wb4 := wb4.same sJ15
      replace wb7 := wb7.same sJ15
      replace fL := sJ15 _ _ fL
      replace s1 := s1.trans sJ15
      refine ⟨len0, fun b9 g9 => ?_⟩
      have sJ16 : Same J15 (upd J15 b9 (.lst [])) := Same.new g9
      have wb9 : AnyV (upd J15 b9 (.lst [])) (.ref b9) := anyV_lst upd_same (Nat.zero_le _) (fun _ h => by cases h)
      generalize upd J15 b9 (.lst []) = J16 at sJ16 wb9 ⊢
      replace hv := hv.same sJ16
      replace wa1 := wa1.same sJ16
      replace wa2 := wa2.same sJ16
      replace wa3 := wa3.same sJ16
      replace wa4 := wa4.same sJ16
      replace wb1 := wb1.same sJ16
      replace wb2 := wb2.same sJ16
      replace wb3 := wb3.same sJ16
      replace wb5 := wb5.same sJ16
      replace wb6 := wb6.same sJ16
      replace wb4 := wb4.same sJ16
      replace wb7 := wb7.same sJ16
      replace fL := sJ16 _ _ fL
      replace fb8 := sJ16 _ _ fb8
      replace s1 := s1.trans sJ16
      refine ⟨fb8, [(Sum.inr "a", .ref b9)], rfl, (by show 1 ≤ 15; decide), ?_⟩
      have bJ17 : SameBut b8 J16 (upd J16 b8 (.dK (mergeK [] ([(Sum.inr "a", V.ref b9)] : List (Key × V))))) := SameBut.set
      have eJ17 : (upd J16 b8 (.dK (mergeK [] ([(Sum.inr "a", V.ref b9)] : List (Key × V))))) b8 = some (.dK (mergeK [] ([(Sum.inr "a", V.ref b9)] : List (Key × V)))) := upd_same
      have tJ17 : Same H (upd J16 b8 (.dK (mergeK [] ([(Sum.inr "a", V.ref b9)] : List (Key × V))))) := fun b o e => by rw [upd_ne (ne_of_none e zb8)]; exact s1 _ _ e
      generalize upd J16 b8 (.dK (mergeK [] ([(Sum.inr "a", V.ref b9)] : List (Key × V)))) = J17 at bJ17 eJ17 tJ17 ⊢
      have kk17 : ∀ key x, valV (mergeK [] ([(Sum.inr "a", V.ref b9)] : List (Key × V))) key = some x → ∃ o, LstK 2 J17 x o := fun key x h => by
        rw [val_one h]
        exact wb9.lstK.imp fun _ q => q.butD bJ17 fb8 eJ17
      replace hv := AnyV.butD bJ17 fb8 eJ17 kk17 hv
      replace wa1 := AnyV.butD bJ17 fb8 eJ17 kk17 wa1
      replace wa2 := AnyV.butD bJ17 fb8 eJ17 kk17 wa2
      replace wa3 := AnyV.butD bJ17 fb8 eJ17 kk17 wa3
      replace wa4 := AnyV.butD bJ17 fb8 eJ17 kk17 wa4
      replace wb1 := AnyV.butD bJ17 fb8 eJ17 kk17 wb1
      replace wb2 := AnyV.butD bJ17 fb8 eJ17 kk17 wb2
      replace wb3 := AnyV.butD bJ17 fb8 eJ17 kk17 wb3
      replace wb5 := AnyV.butD bJ17 fb8 eJ17 kk17 wb5
      replace wb6 := AnyV.butD bJ17 fb8 eJ17 kk17 wb6
      replace wb4 := AnyV.butD bJ17 fb8 eJ17 kk17 wb4
      replace wb7 := AnyV.butD bJ17 fb8 eJ17 kk17 wb7
      replace wb9 := AnyV.butD bJ17 fb8 eJ17 kk17 wb9
      replace fL := bJ17 _ _ (ne_of fL fb8 (by intro z; cases z)) fL
      have wb8 : AnyV J17 (.ref b8) := anyV_dct eJ17 kk17
      replace s1 := tJ17
      refine ⟨len2, fun c1 k1 => ?_⟩
      have sJ18 : Same J17 (upd J17 c1 (.lst [.ref b7, .ref b8])) := Same.new k1
      have wc1 : AnyV (upd J17 c1 (.lst [.ref b7, .ref b8])) (.ref c1) := anyV_lst upd_same (by show 2 ≤ 2; decide) (two_kd (wb7.same sJ18).kd (wb8.same sJ18).kd)
      generalize upd J17 c1 (.lst [.ref b7, .ref b8]) = J18 at sJ18 wc1 ⊢
      replace hv := hv.same sJ18
      replace wa1 := wa1.same sJ18
      replace wa2 := wa2.same sJ18
      replace wa3 := wa3.same sJ18
      replace wa4 := wa4.same sJ18
      replace wb1 := wb1.same sJ18
      replace wb2 := wb2.same sJ18
      replace wb3 := wb3.same sJ18
      replace wb5 := wb5.same sJ18
      replace wb6 := wb6.same sJ18
      replace wb4 := wb4.same sJ18
      replace wb7 := wb7.same sJ18
      replace wb9 := wb9.same sJ18
      replace wb8 := wb8.same sJ18
      replace fL := sJ18 _ _ fL
      replace s1 := s1.trans sJ18
      refine ⟨by show 6 ≤ sizeLine; rw [esz]; decide, fun M hM => ?_⟩
      have sJ19 : Same J18 (upd J18 M (.lst ([.ref b1, .ref b2, .ref b3, .ref b4, v, .ref c1] : List V))) := Same.new hM
      have fM : (upd J18 M (.lst ([.ref b1, .ref b2, .ref b3, .ref b4, v, .ref c1] : List V))) M = some (.lst ([.ref b1, .ref b2, .ref b3, .ref b4, v, .ref c1] : List V)) := upd_same
      generalize upd J18 M (.lst ([.ref b1, .ref b2, .ref b3, .ref b4, v, .ref c1] : List V)) = J19 at sJ19 fM ⊢
      replace hv := hv.same sJ19
      replace wa1 := wa1.same sJ19
      replace wa2 := wa2.same sJ19
      replace wa3 := wa3.same sJ19
      replace wa4 := wa4.same sJ19
      replace wb1 := wb1.same sJ19
      replace wb2 := wb2.same sJ19
      replace wb3 := wb3.same sJ19
      replace wb5 := wb5.same sJ19
      replace wb6 := wb6.same sJ19
      replace wb4 := wb4.same sJ19
      replace wb7 := wb7.same sJ19
      replace wb9 := wb9.same sJ19
      replace wb8 := wb8.same sJ19
      replace wc1 := wc1.same sJ19
      replace fL := sJ19 _ _ fL
      replace s1 := s1.trans sJ19
      refine ⟨L, M, _, _, rfl, rfl, fL, fM, by show 17 + 6 ≤ sizeLine; rw [esz]; decide, fun N hN => ?_⟩
      have hNs : N ≠ st := by
        obtain ⟨n2, z2, e2, _⟩ := hst.same s1
        intro z
        rw [z, e2] at hN
        cases hN
      have sJ20 : Same J19 (upd J19 N (.lst (([V.non, .bl true, .bl false, .int 0, .int 1, .int (-1), .int 7, .str "", .str "Ann", .str "abcdefghi", .str "an n", .str "ann\n", .str "ann1", .ref a1, .ref a2, .ref a3, .ref a4] : List V) ++ ([.ref b1, .ref b2, .ref b3, .ref b4, v, .ref c1] : List V)))) := Same.new hN
      have fN : (upd J19 N (.lst (([V.non, .bl true, .bl false, .int 0, .int 1, .int (-1), .int 7, .str "", .str "Ann", .str "abcdefghi", .str "an n", .str "ann\n", .str "ann1", .ref a1, .ref a2, .ref a3, .ref a4] : List V) ++ ([.ref b1, .ref b2, .ref b3, .ref b4, v, .ref c1] : List V)))) N = some (.lst (([V.non, .bl true, .bl false, .int 0, .int 1, .int (-1), .int 7, .str "", .str "Ann", .str "abcdefghi", .str "an n", .str "ann\n", .str "ann1", .ref a1, .ref a2, .ref a3, .ref a4] : List V) ++ ([.ref b1, .ref b2, .ref b3, .ref b4, v, .ref c1] : List V))) := upd_same
      generalize upd J19 N (.lst (([V.non, .bl true, .bl false, .int 0, .int 1, .int (-1), .int 7, .str "", .str "Ann", .str "abcdefghi", .str "an n", .str "ann\n", .str "ann1", .ref a1, .ref a2, .ref a3, .ref a4] : List V) ++ ([.ref b1, .ref b2, .ref b3, .ref b4, v, .ref c1] : List V))) = J20 at sJ20 fN ⊢
      replace hv := hv.same sJ20
      replace wa1 := wa1.same sJ20
      replace wa2 := wa2.same sJ20
      replace wa3 := wa3.same sJ20
      replace wa4 := wa4.same sJ20
      replace wb1 := wb1.same sJ20
      replace wb2 := wb2.same sJ20
      replace wb3 := wb3.same sJ20
      replace wb5 := wb5.same sJ20
      replace wb6 := wb6.same sJ20
      replace wb4 := wb4.same sJ20
      replace wb7 := wb7.same sJ20
      replace wb9 := wb9.same sJ20
      replace wb8 := wb8.same sJ20
      replace wc1 := wc1.same sJ20
      replace fL := sJ20 _ _ fL
      replace fM := sJ20 _ _ fM
      replace s1 := s1.trans sJ20
      have hall : ∀ y ∈ (([V.non, .bl true, .bl false, .int 0, .int 1, .int (-1), .int 7, .str "", .str "Ann", .str "abcdefghi", .str "an n", .str "ann\n", .str "ann1", .ref a1, .ref a2, .ref a3, .ref a4] : List V) ++ ([.ref b1, .ref b2, .ref b3, .ref b4, v, .ref c1] : List V)), AnyV J20 y := by
        intro y hy
        simp only [List.cons_append, List.nil_append, List.mem_cons, List.not_mem_nil, or_false] at hy
        rcases hy with rfl | rfl | rfl | rfl | rfl | rfl | rfl | rfl | rfl | rfl | rfl | rfl | rfl | rfl | rfl | rfl | rfl | rfl | rfl | rfl | rfl | rfl | rfl
        · exact anyV_non
        · exact anyV_bl _
        · exact anyV_bl _
        · exact anyV_int _
        · exact anyV_int _
        · exact anyV_int _
        · exact anyV_int _
        · exact anyV_str _
        · exact anyV_str _
        · exact anyV_str _
        · exact anyV_str _
        · exact anyV_str _
        · exact anyV_str _
        · exact wa1
        · exact wa2
        · exact wa3
        · exact wa4
        · exact wb1
        · exact wb2
        · exact wb3
        · exact wb4
        · exact hv
        · exact wc1
      refine ⟨_, rfl, _, rfl, _, rfl, N, _, rfl, .inl (SqL.of fN), st, 23, rfl, by decide, by decide, hst.same s1, fun d n0 z0 hd0 hd1 hn0 hz0 hz1 => ?_⟩
      obtain ⟨n1, z1, est, _⟩ := hst.same s1
      have hlen : (([V.non, .bl true, .bl false, .int 0, .int 1, .int (-1), .int 7, .str "", .str "Ann", .str "abcdefghi", .str "an n", .str "ann\n", .str "ann1", .ref a1, .ref a2, .ref a3, .ref a4] : List V) ++ ([.ref b1, .ref b2, .ref b3, .ref b4, v, .ref c1] : List V)).length = 23 := rfl
      obtain ⟨y, ey⟩ : ∃ y, (([V.non, .bl true, .bl false, .int 0, .int 1, .int (-1), .int 7, .str "", .str "Ann", .str "abcdefghi", .str "an n", .str "ann\n", .str "ann1", .ref a1, .ref a2, .ref a3, .ref a4] : List V) ++ ([.ref b1, .ref b2, .ref b3, .ref b4, v, .ref c1] : List V))[d.toNat]? = some y := ⟨_, List.getElem?_eq_getElem (by rw [hlen]; omega)⟩
      have hy := hall y (List.mem_of_getElem? ey)
      refine ⟨N, _, d, y, rfl, rfl, SqL.of (by rw [upd_ne hNs]; exact fN), ?_, kq y _ ((s1.but st).trans SameBut.set) ⟨n0, z0, upd_same, hn0, hz0, hz1⟩ (hy.but SameBut.set est upd_same)⟩
      have q := atI_nat ey
      rw [show ((d.toNat : Nat) : Int) = d by omega] at q
      exact q
end
end Qp
namespace Qp
open PySem L2
theorem strOk_name {z : Str} (h : nameS z = true) : PyData.strOk z = true := by
  unfold nameS at h
  rw [Bool.and_eq_true] at h
  have h2 := h.2
  rw [List.all_eq_true] at h2
  unfold PyData.strOk
  rw [Array.all_eq_true']
  intro c hc
  have q := h2 c (by simpa using hc)
  unfold lowC at q
  rw [Bool.and_eq_true] at q
  have := of_decide_eq_true q.2
  exact decide_eq_true (by omega)
theorem lay_all : ∀ {ds : List PyData}, (∀ d ∈ ds, PyData.canLay0 d = true) → PyData.canLayAll0 ds = true
  | [], _ => by simp [PyData.canLayAll0]
  | d :: ds, h => by
    have ih := lay_all (ds := ds) fun y hy => h y (List.mem_cons_of_mem _ hy)
    unfold PyData.canLayAll0
    rw [h d List.mem_cons_self, ih]
    rfl
theorem depth_all : ∀ {ds : List PyData} {n : Nat}, (∀ d ∈ ds, PyData.depth d ≤ n) → PyData.depthAll ds ≤ n
  | [], _, _ => by simp [PyData.depthAll]
  | d :: ds, n, h => by
    have ih := depth_all (ds := ds) (n := n) fun y hy => h y (List.mem_cons_of_mem _ hy)
    have h1 := h d List.mem_cons_self
    unfold PyData.depthAll
    omega
theorem shaped_list {ds : List PyData} (h : ∀ d ∈ ds, PyData.canLay0 d = true ∧ PyData.depth d ≤ 9) : SeqAt.shaped (.list ds) = true := by
  unfold SeqAt.shaped
  rw [Bool.and_eq_true]
  refine ⟨?_, decide_eq_true ?_⟩
  · unfold PyData.canLay0
    exact lay_all fun d hd => (h d hd).1
  · have := depth_all (n := 9) fun d hd => (h d hd).2
    simp only [PyData.depth]
    omega
theorem str_data {z : Str} (h : nameS z = true) : PyData.canLay0 (.str z) = true ∧ PyData.depth (.str z) ≤ 9 := by
  constructor
  · unfold PyData.canLay0
    exact strOk_name h
  · simp [PyData.depth]
theorem pair_data {p : Str × Str} (h1 : nameS p.1 = true) (h2 : nameS p.2 = true) : PyData.canLay0 (.tuple [.str p.1, .str p.2]) = true ∧ PyData.depth (.tuple [.str p.1, .str p.2]) ≤ 9 := by
  constructor
  · unfold PyData.canLay0
    exact lay_all fun d hd => by
      rcases List.mem_cons.mp hd with e | hd
      · rw [e]; exact (str_data h1).1
      · have e : d = .str p.2 := by simpa using hd
        rw [e]; exact (str_data h2).1
  · simp [PyData.depth, PyData.depthAll]
theorem dp_strs {K : PySem.W.Frag} {H : Hp} : ∀ zs : List Str, DpAll K H (zs.map V.str) (zs.map PyData.str)
  | [] => .nil
  | z :: zs => .cons (.str z) (dp_strs zs)
theorem dp_rows {K : PySem.W.Frag} {H : Hp} {l : Addr} {ws : Str → List Str} {k : V → Str} {m : V → Addr} : ∀ {ys : List V}, (∀ y ∈ ys, ∃ t, y = .ref t ∧ H t = some (.tup [.str (k y), .ref (m y)]) ∧ H (m y) = some (lstO (ws (k y))) ∧ m y ≠ l) →
    DpAll K H ys ((ys.map k).map fun a => PyData.tuple [.str a, .list ((ws a).map PyData.str)])
  | [], _ => .nil
  | y :: ys, h => by
    obtain ⟨t, e1, e2, e3, _⟩ := h y List.mem_cons_self
    have ih := dp_rows (K := K) (l := l) (ws := ws) (k := k) (m := m) (ys := ys) fun z hz => h z (List.mem_cons_of_mem _ hz)
    refine .cons ?_ ih
    subst e1
    exact .tup (SqT.of e2) (.cons (.str _) (.cons (.lst (SqL.of e3) (dp_strs _)) .nil))
theorem row_data {a : Str} {ws : List Str} (h1 : nameS a = true) (h2 : ∀ z ∈ ws, nameS z = true) : PyData.canLay0 (.tuple [.str a, .list (ws.map PyData.str)]) = true ∧ PyData.depth (.tuple [.str a, .list (ws.map PyData.str)]) ≤ 9 := by
  have hl : ∀ d ∈ ws.map PyData.str, PyData.canLay0 d = true ∧ PyData.depth d ≤ 0 := fun d hd => by
    obtain ⟨z, hz, rfl⟩ := List.mem_map.mp hd
    exact ⟨(str_data (h2 z hz)).1, by simp [PyData.depth]⟩
  have hd := depth_all (n := 0) fun d m => (hl d m).2
  constructor
  · unfold PyData.canLay0
    exact lay_all fun d hd => by
      rcases List.mem_cons.mp hd with e | hd
      · rw [e]; exact (str_data h1).1
      · have e : d = .list (ws.map PyData.str) := by simpa using hd
        rw [e]
        unfold PyData.canLay0
        exact lay_all fun d m => (hl d m).1
  · simp only [PyData.depth, PyData.depthAll]
    omega
section
variable {P : Program} {w : World} {K : PySem.W.Frag} {mg : Str → Option Value} {base : Heap}
/-- _law_row -/
def spRow (K : PySem.W.Frag) : Sp := fun vs H Q _ => ∃ (a b : Addr) (xs ys : List V) (ds : List PyData), vs = [.ref a, .ref b] ∧ H a = some (.lst xs) ∧ H b = some (.lst ys) ∧ DpAll K H xs ds ∧ DpAll K H ys ds ∧ (∀ d ∈ ds, PyData.canLay0 d = true ∧ PyData.depth d ≤ 9) ∧ Q (.bl true) H
theorem ok_row {f : Addr} {fd : FuncData} (F : Fun K "_law_row" "_law_row" sLrow f fd) (B : Bl mg) : FnOk P w K mg base CX0 1 f fd ["_law_actual", "_law_due_here"] (spRow K) := by
  refine F.ok scLrow (fun vs H Q E h => ?_) (fun cdv A outer s H vs Q E hr h => ?_)
  · obtain ⟨a, b, xs, ys, ds, rfl, _⟩ := h
    rfl
  · obtain ⟨a, b, xs, ys, ds, rfl, ha, hb, dx, dy, hs, kq⟩ := h
    refine ⟨_, pss_one (ps_ret (pe_and (pe_isi kit_list B.isi B.lst (pv 0)) (pe_one (pe_cmpR (op_eqD hr.units) (pv 0) (pv 1) (nomark _))))), ?_⟩
    refine ⟨_, rfl, _, .lst, rfl, .lst ha, true, rfl, iteT ⟨_, rfl, _, rfl, .list ds, .list ds, .lst (SqL.of ha) dx, .lst (SqL.of hb) dy, shaped_list hs, shaped_list hs, ?_⟩⟩
    rw [SeqAt.eqv_refl _ (SeqAt.canLay_of_shaped (shaped_list hs))]
    exact kq
/-- two such lists of the same rows -/
theorem row_rows {H : Hp} {l1 l2 : Addr} {ns : List Str} {ws : Str → List Str} {Q : VK} {E : XK} (h1 : MRows H l1 ns ws) (h2 : MRows H l2 ns ws) (hn : ∀ a ∈ ns, nameS a = true ∧ ∀ z ∈ ws a, nameS z = true) (kq : Q (.bl true) H) : spRow K [.ref l1, .ref l2] H Q E := by
  obtain ⟨y1, k1, m1, e1, q1, r1⟩ := h1
  obtain ⟨y2, k2, m2, e2, q2, r2⟩ := h2
  refine ⟨l1, l2, y1, y2, ns.map fun a => PyData.tuple [.str a, .list ((ws a).map PyData.str)], rfl, e1, e2, ?_, ?_, fun d hd => ?_, kq⟩
  · rw [← r1]
    exact dp_rows q1
  · rw [← r2]
    exact dp_rows q2
  · obtain ⟨a, ha, rfl⟩ := List.mem_map.mp hd
    exact row_data (hn a ha).1 (hn a ha).2
end
end Qp
namespace L2
open PySem PySem.Spec PyProof.Rows
section
variable {X : Cx} {CX : CXT} {k : Nat} {f C : Addr} {fd : FuncData} {ps : List Str} {sp : Sp} {dvs : List V} {ds : List Value} {E : St → XK} {x : Str} {p pos : Pos} {e : Expr} {es : List Expr} {t : TA}
/-- C(..), what is raised wished for at the caller's slots -/
def tMakeS (C : Addr) (sp : Sp) (dvs : List V) (E : St → XK) (t : TA) : TE := fun σ H Q => t σ H fun vs H1 => ∀ x dx, H1 x = none → H1 dx = none → dx ≠ x →
  sp (.ref x :: (vs ++ dvs)) (upd (upd H1 dx (.own x)) x (.ins C dx [])) (fun v H2 => v = .non ∧ Q (.ref x) H2) (E σ)
theorem run_makeS {pins : List (Addr × Obj)} {σ : St} {H : Hp} {s : Shared} {Q : VK} {us : List Value} {vs : List V} (M : Mk X.K C f) (F : FnOk X.prog X.w X.K X.mg X.base CX k f fd ps sp) (hr : Room (k + 1) X.A) (hb : Binds X.K fd ps ds) (hd : Vals dvs ds)
    (hx : ∀ σ, PassesAt CX X σ (E σ)) (I : Inv X pins σ H s) (r : Vals vs us)
    (h : ∀ x dx, H x = none → H dx = none → dx ≠ x → sp (.ref x :: (vs ++ dvs)) (upd (upd H dx (.own x)) x (.ins C dx [])) (fun v H2 => v = .non ∧ Q (.ref x) H2) (E σ)) :
    wpAny (model X.prog X.w) X.A (call (.ref C) us) (EP X pins σ Q) X.xe s := by
  have hq := h (s.heap.objs.size + 1) s.heap.objs.size (I.hok.fresh (Nat.le_succ _)) (I.hok.fresh (Nat.le_refl _)) (Nat.ne_of_lt (Nat.lt_succ_self _))
  have I2 := Inv.made (C := C) I
  have r2 : Vals (V.ref (s.heap.objs.size + 1) :: (vs ++ dvs)) (Value.ref (s.heap.objs.size + 1) :: (us ++ ds)) := .cons rfl (r.append hd)
  have hl : (Value.ref (s.heap.objs.size + 1) :: us ++ ds).length = ps.length := by
    have e := r2.length
    rw [F.len _ _ _ _ hq] at e
    exact e.symm
  refine wpAny_call (make_map (f := f) I.kIn M.makes M.init (beq_iff_eq.mp M.fn) (codeAny_mono (F.run _ X.stack _ _ ⟨Value.ref (s.heap.objs.size + 1) :: us, []⟩ (Value.ref (s.heap.objs.size + 1) :: (us ++ ds)) _ _ (E σ) (hr.make C us [])
    (I2.env0.make C us []) (hb _ (Value.ref (s.heap.objs.size + 1) :: us) I2.kIn hl) r2 hq) fun r s' hq' => ?_))
  cases r with
  | error e => exact hx σ pins _ _ e s' I2 hq'
  | ok fl =>
    cases fl with
    | ret u =>
      obtain ⟨v, H', I3, rv, ev, q3⟩ := I2.after hq'
      subst ev
      exact ⟨rv, ⟨V.ref (s.heap.objs.size + 1), H', I3, rfl, q3⟩⟩
    | next => exact False.elim hq'
    | brk => exact False.elim hq'
    | cont => exact False.elim hq'
theorem pe_makeS (M : Mk X.K C f) (F : FnOk X.prog X.w X.K X.mg X.base CX k f fd ps sp) (hr : Room (k + 1) X.A) (hg : Gl X x) (hm : X.mg x = some (.ref C)) (hb : Binds X.K fd ps ds) (hd : Vals dvs ds) (hx : ∀ σ, PassesAt CX X σ (E σ))
    (ha : PA X (e :: es) t) (hdb : (x == ("__debug__" : Str)) = false := by decide) (he : starEach (e :: es) X.env = (false, eval e X.env) :: starEach es X.env := by rfl) (hpl : (backTo pos (starEach es X.env)).any (·.1) = false := by rfl) :
    PE X (.Call (.Name x p) (e :: es) [] pos) (tMakeS C sp dvs E t) := by
  refine ⟨fun pins s σ H Q I h => ?_⟩
  refine wpAny_Call_Name_kw (ld_glob I hg hm ?_ hdb)
  refine PySem.W.callWith_K (h₀ := X.base) I.ok.mod.kin M.kp (thn (ha.run pos pins s σ H _ I h) fun us s1 ⟨vs, H1, I1, r, q⟩ => ⟨I1.kIn, ?_⟩) he hpl
  exact run_makeS M F hr hb hd hx I1 r q
end
end L2
namespace Qp
open PySem L2
structure Nm (ns : List Str) : Prop where
  nd : ns.Nodup
  nm : ∀ z ∈ ns, nameS z = true
  len : ns.length ≤ 16
theorem opn_congr {ns : List Str} {ws ws' : Str → List Str} (e : ∀ a ∈ ns, ws' a = ws a) (g : ∀ a ∈ ns, GRow ns a (ws a)) {a : Str} (ha : a ∈ ns) : opn ws' a = opn ws a := by
  unfold opn
  rw [e a ha]
  refine List.filter_congr fun b hb => ?_
  rw [e b ((g a ha).2 b hb).1]
theorem GroupAt.congr {C : Addr} {H : Hp} {p : Addr} {ns : List Str} {ws ws' : Str → List Str} (h : GroupAt C H p ns ws) (e : ∀ a ∈ ns, ws' a = ws a) (g : ∀ a ∈ ns, GRow ns a (ws a)) : GroupAt C H p ns ws' := by
  obtain ⟨dx, a, d1, d2, d3, hp, ha, ⟨a1, e1, r1⟩, ⟨a2, e2, r2⟩, a3, e3, r3⟩ := h
  refine ⟨dx, a, d1, d2, d3, hp, ha, ⟨a1, e1, fun q hq => ?_⟩, ⟨a2, e2, fun q hq => ?_⟩, a3, e3, fun q hq => ?_⟩
  · show H (a1 q) = some (lstO (ws' q)) ∧ _
    rw [e q hq]
    exact r1 q hq
  · show H (a2 q) = some (lstO (opn ws' q)) ∧ _
    rw [opn_congr e g hq]
    exact r2 q hq
  · show H (a3 q) = some (rnkO (opn ws' q)) ∧ _
    rw [opn_congr e g hq]
    exact r3 q hq
theorem lst_int (ss : List Str) (n z : Int) : lstO ss ≠ .lst [.int n, .int z] := by
  intro e
  unfold lstO at e
  have e := HO.lst.inj e
  cases ss with
  | nil => cases e
  | cons x r =>
    rw [List.map_cons] at e
    cases e
theorem RowsG.butS {H H' : Hp} {st : Addr} {n z : Int} (s : SameBut st H H') (hs : H st = some (.lst [.int n, .int z])) {d : Addr} {ps : List Str} {cnt : Str → HO} (R : RowsG H d ps cnt) (hc : ∀ a, cnt a ≠ .lst [.int n, .int z]) : RowsG H' d ps cnt := by
  obtain ⟨ad, e, q⟩ := R
  exact ⟨ad, s _ _ (ne_of e hs (by intro z; cases z)) e, fun a ha => ⟨s _ _ (ne_of (q a ha).1 hs (hc a)) (q a ha).1, (q a ha).2⟩⟩
theorem GroupAt.butS {C : Addr} {H H' : Hp} {st : Addr} {n z : Int} (s : SameBut st H H') (hs : H st = some (.lst [.int n, .int z])) {p : Addr} {ns : List Str} {ws : Str → List Str} (h : GroupAt C H p ns ws) : GroupAt C H' p ns ws := by
  obtain ⟨dx, a, d1, d2, d3, hp, ha, r1, r2, r3⟩ := h
  exact ⟨dx, a, d1, d2, d3, s _ _ (ne_of hp hs (by intro z; cases z)) hp, s _ _ (ne_of ha hs (by intro z; cases z)) ha, RowsG.butS s hs r1 (fun _ => lst_int _ _ _), RowsG.butS s hs r2 (fun _ => lst_int _ _ _), RowsG.butS s hs r3 (fun _ => by intro z; cases z)⟩
theorem tupNs {H : Hp} {T : Addr} {ns : List Str} (h : H T = some (.tup (ns.map V.str))) (hnm : ∀ z ∈ ns, nameS z = true) (hl : ns.length ≤ 16) : TupOf H (.ref T) (some (ns.map V.str)) := by
  refine ⟨.tup, .tup h, T, rfl, h, fun y hy => ?_, by rw [List.length_map]; omega⟩
  obtain ⟨z, hz, rfl⟩ := List.mem_map.mp hy
  have := hnm z hz
  refine GoodE.str ?_
  unfold nameS at this
  rw [Bool.and_eq_true, Bool.and_eq_true] at this
  have := of_decide_eq_true this.1.2
  omega
theorem ns_eq {ns ps : List Str} (e : some (ns.map V.str) = some (ps.map V.str)) : ns = ps := by
  have : unS (some (ns.map V.str)) = unS (some (ps.map V.str)) := by rw [e]
  rw [unS_map, unS_map] at this
  exact this
/-- Group(people, wishes) of good ones -/
theorem gmake {C CB CW p dx T d : Addr} {H : Hp} {ns order : List Str} {ws : Str → List Str} {Q : VK} {E : XK} (hp : H p = some (.ins C dx [])) (hT : H T = some (.tup (ns.map V.str))) (N : Nm ns) (R : RowsG H d order (fun a => lstO (ws a))) (pm : order.Perm ns) (g : ∀ a ∈ ns, GRow ns a (ws a))
    (k : ∀ H', SameBut p H H' → GroupAt C H' p ns ws → Q .non H') : spGI C CB CW [.ref p, .ref T, .ref d] H Q E := by
  obtain ⟨ad, eW, rW⟩ := R
  refine ⟨p, dx, .ref T, .ref d, some (ns.map V.str), .dct, rfl, hp, tupNs hT N.nm N.len, .dct eW, fun i hi => ?_, fun a ps _ ho _ _ _ _ => ⟨fun hk => absurd rfl hk, fun d' kvs ed hd => ?_⟩⟩
  · rw [due_ok N.nd N.nm N.len] at hi
    cases hi
  · cases ed
    obtain rfl : ns = ps := ns_eq ho
    have ek : kvs = order.map fun a => ((Sum.inr a : Key), V.ref (ad a)) := by
      rw [eW] at hd
      cases hd
      rfl
    subst ek
    refine ⟨fun e => ?_, fun _ => ⟨fun q => some ((ws q).map V.str), fun q hq => ⟨_, valV_rows (pm.mem_iff.mpr hq), .lst, .lst (rW q (pm.mem_iff.mpr hq)).1, ad q, rfl, (rW q (pm.mem_iff.mpr hq)).1, fun y hy => ?_⟩, fun _ ws' H6 hws _ sbp hG => ?_, fun ys pre post q hys _ es _ hq => ?_⟩⟩
    · rw [hasB_of pm] at e
      cases e
    · obtain ⟨z, _, rfl⟩ := List.mem_map.mp hy
      exact .flat rfl
    · have ews : ∀ q ∈ ns, ws q = ws' q := fun q hq => by
        have e : (ws q).map V.str = (ws' q).map V.str := Option.some.inj (hws q hq)
        exact ns_eq (by rw [e])
      exact k H6 sbp (hG.congr ews fun a ha => by rw [← ews a ha]; exact g a ha)
    · have h := okW_of (g q (hys.mem_iff.mp (by rw [es]; exact List.mem_append_right _ List.mem_cons_self)))
      have hq' : okW ns q (some ((ws q).map V.str)) = false := hq
      rw [h] at hq'
      cases hq'
end Qp
/-! x == o, x != o, both instances of a class that defs __eq__ (and no __ne__) -/
namespace L2
open PySem PySem.Spec PyProof.Rows
/-- what != asks of an own class that defs no __ne__ -/
structure NeC (K : PySem.W.Frag) (C : Addr) : Prop where
  at_ : PySem.W.findIn K (.ref C) "__ne__" = some (some (.builtin "object.__ne__"))
  mro : PySem.W.subIn K (.ref C) (.type "object") = some true
section
variable {X : Cx} {k : Nat} {f C : Addr} {fd : FuncData} {ps : List Str} {sp : Sp}
theorem run_fnAt' {A' : Around} {pins : List (Addr × Obj)} {σ : St} {H : Hp} {s : Shared} {Q : VK} {us : List Value} {vs : List V} (he : Env0 X.prog X.w X.K X.mg X.base A' X.stack s H) (F : FnOk X.prog X.w X.K X.mg X.base CX0 k f fd ps sp) (hr : Room k A') (hb : Binds X.K fd ps [])
    (I : Inv X pins σ H s) (r : Vals vs us) (h : sp vs H Q E0) {E : Value → Shared → Prop} : wpAny (model X.prog X.w) A' (call (.ref f) us) (EP X pins σ Q) E s := by
  have hl : (us ++ []).length = ps.length := by rw [List.append_nil, ← r.length]; exact F.len _ _ _ _ h
  have hb' := hb s us I.kIn hl
  rw [List.append_nil] at hb'
  refine wpAny_call (codeAny_mono (F.run A' X.stack s H ⟨us, []⟩ us vs Q E0 hr he hb' r h) fun r s' hq => ?_)
  cases r with
  | error e => exact False.elim hq
  | ok fl =>
    cases fl with
    | ret u => exact I.after hq
    | next => exact False.elim hq
    | brk => exact False.elim hq
    | cont => exact False.elim hq
/-- x == y, x != y -/
def rEqO (C : Addr) (sp : Sp) (neg : Bool) : R2 := fun x y H Q => ∃ a b dx dy fs gs, x = .ref a ∧ y = .ref b ∧ H a = some (.ins C dx fs) ∧ H b = some (.ins C dy gs) ∧ sp [x, y] H (fun v H' => ∃ c : Bool, v = .bl c ∧ Q (.bl (if neg = true then !c else c)) H') E0
theorem op_eqO (hm : Meth X.K C "__eq__" f) (F : FnOk X.prog X.w X.K X.mg X.base CX0 k f fd ps sp) (hr : Room k X.A) (hb : Binds X.K fd ps []) : OpR X (compareOp .Eq) (rEqO C sp false) := by
  intro pins s σ H x y v u Q I rx ry h
  obtain ⟨a, b, dx, dy, fs, gs, rfl, rfl, ha, hb', h⟩ := h
  cases rx
  cases ry
  obtain ⟨mA, J, _⟩ := ins_get I.hok ha
  obtain ⟨mB, J', _⟩ := ins_get I.hok hb'
  obtain ⟨od, J, _⟩ := J.look
  obtain ⟨od', J', _⟩ := J'.look
  obtain ⟨m, hF⟩ := I.fr
  show wpAny (model X.prog X.w) X.A (richCompare .Eq (.ref a) (.ref b)) (EP X pins σ Q) X.xe s
  refine PySem.W.cmp_K (op := .Eq) (tb := .ref C) hr.units0 hF I.ok.mod.kin J J'.type (by simp [PySem.W.notFirst]) hm.at_ hm.fn ?_
  refine thn (run_fnAt I.env0 F hr hb I (vs := [V.ref a, V.ref b]) (.cons rfl (.cons rfl .nil)) h) fun u s1 hu => ?_
  obtain ⟨z, H1, I1, rz, c, rfl, q⟩ := hu
  cases rz
  exact ⟨.bl c, H1, I1, rfl, q⟩
theorem check_ne {M : Model} {A : Around} {E : Value → Shared → Prop} {s : Shared} {K : PySem.W.Frag} {x C : Addr} {ox : Obj} {od : Option Obj} {rest : List Value} {Q : Unit → Shared → Prop} (XK : K.In s.heap) (J : PySem.W.InstAt s.heap x ox C od)
    (sb : PySem.W.subIn K (.ref C) (.type "object") = some true) (ha : argsOk "object.__ne__" ⟨.ref x :: rest, []⟩) (hq : Q () s) : wpAny M A (checkBuiltinCall "object.__ne__" ⟨.ref x :: rest, []⟩) Q E s := by
  simp only [checkBuiltinCall, F.cmpKind_ne, F.cmpSplit_ne]
  refine wpAny_bind ?_
  unfold isInstance
  refine wpAny_bind ?_
  refine J.type.here ?_
  refine (PySem.W.looks_subIn XK sb).here ?_
  simp only [Bool.not_true, Bool.false_eq_true, if_false]
  cases hsig : Manifest.signature? "object.__ne__" with
  | none => exact wpAny_pure hq
  | some sig =>
    simp only [argsOk, hsig] at ha
    have h2 : Bind.checkArgs "object.__ne__" sig ⟨.ref x :: rest, []⟩ = pure () := ha
    show wpAny M A (Bind.checkArgs "object.__ne__" sig ⟨.ref x :: rest, []⟩) Q E _
    rw [h2]
    exact wpAny_pure hq
theorem ifBound_ne {M : Model} {A : Around} {E : Value → Shared → Prop} {s : Shared} {K : PySem.W.Frag} {x C : Addr} {ox : Obj} {od : Option Obj} {args : List Value} {Q : Option Value → Shared → Prop} (XK : K.In s.heap) (J : PySem.W.InstAt s.heap x ox C od)
    (hs : PySem.W.findIn K (.ref C) "__ne__" = some (some (.builtin "object.__ne__"))) (h : wpAny M A (call (.builtin "object.__ne__") (.ref x :: args)) (fun v => Q (some v)) E s) : wpAny M A (callSpecialIfBound? (.ref x) "__ne__" args) Q E s := by
  simp only [callSpecialIfBound?, bindSpecialIfBound?]
  refine wpAny_holding (wpAny_bind (wpAny_bind (wpAny_bind (J.type.here ((PySem.W.looks_findIn XK hs).here ?_)))))
  simp only [F.cmp_object.ne.bind]
  refine wpAny_bind (wpAny_askSetting (wpAny_ite ?_))
  have fin : wpAny M A (call (.builtin "object.__ne__") ([.ref x] ++ args) >>= fun v => pure (some v)) Q E s := wpAny_bind (wpAny_mono h (fun v s' h' => wpAny_pure h') fun _ _ h' => h')
  split
  · exact wpAny_bind (wpAny_pure (wpAny_pure fin))
  · exact wpAny_tryCatch (wpAny_bind (wpAny_pure (wpAny_pure fin)))
theorem op_neO (N : NeC X.K C) (hm : Meth X.K C "__eq__" f) (F : FnOk X.prog X.w X.K X.mg X.base CX0 k f fd ps sp) (hr : Room (k + 1) X.A) (hb : Binds X.K fd ps []) : OpR X (compareOp .NotEq) (rEqO C sp true) := by
  intro pins s σ H x y v u Q I rx ry h
  obtain ⟨a, b, dx, dy, fs, gs, rfl, rfl, ha, hb', h⟩ := h
  cases rx
  cases ry
  obtain ⟨mA, J, _⟩ := ins_get I.hok ha
  obtain ⟨mB, J', _⟩ := ins_get I.hok hb'
  obtain ⟨od, J, _⟩ := J.look
  obtain ⟨od', J', _⟩ := J'.look
  have XK := I.kIn
  show wpAny (model X.prog X.w) X.A (richCompare .NotEq (.ref a) (.ref b)) (EP X pins σ Q) X.xe s
  have body : wpAny (model X.prog X.w) X.A.in1 (callSpecialIfBound? (.ref a) "__eq__" [.ref b]) (fun r s' => ∃ c : Bool, r = some (.bool c) ∧ ∃ H', Inv X pins σ H' s' ∧ Q (.bl (!c)) H') X.xe s := by
    refine PySem.W.ifBound_K XK J hm.at_ hm.fn (thn (run_fnAt' I.env0.in1 F hr.in1 hb I (vs := [V.ref a, V.ref b]) (.cons rfl (.cons rfl .nil)) h) fun u s1 hu => ?_)
    obtain ⟨z, H1, I1, rz, c, rfl, q⟩ := hu
    cases rz
    exact ⟨c, rfl, H1, I1, q⟩
  have one : wpAny (model X.prog X.w) X.A (tryCompare (.ref a) "__ne__" (.ref b)) (fun r s' => ∃ v, r = some v ∧ EP X pins σ Q v s') X.xe s := by
    unfold tryCompare
    refine wpAny_bind (ifBound_ne XK J N.at_ (wpAny_call (codeAny_call_builtin PySem.F.cmp_object.ne.plain PySem.F.cmpEntry_ne (check_ne XK J N.mro (PySem.F.cmpArgs_ne _ _) ?_))))
    unfold Builtin.«object.__ne__»
    repeat (first | with_reducible refine wpAny_cRoomFor hr.in1.units0 ?_ | with_reducible refine thn body (fun r s' hc => ?_) | wp_step)
    obtain ⟨c, rfl, H1, I1, q⟩ := hc
    dsimp only
    refine wpAny_bind (wpAny_truthy_bool ?_)
    refine wpAny_pure ?_
    exact wpAny_pure ⟨_, rfl, .bl (!c), H1, I1, rfl, q⟩
  unfold richCompare
  simp only [oneThing_ref]
  refine wpAny_holding (wpAny_bind (wpAny_cRoomFor hr.units0 ?_))
  refine wpAny_bind (J.type.here (wpAny_bind (J'.type.here ?_)))
  split
  · rename_i q
    simp at q
  · refine wpAny_bind (wpAny_pure ?_)
    simp only [Bool.false_eq_true, if_false]
    refine wpAny_bind (wpAny_mono one (fun r s' z => ?_) fun _ _ e => e)
    obtain ⟨v, rfl, hq⟩ := z
    exact wpAny_pure hq
end
end L2
/-! o.m(..), what is raised wished for at the caller's slots; isinstance(x, list) of what is no list, whatever it is -/
namespace L2
open PySem PySem.Spec PyProof.Rows
section
variable {X : Cx} {CX : CXT} {k : Nat} {f C : Addr} {fd : FuncData} {ps : List Str} {sp : Sp} {E : St → XK} {m : Str} {apos pos : Pos} {o e : Expr} {es : List Expr} {ta : TE} {t : TA}
theorem run_fnSl {pins : List (Addr × Obj)} {σ : St} {H : Hp} {s : Shared} {Q : VK} {us : List Value} {vs : List V} (F : FnOk X.prog X.w X.K X.mg X.base CX k f fd ps sp) (hr : Room k X.A) (hb : Binds X.K fd ps []) (hx : ∀ σ, PassesAt CX X σ (E σ))
    (I : Inv X pins σ H s) (r : Vals vs us) (h : sp vs H Q (E σ)) : wpAny (model X.prog X.w) X.A (call (.ref f) us) (EP X pins σ Q) X.xe s := by
  have hl : (us ++ []).length = ps.length := by rw [List.append_nil, ← r.length]; exact F.len _ _ _ _ h
  have hb' := hb s us I.kIn hl
  rw [List.append_nil] at hb'
  refine wpAny_call (codeAny_mono (F.run X.A X.stack s H ⟨us, []⟩ us vs Q (E σ) hr I.env0 hb' r h) fun z s' hq => ?_)
  cases z with
  | error e => exact hx σ pins _ _ e s' I hq
  | ok fl =>
    cases fl with
    | ret u => exact I.after hq
    | next => exact False.elim hq
    | brk => exact False.elim hq
    | cont => exact False.elim hq
def tMethAt (C : Addr) (m : Str) (sp : Sp) (E : St → XK) (ta : TE) (t : TA) : TE := fun σ H Q => ta σ H fun x H1 => ∃ a dx fs, x = .ref a ∧ H1 a = some (.ins C dx fs) ∧ fs.lookup m = none ∧ t σ H1 fun vs H2 => sp (.ref a :: vs) H2 Q (E σ)
theorem pe_methAt {pl : Sem Bool} (he : PE X o ta) (c : Cls X.K C) (hm : Meth X.K C m f) (F : FnOk X.prog X.w X.K X.mg X.base CX k f fd ps sp) (hr : Room k X.A) (hb : Binds X.K fd ps []) (hx : ∀ σ, PassesAt CX X σ (E σ)) (ha : PA X (e :: es) t)
    (hst : starEach (e :: es) X.env = (false, eval e X.env) :: starEach es X.env := by rfl) (hpl : (backTo pos (starEach es X.env)).any (·.1) = false := by rfl)
    (ht : eval (.Call (.Attribute o m apos) (e :: es) [] pos) X.env = (eval o X.env >>= fun ov => standAt apos.atName >>= fun _ => holding [ov] (getMethod ov m pl) >>= fun (f, first) => callWith pos f first (backTo pos (starEach (e :: es) X.env)) (backToKw pos (keywordEach [] X.env))) := by rfl) :
    PE X (.Call (.Attribute o m apos) (e :: es) [] pos) (tMethAt C m sp E ta t) := by
  refine ⟨fun pins s σ H Q I h => ?_⟩
  refine PySem.W.methodCall_KW (pl := pl) (thn (he.run pins s σ H _ I h) fun u s1 hu => ?_) ht
  obtain ⟨x, H1, I1, rx, a, dx, fs, rfl, ea, l, q⟩ := hu
  obtain rfl : u = Value.ref a := rx
  refine getmeth_ok I1 ea c hm l ?_
  refine PySem.W.callWith_K (first := [.ref a]) (h₀ := X.base) I.ok.mod.kin hm.kp (thn (ha.run pos pins s1 σ H1 _ I1 q) fun us s2 hu => ?_) hst hpl
  obtain ⟨vs, H2, I2, r, q2⟩ := hu
  exact ⟨I2.kIn, run_fnSl (us := .ref a :: us) (vs := .ref a :: vs) F hr hb hx I2 (.cons rfl r) q2⟩
end
end L2
namespace Qp
open PySem L2
theorem eqvAll_strs : ∀ xs ys : List Str, PyData.eqvAll (xs.map PyData.str) (ys.map PyData.str) = decide (xs = ys)
  | [], [] => rfl
  | [], y :: ys => by simp [PyData.eqvAll]
  | x :: xs, [] => by simp [PyData.eqvAll]
  | x :: xs, y :: ys => by
    have ih := eqvAll_strs xs ys
    rw [List.map_cons, List.map_cons]
    unfold PyData.eqvAll
    rw [ih]
    unfold PyData.eqv
    by_cases h1 : x = y
    · subst h1
      by_cases h2 : xs = ys
      · subst h2; simp
      · simp [h2]
    · simp [h1]
theorem shaped_names {zs : List Str} (h : ∀ z ∈ zs, nameS z = true) : SeqAt.shaped (.list (zs.map PyData.str)) = true := shaped_list fun d hd => by
  obtain ⟨z, hz, rfl⟩ := List.mem_map.mp hd
  exact str_data (h z hz)
theorem shaped_tupn {zs : List Str} (h : ∀ z ∈ zs, nameS z = true) : SeqAt.shaped (.tuple (zs.map PyData.str)) = true := by
  have q := shaped_names h
  unfold SeqAt.shaped at q ⊢
  rw [Bool.and_eq_true] at q ⊢
  refine ⟨?_, ?_⟩
  · have := q.1
    unfold PyData.canLay0 at this ⊢
    exact this
  · have := of_decide_eq_true q.2
    simp only [PyData.depth] at this
    refine decide_eq_true ?_
    simp only [PyData.depth]
    exact this
theorem canLay_names {zs : List Str} (h : ∀ z ∈ zs, nameS z = true) : PyData.canLay0 (.list (zs.map PyData.str)) = true := by
  have q := shaped_names h
  unfold SeqAt.shaped at q
  rw [Bool.and_eq_true] at q
  exact q.1
theorem depth_names (zs : List Str) : PyData.depth (.list (zs.map PyData.str)) ≤ 10 := by
  have := depth_all (ds := zs.map PyData.str) (n := 1) fun d hd => by
    obtain ⟨z, hz, rfl⟩ := List.mem_map.mp hd
    simp [PyData.depth]
  simp only [PyData.depth]
  omega
/-- the answer of == of two dicts of lists of names -/
def eqRows (ps qs : List Str) (ws vs : Str → List Str) : Bool := decide (ps.length = qs.length) && ps.all fun p => decide (p ∈ qs) && decide (ws p = vs p)
def allN (ps : List Str) (ws : Str → List Str) : Prop := ∀ p ∈ ps, ∀ z ∈ ws p, nameS z = true
section
variable {X : Cx} {pins : List (Addr × Obj)} {σ : St} {H : Hp} {s : Shared}
theorem hits_rows (I : Inv X pins σ H s) {A : Around} (hu : A.units + 20 < cLine) {qs : List Str} {vs : Str → List Str} {be : Str → Addr} (hq : ∀ q ∈ qs, H (be q) = some (lstO (vs q))) (nq : allN qs vs) {ad : Str → Addr} {ws : Str → List Str}
    {vb : List (Key × Value)} (rb : KV (qs.map fun q => ((Sum.inr q : Key), V.ref (be q))) vb) : ∀ {ps : List Str} {va : List (Key × Value)}, (∀ p ∈ ps, H (ad p) = some (lstO (ws p))) → allN ps ws → KV (ps.map fun p => ((Sum.inr p : Key), V.ref (ad p))) va →
      PySem.W.KeqHitsP X.prog X.w A s vb va (ps.all fun p => decide (p ∈ qs) && decide (ws p = vs p))
  | [], va, _, _, ra => by
    unfold KV at ra
    cases ra
    exact .nil
  | p :: ps, va, hp, np, ra => by
    unfold KV at ra
    rw [List.map_cons] at ra
    cases ra with
    | @cons _ q _ va' h t =>
      obtain ⟨h1, h2⟩ := h
      obtain ⟨key, v⟩ := q
      have h1' : (Sum.inr p : Key) = key := h1
      subst h1'
      have h2' : v = Value.ref (ad p) := h2
      subst h2'
      have ih := hits_rows I hu hq nq rb (ps := ps) (va := va') (fun x hx => hp x (List.mem_cons_of_mem _ hx)) (fun x hx => np x (List.mem_cons_of_mem _ hx)) t
      rw [List.all_cons]
      have rr : RelO (valV (qs.map fun q => ((Sum.inr q : Key), V.ref (be q))) (Sum.inr p)) (valueAt vb (Sum.inr p)) := rb.val (Sum.inr p)
      by_cases hm : p ∈ qs
      · rw [valV_rows hm] at rr
        obtain ⟨y, hy, ry⟩ := rr.some_of
        have ry' : y = Value.ref (be p) := ry
        subst ry'
        rw [decide_eq_true hm, Bool.true_and]
        refine .hit hy ?_ ih
        have d1 : Dp X.K H (.ref (ad p)) (.list ((ws p).map PyData.str)) := .lst (SqL.of (hp p List.mem_cons_self)) (dp_strs _)
        have d2 : Dp X.K H (.ref (be p)) (.list ((vs p).map PyData.str)) := .lst (SqL.of (hq p hm)) (dp_strs _)
        obtain ⟨as, r1⟩ := Dp.reads I _ _ _ d1 (show RelV (.ref (ad p)) (.ref (ad p)) from rfl)
        obtain ⟨bs, r2⟩ := Dp.reads I _ _ _ d2 (show RelV (.ref (be p)) (.ref (be p)) from rfl)
        have e := SeqAt.eqAt_reads _ _ A s _ _ as bs r1 r2 (canLay_names (np p List.mem_cons_self)) (canLay_names (nq p hm)) (by
          have := depth_names (ws p)
          have h3 : min (PyData.depth (.list ((ws p).map PyData.str))) (PyData.depth (.list ((vs p).map PyData.str))) ≤ PyData.depth (.list ((ws p).map PyData.str)) := Nat.min_le_left _ _
          omega)
        have e2 : PyData.eqv (.list ((ws p).map PyData.str)) (.list ((vs p).map PyData.str)) = decide (ws p = vs p) := by
          unfold PyData.eqv
          exact eqvAll_strs _ _
        rw [e2] at e
        exact e.eqP
      · rw [valV_rows_none hm] at rr
        rw [decide_eq_false hm, Bool.false_and, Bool.false_and]
        refine .miss ?_
        exact rr.none_of
/-- == of two dicts of lists of names -/
def rEqR : R2 := fun x y H Q => ∃ (a b : Addr) (ps qs : List Str) (ws vs : Str → List Str), x = .ref a ∧ y = .ref b ∧ RowsG H a ps (fun z => lstO (ws z)) ∧ RowsG H b qs (fun z => lstO (vs z)) ∧ allN ps ws ∧ allN qs vs ∧ Q (.bl (eqRows ps qs ws vs)) H
theorem op_eqR (hu : X.A.units + 64 < cLine) : OpR X (compareOp .Eq) rEqR := by
  intro pins s σ H x y v u Q I rx ry h
  obtain ⟨a, b, ps, qs, ws, vs, rfl, rfl, ⟨ad, ea, pa⟩, ⟨be, eb, pb⟩, na, nb, q⟩ := h
  obtain rfl : v = Value.ref a := rx
  obtain rfl : u = Value.ref b := ry
  obtain ⟨_, ya, va, ra, da⟩ := (show ObjOk X.prog X.w H s.heap a (.dK _) from I.hok a _ ea)
  obtain ⟨_, yb, vb, rb, db⟩ := (show ObjOk X.prog X.w H s.heap b (.dK _) from I.hok b _ eb)
  have e1 : va.length = ps.length := by rw [← ra.length, List.length_map]
  have e2 : vb.length = qs.length := by rw [← rb.length, List.length_map]
  show wpAny (model X.prog X.w) X.A (richCompare .Eq (.ref a) (.ref b)) (EP X pins σ Q) X.xe s
  refine PySem.W.rcP_dicts (knd := mixKind X.prog X.w) ya yb da db (by omega) (fun _ => hits_rows I (A := X.A.in1) (by show X.A.units + 1 + 20 < cLine; omega) (fun q hq => (pb q hq).1) nb rb (fun p hp => (pa p hp).1) na ra) _ _ ?_
  refine ⟨.bl (eqRows ps qs ws vs), H, I, ?_, q⟩
  show Value.bool _ = Value.bool _
  unfold eqRows
  rw [e1, e2]
  congr 1
end
end Qp
namespace Qp
open PySem L2
open C8 (InsC call_isC pe_gc)
section
variable {P : Program} {w : World} {K : PySem.W.Frag} {mg : Str → Option Value} {base : Heap}
def eqG (ps qs : List Str) (ws vs : Str → List Str) : Bool := decide (ps = qs) && ps.all fun p => decide (ws p = vs p)
theorem eqRows_self {ps : List Str} {ws vs : Str → List Str} : eqRows ps ps ws vs = ps.all fun p => decide (ws p = vs p) := by
  unfold eqRows
  rw [decide_eq_true rfl, Bool.true_and]
  rw [Bool.eq_iff_iff, List.all_eq_true, List.all_eq_true]
  constructor
  · intro h p hp
    have := h p hp
    rw [Bool.and_eq_true] at this
    exact this.2
  · intro h p hp
    rw [decide_eq_true hp, Bool.true_and]
    exact h p hp
/-- Group.__eq__ of two groups -/
def spEqG (C : Addr) : Sp := fun vs H Q _ => ∃ (p q : Addr) (ps qs : List Str) (ws us : Str → List Str), vs = [.ref p, .ref q] ∧ GroupAt C H p ps ws ∧ GroupAt C H q qs us ∧ (∀ z ∈ ps, nameS z = true) ∧ (∀ z ∈ qs, nameS z = true) ∧ allN ps ws ∧ allN qs us ∧ Q (.bl (eqG ps qs ws us)) H
theorem ok_eqg {f C : Addr} {fd : FuncData} (F : Fun K "__eq__" "Group.__eq__" sGroupeq f fd) (B : Bl mg) (T : GTxt K mg C) (IC : InsC K C) : FnOk P w K mg base CX0 1 f fd ["self", "other"] (spEqG C) := by
  refine F.ok scGroupeq (fun vs H Q E h => ?_) (fun cdv A outer s H vs Q E hr h => ?_)
  · obtain ⟨p, q, ps, qs, ws, us, rfl, _⟩ := h
    rfl
  · obtain ⟨p, q, ps, qs, ws, us, rfl, ⟨dx, a, d1, d2, d3, hp, ha, r1, _⟩, ⟨dy, b, e1, e2, e3, hq, hb, r2, _⟩, np, nq, aw, au, kq⟩ := h
    have hu := hr.units
    refine ⟨_, pss_one (ps_ret (pe_and (pe_callB (call_isC IC) (by rfl) B.isi (by decide +kernel) (pa_cons (pv 1) (pa_cons (pe_gc (v := .ref C) rfl ⟨_, T.mgC, rfl⟩) pa_nil)))
      (pe_and (pe_cmpR (op_eqD hu) (pe_fld (pv 0) rfl) (pe_fld (pv 1) rfl) (nomark _)) (pe_one (pe_cmpR (op_eqR hu) (pe_fld (pv 0) rfl) (pe_fld (pv 1) rfl) (nomark _)))))), ?_⟩
    refine ⟨_, rfl, q, dy, _, rfl, hq, true, rfl, iteT ?_⟩
    refine ⟨_, rfl, p, C, dx, _, _, rfl, hp, T.cl, T.n1, gF_people _ _ _ _, _, rfl, q, C, dy, _, _, rfl, hq, T.cl, T.n1, gF_people _ _ _ _, .tuple (ps.map PyData.str), .tuple (qs.map PyData.str), .tup (SqT.of ha) (dp_strs _), .tup (SqT.of hb) (dp_strs _), shaped_tupn np, shaped_tupn nq, ?_⟩
    have e : PyData.eqv (.tuple (ps.map PyData.str)) (.tuple (qs.map PyData.str)) = decide (ps = qs) := by
      unfold PyData.eqv
      exact eqvAll_strs _ _
    rw [e]
    refine ⟨_, rfl, ?_⟩
    by_cases c : ps = qs
    · subst c
      rw [decide_eq_true rfl]
      refine iteT ?_
      refine ⟨_, rfl, p, C, dx, _, _, rfl, hp, T.cl, T.n2, gF_wishes _ _ _ _, _, rfl, q, C, dy, _, _, rfl, hq, T.cl, T.n2, gF_wishes _ _ _ _, d1, e1, ps, ps, ws, us, rfl, rfl, r1, r2, aw, au, ?_⟩
      rw [eqRows_self]
      unfold eqG at kq
      rw [decide_eq_true rfl, Bool.true_and] at kq
      exact kq
    · rw [decide_eq_false c]
      refine iteF ?_
      unfold eqG at kq
      rw [decide_eq_false c, Bool.false_and] at kq
      exact kq
/-- _law_truth of a bool and a bool -/
def spTruth : Sp := fun vs H Q _ => ∃ b c : Bool, vs = [.bl b, .bl c] ∧ Q (.bl (decide (b = c))) H
theorem ok_truth {f : Addr} {fd : FuncData} (F : Fun K "_law_truth" "_law_truth" sLtruth f fd) (B : Bl mg) : FnOk P w K mg base CX0 1 f fd ["_law_actual", "_law_due_here"] spTruth := by
  refine F.ok scLtruth (fun vs H Q E h => ?_) (fun cdv A outer s H vs Q E hr h => ?_)
  · obtain ⟨b, c, rfl, _⟩ := h
    rfl
  · obtain ⟨b, c, rfl, kq⟩ := h
    refine ⟨_, pss_one (ps_ret (pe_and (pe_isi kit_bool B.isi B.bool (pv 0)) (pe_one (pe_cmpR op_eq (pv 0) (pv 1) (nomark _))))), ?_⟩
    refine ⟨_, rfl, _, .bl, rfl, .bl b, true, rfl, iteT ⟨_, rfl, _, rfl, rfl, ?_⟩⟩
    have e : decide (V.bl b = V.bl c) = decide (b = c) := by
      by_cases h : b = c
      · subst h; simp
      · rw [decide_eq_false h, decide_eq_false (fun z => h (V.bl.inj z))]
    rw [e]
    exact kq
end
end Qp
namespace L2
open PySem PySem.Spec PyProof.Rows
theorem rcP_dicts_ne {prog : Program} {w : World} {K : Type} [DecidableEq K] {knd : KeyKind prog w K} {A : Around} {s : Shared} {a b : Addr} {ka kb : List (K × Value)} {r : Bool} (ha : (a == sysModules) = false) (hb : (b == sysModules) = false)
    (da : s.heap.DictOf knd a ka) (db : s.heap.DictOf knd b kb) (hu : A.units < cLine) (hits : ka.length = kb.length → PySem.W.KeqHitsP prog w A.in1 s kb ka r) (E Q : Value → Shared → Prop) (h : Q (.bool (!(ka.length == kb.length && r))) s) : wpAny (model prog w) A (richCompare .NotEq (.ref a) (.ref b)) Q E s := by
  refine wpAny_richCompare_same_room (op := .NotEq) da.typeIs db.typeIs PySem.F.slot_dict_ne (wpAny_call_entry PySem.F.slot_dict_ne da.typeIs PySem.F.entry_dict_ne ?_ (PySem.F.args_dict_ne_2 _ _)) hu
  show wpAny _ _ (Builtin.Dict.dictSlotArgs "__ne__" ⟨[.ref a, .ref b], []⟩ >>= _) _ _ s
  refine wpAny_bind ?_
  unfold Builtin.Dict.dictSlotArgs
  refine wpAny_bind (wpAny_notOrdered_dict da.typeIs ?_)
  show wpAny _ _ (pure (Value.ref a, Value.ref b)) _ _ s
  refine wpAny_pure ?_
  refine wpAny_bind (wpAny_isInstance (T := "dict") db.typeIs PySem.F.sub_dict_dict ?_)
  simp only [Bool.not_true, Bool.false_eq_true, if_false]
  refine wpAny_bind (wpAny_pure (wpAny_bind (wpAny_pure ?_)))
  refine wpAny_bind (PySem.W.samePairsP ha hb da db hits ?_)
  refine wpAny_pure ⟨_, rfl, ?_, ?_⟩
  · exact fun x => nomatch x
  · simpa using h
/-- the keys of a dict of the heap are different -/
theorem valV_nd : ∀ {kvs : List (Key × V)}, (kvs.map (·.1)).Nodup → ∀ p ∈ kvs, valV kvs p.1 = some p.2
  | [], _, p, h => by cases h
  | (k, v) :: r, nd, p, h => by
    rw [List.map_cons, List.nodup_cons] at nd
    rcases List.mem_cons.mp h with e | h
    · subst e
      exact valV_pos rfl
    · have hk : k ≠ p.1 := fun e => nd.1 (by show k ∈ r.map (·.1); rw [e]; exact List.mem_map.mpr ⟨p, h, rfl⟩)
      rw [valV_neg hk]
      exact valV_nd nd.2 p h
section
variable {X : Cx}
/-- != of what is the same, or of a dict and its copy -/
def rNeV : R2 := fun x y H Q => ((∃ k, IsK H x k ∧ k ≠ .dct ∧ x = y) ∨ ∃ a b kvs, x = .ref a ∧ y = .ref b ∧ H a = some (.dK kvs) ∧ H b = some (.dK kvs) ∧ ∀ key v, valV kvs key = some v → ∃ k, IsK H v k) ∧ Q (.bl false) H
theorem op_neV (hu : X.A.units + 64 < cLine) : OpR X (compareOp .NotEq) rNeV := by
  intro pins s σ H x y v u Q I rx ry h
  rcases h with ⟨⟨k, ik, hk, rfl⟩ | ⟨a, b, kvs, rfl, rfl, ha, hb, hk⟩, q⟩
  · have fin : ∀ (r : Bool), r = false → SeqAt.RcNeAt X.A s v u r → wpAny (model X.prog X.w) X.A (compareOp .NotEq v u) (EP X pins σ Q) X.xe s := fun r e key => by
      subst e
      exact key X.prog X.w X.xe _ ⟨.bl false, H, I, rfl, q⟩
    cases ik with
    | non => cases rx; cases ry; exact fin _ rfl SeqAt.RcNeAt.none_none
    | bl b => cases rx; cases ry; exact fin _ (by simp) (SeqAt.RcNeAt.bool_bool _ _)
    | int i =>
      obtain ⟨t1, rfl⟩ := rx
      obtain ⟨t2, rfl⟩ := ry
      exact fin _ (by simp) (SeqAt.RcNeAt.int_int _ _ _ _)
    | str i =>
      obtain ⟨t1, rfl⟩ := rx
      obtain ⟨t2, rfl⟩ := ry
      exact fin _ (by simp) (SeqAt.RcNeAt.str_str _ _ _ _)
    | @lst a xs ha =>
      cases rx; cases ry
      obtain ⟨us, r1, p1, _⟩ := I.list (.inl (.inl ha))
      have e3 : (!(List.range us.toArray.size).all fun _ => true) = false := by
        rw [List.all_eq_true.mpr fun _ _ => rfl]
        rfl
      exact fin _ e3 (SeqAt.RcNeAt.lists (A := X.A) (e := fun _ => true) p1.isList p1.isList rfl (by omega) fun j h1 h2 => SeqAt.EqAt.same _)
    | @tup a xs ha =>
      cases rx; cases ry
      obtain ⟨us, r1, p1, _⟩ := I.tuple (.inl (.inl ha))
      have e3 : (!((List.range (min us.toArray.size us.toArray.size)).all (fun _ => true) && us.toArray.size == us.toArray.size)) = false := by
        rw [List.all_eq_true.mpr fun _ _ => rfl]
        simp
      exact fin _ e3 (SeqAt.RcNeAt.tuples (A := X.A) (e := fun _ => true) p1 p1 (by omega) fun j h1 h2 => SeqAt.EqAt.same _)
    | dct => exact absurd rfl hk
  · obtain rfl : v = Value.ref a := rx
    obtain rfl : u = Value.ref b := ry
    obtain ⟨_, ya, va, ra, da⟩ := (show ObjOk X.prog X.w H s.heap a (.dK _) from I.hok a _ ha)
    obtain ⟨_, yb, vb, rb, db⟩ := (show ObjOk X.prog X.w H s.heap b (.dK _) from I.hok b _ hb)
    have el : va.length = vb.length := by rw [← ra.length, ← rb.length]
    have nd : (kvs.map (·.1)).Nodup := by
      obtain ⟨oa, es, ep, hoa, _, hda, hka, hpa, nd⟩ := id da
      have e := ra.keys
      have e2 : kvs.map (·.1) = va.map (·.1) := e
      rw [e2]
      exact nd
    have ih : ∀ x y v u, (x = y ∧ ∃ k, IsK H x k) → RelV x v → RelV y u → SeqAt.EqP X.prog X.w X.A.in1 s v u true := fun x y v u ⟨e, k, ik⟩ q1 q2 => by
      subst e
      have key : SeqAt.EqAt X.A.in1 s v u true := by
        cases ik with
        | non => exact eqAt_same q1 q2 rfl
        | bl b => exact eqAt_same q1 q2 rfl
        | int i => exact eqAt_same q1 q2 rfl
        | str i => exact eqAt_same q1 q2 rfl
        | lst h => cases q1; cases q2; exact SeqAt.EqAt.same _
        | tup h => cases q1; cases q2; exact SeqAt.EqAt.same _
        | dct h => cases q1; cases q2; exact SeqAt.EqAt.same _
      exact key.eqP
    refine rcP_dicts_ne (knd := mixKind X.prog X.w) ya yb da db (by omega) (fun _ => hits_run (A := X.A.in1) ih rb ra fun p hp => ⟨p.2, valV_nd nd p hp, rfl, hk _ _ (valV_nd nd p hp)⟩) _ _ ?_
    refine ⟨.bl false, H, I, ?_, q⟩
    show Value.bool _ = Value.bool _
    rw [el]
    simp
end
end L2
namespace L2
open PySem PySem.Spec PyProof.Rows
theorem IsK.notD {K : PySem.W.Frag} {H : Hp} {x : V} {k : Kd} (h : IsK H x k) (hk : k ≠ .dct) : NotD K H x := fun H' s => ⟨.type k.ty, (h.same s).tyX, kit_ty (by
  have e := kit_dict k
  have e2 : isaB k "dict" = false := by cases k <;> first | rfl | exact absurd rfl hk
  rw [e2] at e
  exact e)⟩
end L2
namespace Qp
open PySem L2
def leS (a b : Str) : Prop := a.cps.toList ≤ b.cps.toList
theorem rising_pw : ∀ (p : Str) (l : List Str), PyProof.Rows.risingS p l = true → (p :: l).Pairwise leS
  | p, [], _ => List.pairwise_singleton leS p
  | p, x :: r, h => by
    have h' : (!PySem.Spec.ltCps x.cps.toList p.cps.toList && PyProof.Rows.risingS x r) = true := h
    rw [Bool.and_eq_true] at h'
    obtain ⟨h1, h2⟩ := h'
    have ih := rising_pw x r h2
    have hpx : leS p x := by
      rw [PyProof.Rows.ltCps_eq] at h1
      have : ¬ (x.cps.toList < p.cps.toList) := by simpa using h1
      exact List.not_lt.mp this
    refine List.pairwise_cons.mpr ⟨fun y hy => ?_, ih⟩
    rcases List.mem_cons.mp hy with e | hy
    · rw [e]; exact hpx
    · exact List.le_trans hpx ((List.pairwise_cons.mp ih).1 y hy)
theorem sorted_pw {l : List Str} (h : PyProof.Rows.sortedS l = true) : l.Pairwise leS := by
  cases l with
  | nil => exact List.Pairwise.nil
  | cons x r => exact rising_pw x r h
theorem pw_uniq : ∀ {l m : List Str}, l.Pairwise leS → m.Pairwise leS → l.Perm m → l = m
  | [], m, _, _, p => (List.Perm.eq_nil p.symm).symm
  | x :: l, [], _, _, p => absurd p.length_eq (by simp)
  | x :: l, y :: m, hl, hm, p => by
    have h1 : leS y x := by
      rcases List.mem_cons.mp (p.mem_iff.mp (List.mem_cons_self (a := x) (l := l))) with e | q
      · rw [e]; exact List.le_refl _
      · exact (List.pairwise_cons.mp hm).1 x q
    have h2 : leS x y := by
      rcases List.mem_cons.mp (p.mem_iff.mpr (List.mem_cons_self (a := y) (l := m))) with e | q
      · rw [e]; exact List.le_refl _
      · exact (List.pairwise_cons.mp hl).1 y q
    have e : x = y := str_ext (List.le_antisymm h2 h1)
    subst e
    rw [pw_uniq (List.pairwise_cons.mp hl).2 (List.pairwise_cons.mp hm).2 p.cons_inv]
theorem sorted_uniq {ys zs ns : List Str} (h1 : ys.Perm ns) (h2 : zs.Perm ns) (s1 : PyProof.Rows.sortedS ys = true) (s2 : PyProof.Rows.sortedS zs = true) : ys = zs := pw_uniq (sorted_pw s1) (sorted_pw s2) (h1.trans h2.symm)
/-- new names: what they may be -/
def NewV (K : PySem.W.Frag) (H : Hp) (x : V) : Option (List (Key × V)) → Prop
  | none => NotD K H x
  | some kvs => ∃ a, x = .ref a ∧ H a = some (.dK kvs) ∧ ∀ key v, valV kvs key = some v → (∃ k, IsK H v k) ∧ short v
theorem NewV.same {K : PySem.W.Frag} {H H' : Hp} (s : Same H H') {x : V} {o : Option (List (Key × V))} (h : NewV K H x o) : NewV K H' x o := by
  cases o with
  | none => exact NotD.same s h
  | some kvs =>
    obtain ⟨a, e, h1, h2⟩ := h
    exact ⟨a, e, s _ _ h1, fun key v hv => ⟨(h2 key v hv).1.imp fun _ q => q.same s, (h2 key v hv).2⟩⟩
def unV : V → Str
  | .str z => z
  | _ => ""
theorem unV_of {v : V} (h : nameV v = true) : v = .str (unV v) := by
  cases v with
  | str z => rfl
  | _ => cases h
/-- the first of the people whose new name is none or taken -/
def nmFrom (kvs : List (Key × V)) : List Str → List Str → Option Str
  | _, [] => none
  | tk, a :: r => match valV kvs (Sum.inr a) with
    | none => some a
    | some v => if nameV v && !inS v tk then nmFrom kvs (tk ++ [unV v]) r else some a
def fN (kvs : List (Key × V)) (a : Str) : Str := match valV kvs (Sum.inr a) with
  | some v => unV v
  | none => ""
/-- right new names -/
structure Ren (kvs : List (Key × V)) (ns : List Str) : Prop where
  v : ∀ a ∈ ns, valV kvs (Sum.inr a) = some (.str (fN kvs a))
  nm : ∀ a ∈ ns, nameS (fN kvs a) = true
  nd : (ns.map (fN kvs)).Nodup
theorem nm_none {kvs : List (Key × V)} : ∀ {ys tk : List Str}, nmFrom kvs tk ys = none → (∀ a ∈ ys, valV kvs (Sum.inr a) = some (.str (fN kvs a)) ∧ nameS (fN kvs a) = true ∧ fN kvs a ∉ tk) ∧ (ys.map (fN kvs)).Nodup
  | [], tk, _ => ⟨fun _ h => (by cases h), List.nodup_nil⟩
  | a :: r, tk, h => by
    unfold nmFrom at h
    cases e : valV kvs (Sum.inr a) with
    | none => rw [e] at h; cases h
    | some v =>
      rw [e] at h
      simp only at h
      cases c : nameV v && !inS v tk with
      | false => rw [c] at h; cases h
      | true =>
        rw [c, if_pos rfl] at h
        rw [Bool.and_eq_true] at c
        obtain ⟨c1, c2⟩ := c
        obtain ⟨ih1, ih2⟩ := nm_none h
        have ef : fN kvs a = unV v := by unfold fN; rw [e]
        have ev := unV_of c1
        have hn : unV v ∉ tk := fun hm => by
          rw [ev, inS_str, decide_eq_true hm] at c2
          cases c2
        refine ⟨fun b hb => ?_, ?_⟩
        · rcases List.mem_cons.mp hb with rfl | hb
          · rw [ef, e]
            refine ⟨congrArg some ev, ?_, hn⟩
            rw [ev] at c1
            exact c1
          · obtain ⟨q1, q2, q3⟩ := ih1 b hb
            exact ⟨q1, q2, fun hm => q3 (List.mem_append_left _ hm)⟩
        · rw [List.map_cons, List.nodup_cons]
          refine ⟨fun hm => ?_, ih2⟩
          obtain ⟨b, hb, eb⟩ := List.mem_map.mp hm
          exact (ih1 b hb).2.2 (List.mem_append_right _ (by rw [eb, ef]; exact List.mem_singleton.mpr rfl))
theorem nm_of {kvs : List (Key × V)} : ∀ {ys tk : List Str}, (∀ a ∈ ys, valV kvs (Sum.inr a) = some (.str (fN kvs a)) ∧ nameS (fN kvs a) = true ∧ fN kvs a ∉ tk) → (ys.map (fN kvs)).Nodup → nmFrom kvs tk ys = none
  | [], _, _, _ => rfl
  | a :: r, tk, h, nd => by
    rw [List.map_cons, List.nodup_cons] at nd
    obtain ⟨q1, q2, q3⟩ := h a List.mem_cons_self
    unfold nmFrom
    rw [q1]
    simp only
    have c : (nameV (V.str (fN kvs a)) && !inS (V.str (fN kvs a)) tk) = true := by
      rw [inS_str, decide_eq_false q3, Bool.and_eq_true]
      exact ⟨q2, rfl⟩
    rw [c, if_pos rfl]
    refine nm_of (fun b hb => ?_) nd.2
    obtain ⟨p1, p2, p3⟩ := h b (List.mem_cons_of_mem _ hb)
    refine ⟨p1, p2, fun hm => ?_⟩
    rcases List.mem_append.mp hm with hm | hm
    · exact p3 hm
    · have e : fN kvs b = fN kvs a := by simpa [unV] using hm
      exact nd.1 (List.mem_map.mpr ⟨b, hb, e⟩)
theorem nm_step {kvs : List (Key × V)} {ys tk : List Str} : ∀ {pre r : List Str} {a : Str} {v : V}, ys = pre ++ a :: r → nmFrom kvs tk ys = nmFrom kvs (tk ++ pre.map (fN kvs)) (a :: r) → valV kvs (Sum.inr a) = some v → (nameV v && !inS v (tk ++ pre.map (fN kvs))) = true → nmFrom kvs tk ys = nmFrom kvs (tk ++ (pre ++ [a]).map (fN kvs)) r := by
  intro pre r a v _ h e c
  rw [h]
  show (match valV kvs (Sum.inr a) with
    | none => some a
    | some v => if nameV v && !inS v (tk ++ pre.map (fN kvs)) then nmFrom kvs (tk ++ pre.map (fN kvs) ++ [unV v]) r else some a) = _
  rw [e]
  simp only
  rw [c, if_pos rfl]
  have ef : fN kvs a = unV v := by unfold fN; rw [e]
  rw [List.map_append, List.append_assoc, List.map_cons, List.map_nil, ef]
theorem nm_bad {kvs : List (Key × V)} {tk r : List Str} {a : Str} {v : V} (e : valV kvs (Sum.inr a) = some v) (c : (nameV v && !inS v tk) = false) : nmFrom kvs tk (a :: r) = some a := by
  show (match valV kvs (Sum.inr a) with
    | none => some a
    | some v => if nameV v && !inS v tk then nmFrom kvs (tk ++ [unV v]) r else some a) = _
  rw [e]
  simp only
  rw [c]
  rfl
/-- what is due -/
def IsDue (ns : List Str) (r : Option Str) : Option (List (Key × V)) → Prop
  | none => r = some ""
  | some kvs => (hasB kvs ns = false → r = some "") ∧ (hasB kvs ns = true → ∀ ys : List Str, ys.Perm ns → PyProof.Rows.sortedS ys = true → nmFrom kvs [] ys = r)
theorem Ren.of {kvs : List (Key × V)} {ns ys : List Str} (p : ys.Perm ns) (h : nmFrom kvs [] ys = none) : Ren kvs ns := by
  obtain ⟨h1, h2⟩ := nm_none h
  exact ⟨fun a ha => (h1 a (p.mem_iff.mpr ha)).1, fun a ha => (h1 a (p.mem_iff.mpr ha)).2.1, (p.map _).nodup_iff.mp h2⟩
theorem Ren.due {kvs : List (Key × V)} {ns : List Str} (h : Ren kvs ns) (hb : hasB kvs ns = true) : IsDue ns none (some kvs) :=
  ⟨fun e => (by rw [hb] at e; cases e), fun _ ys p _ => nm_of (fun a ha => ⟨h.v a (p.mem_iff.mp ha), h.nm a (p.mem_iff.mp ha), List.not_mem_nil⟩) ((p.map _).nodup_iff.mpr h.nd)⟩
/-- the old name -/
def invN (f : Str → Str) : List Str → Str → Str
  | [], _ => ""
  | a :: r, b => if f a = b then a else invN f r b
theorem inv_f {f : Str → Str} : ∀ {ns : List Str} {a : Str}, (ns.map f).Nodup → a ∈ ns → invN f ns (f a) = a
  | x :: r, a, nd, h => by
    rw [List.map_cons, List.nodup_cons] at nd
    unfold invN
    rcases List.mem_cons.mp h with rfl | h
    · rw [if_pos rfl]
    · rw [if_neg fun e => nd.1 (by rw [e]; exact List.mem_map.mpr ⟨a, h, rfl⟩)]
      exact inv_f nd.2 h
def wsR (f : Str → Str) (ns : List Str) (ws : Str → List Str) (b : Str) : List Str := (ws (invN f ns b)).map f
theorem inj_of {f : Str → Str} {ns : List Str} (nd : (ns.map f).Nodup) {a b : Str} (ha : a ∈ ns) (hb : b ∈ ns) (e : f a = f b) : a = b := by
  rw [← inv_f nd ha, ← inv_f nd hb, e]
theorem wsR_f {f : Str → Str} {ns : List Str} {ws : Str → List Str} (nd : (ns.map f).Nodup) {a : Str} (ha : a ∈ ns) : wsR f ns ws (f a) = (ws a).map f := by
  unfold wsR
  rw [inv_f nd ha]
theorem map_nodup {f : Str → Str} {ns : List Str} (nd : (ns.map f).Nodup) : ∀ {row : List Str}, row.Nodup → (∀ b ∈ row, b ∈ ns) → (row.map f).Nodup
  | [], _, _ => List.nodup_nil
  | a :: r, h, hs => by
    rw [List.nodup_cons] at h
    rw [List.map_cons, List.nodup_cons]
    refine ⟨fun hm => ?_, map_nodup nd h.2 fun b hb => hs b (List.mem_cons_of_mem _ hb)⟩
    obtain ⟨b, hb, e⟩ := List.mem_map.mp hm
    exact h.1 (inj_of nd (hs b (List.mem_cons_of_mem _ hb)) (hs a List.mem_cons_self) e ▸ hb)
theorem wsR_row {f : Str → Str} {ns : List Str} {ws : Str → List Str} (nd : (ns.map f).Nodup) (g : ∀ a ∈ ns, GRow ns a (ws a)) : ∀ b ∈ ns.map f, GRow (ns.map f) b (wsR f ns ws b) := fun b hb => by
  obtain ⟨a, ha, rfl⟩ := List.mem_map.mp hb
  rw [wsR_f nd ha]
  refine ⟨map_nodup nd (g a ha).1 fun b hb => ((g a ha).2 b hb).1, fun c hc => ?_⟩
  obtain ⟨b, hb, rfl⟩ := List.mem_map.mp hc
  obtain ⟨h1, h2⟩ := (g a ha).2 b hb
  exact ⟨List.mem_map.mpr ⟨b, h1, rfl⟩, fun e => h2 (inj_of nd h1 ha e)⟩
theorem ren_nm {kvs : List (Key × V)} {ns : List Str} (R : Ren kvs ns) (n : Nm ns) : Nm (ns.map (fN kvs)) := ⟨R.nd, fun z hz => by
  obtain ⟨a, ha, rfl⟩ := List.mem_map.mp hz
  exact R.nm a ha, by rw [List.length_map]; exact n.len⟩
end Qp
namespace Qp
open PySem L2
section
variable {P : Program} {w : World} {K : PySem.W.Frag} {mg : Str → Option Value} {base : Heap}
theorem abc_mem (c : Nat) : decide (c ∈ ("abcdefghijklmnopqrstuvwxyz" : Str).cps.toList) = lowC c := by
  have e : ("abcdefghijklmnopqrstuvwxyz" : Str).cps.toList = List.range' 97 26 := by decide +kernel
  rw [e, Bool.eq_iff_iff]
  unfold lowC
  rw [Bool.and_eq_true, decide_eq_true_iff, decide_eq_true_iff, decide_eq_true_iff, List.mem_range'_1]
  omega
/-- _law_is_name -/
theorem ok_lisname {f : Addr} {fd : FuncData} (F : Fun K "_law_is_name" "_law_is_name" sLisname f fd) (B : Bl mg) : FnOk P w K mg base CX0 1 f fd ["_law_value_here"] spIsName := by
  refine F.ok scLisname (fun vs H Q E h => ?_) (fun cdv A outer s H vs Q E hr h => ?_)
  · obtain ⟨x, k, rfl, _⟩ := h
    rfl
  · obtain ⟨x, k, rfl, ik, hz, kq⟩ := h
    refine ⟨_, pss_cons (ps_if (PW.pt (pw_or (pt_not (pt_val (pe_isi kit_str B.isi B.str (pv 0)))) (pw_or (pt_cmpR op_lt (pe_callB call_len (by rfl) B.len PySem.boot_len (pa_cons (pv 0) pa_nil)) pe_int (nomark _))
        (pw_or1 (pt_cmpR op_gt (pe_callB call_len (by rfl) B.len PySem.boot_len (pa_cons (pv 0) pa_nil)) pe_int (nomark _)))))) (pss_one (ps_ret pe_bl)) pss_nil)
      (pss_cons (ps_for PassesOwn.never rfl (pi_str (pv 0)) (pg_name (i := 1) scLisname.nd rfl (Or.inl rfl)) (pss_one (ps_if (pt_cmpR op_notIn_sign (pv 1) pe_str (by rfl)) (pss_one (ps_ret pe_bl)) pss_nil)))
      (pss_one (ps_ret pe_bl))), ?_⟩
    have q := kq H (Same.refl H)
    refine ⟨_, rfl, x, k, rfl, ik, _, rfl, ?_⟩
    cases ik with
    | str z =>
      have hl := hz z rfl
      have e2 : sizeLine = 16777216 := sizeLine_eq
      have q : Q (.bl (nameS z)) H := q
      unfold nameS at q
      refine iteF ⟨_, rfl, .str z, z.length, rfl, ⟨by omega, rfl⟩, _, _, rfl, rfl, _, rfl, ite2 (fun h1 => ?_) (fun h1 => ?_)⟩
      · have h2 := of_decide_eq_true h1
        refine iteT ?_
        rw [decide_eq_false (show ¬ 1 ≤ z.length by omega), Bool.false_and, Bool.false_and] at q
        exact q
      · have h2 : ¬ ((z.length : Int) < 1) := fun y => h1 (decide_eq_true y)
        refine ⟨_, rfl, .str z, z.length, rfl, ⟨by omega, rfl⟩, _, _, rfl, rfl, _, rfl, ite2 (fun h3 => ?_) (fun h3 => ?_)⟩
        · have h4 := of_decide_eq_true h3
          rw [decide_eq_false (show ¬ z.length ≤ 8 by omega), Bool.and_false, Bool.false_and] at q
          exact q
        · have h4 : ¬ ((8 : Int) < z.length) := fun y => h3 (decide_eq_true y)
          rw [decide_eq_true (show 1 ≤ z.length by omega), decide_eq_true (show z.length ≤ 8 by omega), Bool.true_and, Bool.true_and] at q
          refine ⟨_, rfl, z, rfl, for_it walk_str (fun i σ H' => ∃ v : Option V, σ = [some (.str z), v] ∧ H' = H ∧ (z.cps.toList.take i).all lowC = true) ⟨none, rfl, rfl, rfl⟩ (fun _ _ _ _ _ => True.intro) ?_ ?_⟩
          · rintro i y σ Hx H1 hi ⟨v, rfl, rfl, hall⟩ ⟨rfl, c, hc, rfl⟩
            have hc' : z.cps.toList[i]? = some c := by rw [Array.getElem?_toList]; exact hc
            refine ⟨_, rfl, c, _, rfl, rfl, _, rfl, ?_⟩
            have em : decide (c ∈ (Str.ofString "abcdefghijklmnopqrstuvwxyz").cps.toList) = lowC c := abc_mem c
            rw [em]
            cases ec : lowC c with
            | false =>
              refine iteT ?_
              have e : z.cps.toList.all lowC = false := by
                rw [List.all_eq_false]
                exact ⟨c, List.mem_of_getElem? hc', by rw [ec]; decide⟩
              rw [e] at q
              exact q
            | true =>
              refine iteF ⟨_, rfl, rfl, ?_⟩
              rw [take_snoc hc', List.all_append, hall]
              simp [ec]
          · rintro σ H1 ⟨v, rfl, rfl, hall⟩
            rw [List.take_of_length_le (by simp)] at hall
            rw [hall] at q
            exact q
    | _ => exact iteT (iteT q)

def vDueS : Option Str → V
  | none => .non
  | some z => .str z
/-- _law_due(names, new) -/
def spDue (K : PySem.W.Frag) : Sp := fun vs H Q _ => ∃ (n : Addr) (x : V) (ns : List Str) (o : Option (List (Key × V))), vs = [.ref n, x] ∧ H n = some (lstO ns) ∧ ns.length ≤ 60 ∧ NewV K H x o ∧
  ∀ r H', IsDue ns r o → (r = none → ∃ kvs, o = some kvs ∧ Ren kvs ns ∧ hasB kvs ns = true) → Same H H' → Q (vDueS r) H'
theorem ok_due {f : Addr} {fd : FuncData} (F : Fun K "_law_due" "_law_due" sLdue f fd) (B : Bl mg) (cI : CF P w K mg base CX0 1 "_law_is_name" ["_law_value_here"] spIsName) : FnOk P w K mg base CX0 2 f fd ["_law_names_here", "_law_new"] (spDue K) := by
  refine F.ok scLdue (fun vs H Q E h => ?_) (fun cdv A outer s H vs Q E hr h => ?_)
  · obtain ⟨n, x, ns, o, rfl, _⟩ := h
    rfl
  · obtain ⟨n, x, ns, o, rfl, hn, hlen, hx, kq⟩ := h
    have hu := hu_of hr
    have hr1 : Room 1 _ := hr.mono (by decide)
    have esz : sizeLine = 16777216 := sizeLine_eq
    refine ⟨_, pss_cons (ps_if (PW.pt (pw_or (pt_not (pt_val (pe_isiD B.isi B.dct (pv 1)))) (pw_or1 (pt_cmpR op_ne (pe_callB call_lenD (by rfl) B.len PySem.boot_len (pa_cons (pv 1) pa_nil)) (pe_callB call_len_seq (by rfl) B.len PySem.boot_len (pa_cons (pv 0) pa_nil)) (nomark _)))))
        (pss_one (ps_ret pe_str)) pss_nil)
      (pss_cons (ps_for PassesOwn.never rfl (pi_list (pv 0)) (pg_name (i := 2) scLdue.nd rfl (Or.inl rfl)) (pss_one (ps_if (pt_cmp (pc_dnotin hu (pv 2) (pv 1)) rfl) (pss_one (ps_ret pe_str)) pss_nil)))
      (pss_cons (ps_set (i := 3) scLdue.nd rfl (Or.inl rfl) (pe_lst pa_nil))
      (pss_cons (ps_for PassesOwn.never rfl (pi_list (pe_callB cr_sortedS (by rfl) B.srt (by decide +kernel) (pa_cons (pv 0) pa_nil))) (pg_name (i := 2) scLdue.nd rfl (Or.inl rfl))
        (pss_cons (ps_if (PW.pt (pw_or (pt_not (pt_val (pe_cf cI hr1 pass0 (pa_cons (pe_dget hu (pv 1) (pv 2) (fun _ _ => rfl)) pa_nil)))) (pw_or1 (pt_cmpR (op_inS hr.units) (pe_dget hu (pv 1) (pv 2) (fun _ _ => rfl)) (pv 3) (by rfl))))) (pss_one (ps_ret (pv 2))) pss_nil)
        (pss_one (ps_expr (pe_bm PySem.F.plainAttrs_list PySem.F.slot_list_append PySem.F.type_list_append mt_append (pv 3) (pa_cons (pe_dget hu (pv 1) (pv 2) (fun _ _ => rfl)) pa_nil))))))
      (pss_one (ps_ret pe_non))))), ?_⟩
    cases o with
    | none => exact ⟨_, rfl, .inr ⟨x, rfl, hx, _, rfl, iteT (iteT (kq (some "") H rfl (fun h => by cases h) (Same.refl H)))⟩⟩
    | some kvs =>
      obtain ⟨d, rfl, hd, hv⟩ := hx
      have kn : hasB kvs ns = false → ∀ H', Same H H' → Q (.str "") H' := fun e H' s => kq (some "") H' ⟨fun _ => rfl, fun z => (by rw [e] at z; cases z)⟩ (fun h => by cases h) s
      refine ⟨_, rfl, .inl ⟨.ref d, .dct, rfl, .dct hd, _, rfl, iteF ?_⟩⟩
      refine ⟨_, rfl, d, kvs, rfl, hd, _, rfl, n, _, rfl, .inl (SqL.of hn), rfl, _, rfl, ?_⟩
      by_cases hc : kvs.length = ns.length
      · refine (if_neg ?_).mpr ?_
        · show ¬ (!decide (V.int (kvs.length : Int) = V.int ((ns.map V.str).length : Int))) = true
          rw [List.length_map, hc, decide_eq_true rfl]
          decide
        refine ⟨_, rfl, n, rfl, ⟨_, SqL.of hn⟩, for_it walk_list (fun i σ H' => ∃ v : Option V, σ = [some (.ref n), some (.ref d), v, none] ∧ H' = H ∧ ∀ z ∈ ns.take i, (valV kvs (Sum.inr z)).isSome = true) ⟨none, rfl, rfl, fun z hz => by simp at hz⟩ (fun i σ H' _ ⟨_, _, e, _⟩ => by rw [e]; exact SqL.of hn) ?_ ?_⟩
        · rintro i y σ Hx H1 hi ⟨v, rfl, rfl, hall⟩ ⟨rfl, hy⟩
          rw [List.getElem?_map] at hy
          cases ea : ns[i]? with
          | none => rw [ea] at hy; cases hy
          | some a =>
            rw [ea] at hy
            cases hy
            refine ⟨_, rfl, _, rfl, d, _, rfl, DGet.k (k := Sum.inr a) hd, _, rfl, ?_⟩
            cases eb : (valV kvs (Sum.inr a)).isSome with
            | true =>
              refine iteF ⟨_, rfl, rfl, fun z hz => ?_⟩
              rw [take_snoc ea] at hz
              rcases List.mem_append.mp hz with q | q
              · exact hall z q
              · have : z = a := by simpa using q
                rw [this]; exact eb
            | false =>
              refine iteT (kn ?_ H1 (Same.refl _))
              unfold hasB
              rw [Bool.and_eq_false_iff]
              refine .inr ?_
              rw [List.all_eq_false]
              exact ⟨a, List.mem_of_getElem? ea, by rw [eb]; decide⟩
        · rintro σ H1 ⟨v, rfl, rfl, hall⟩
          rw [List.length_map, List.take_of_length_le (Nat.le_refl _)] at hall
          have hB : hasB kvs ns = true := by
            unfold hasB
            rw [decide_eq_true hc, Bool.true_and, List.all_eq_true]
            exact hall
          refine ⟨by show 0 ≤ sizeLine; exact Nat.zero_le _, fun R hR => ?_⟩
          have s0 : Same H1 (upd H1 R (.lst [])) := Same.new hR
          have eR : (upd H1 R (.lst [])) R = some (lstO []) := upd_same
          generalize upd H1 R (.lst []) = H2 at s0 eR
          refine ⟨_, rfl, n, ns, rfl, SqL.of (s0 _ _ hn), by omega, fun ys l hp hs hl => ⟨l, rfl, ⟨_, SqL.of upd_same⟩, ?_⟩⟩
          have s1 : Same H2 (upd H2 l (.lst (ys.map V.str))) := Same.new hl
          have el : (upd H2 l (.lst (ys.map V.str))) l = some (.lst (ys.map V.str)) := upd_same
          have eR1 := s1 _ _ eR
          have nlR : l ≠ R := fun z => by rw [z, eR] at hl; cases hl
          generalize upd H2 l (.lst (ys.map V.str)) = H3 at s1 el eR1
          have hyl : ys.length ≤ 60 := by rw [hp.length_eq]; exact hlen
          have s13 : Same H1 H3 := s0.trans s1
          refine for_it (walk_list (xs := ys.map V.str)) (fun i σ H' => ∃ (v2 : Option V), σ = [some (.ref n), some (.ref d), v2, some (.ref R)] ∧ SameBut R H3 H' ∧ Same H1 H' ∧ H' R = some (lstO ((ys.take i).map (fN kvs))) ∧ nmFrom kvs [] ys = nmFrom kvs ([] ++ (ys.take i).map (fN kvs)) (ys.drop i))
            ⟨_, rfl, (Same.refl _).but R, s13, eR1, rfl⟩ (fun i σ H' _ ⟨_, _, s3, _⟩ => SqL.of (s3 _ _ nlR el)) ?_ ?_
          · rintro i y σ Hx H4 hi ⟨v2, rfl, sb, s4, eR4, hok⟩ ⟨rfl, hy⟩
            rw [List.length_map] at hi
            rw [List.getElem?_map] at hy
            cases ep : ys[i]? with
            | none => rw [ep] at hy; cases hy
            | some p =>
              rw [ep] at hy
              cases hy
              have hpm : p ∈ ns := hp.mem_iff.mp (List.mem_of_getElem? ep)
              obtain ⟨v, hvp⟩ := Option.isSome_iff_exists.mp (hall p hpm)
              obtain ⟨⟨k, ik⟩, hsh⟩ := hv _ _ hvp
              have edrop : ys.drop i = p :: ys.drop (i + 1) := by
                obtain ⟨hk, e⟩ := List.getElem?_eq_some_iff.mp ep
                rw [← e, List.getElem_cons_drop]
              have gD : ∀ H', Same H1 H' → DGet H' d (.str p) (some v) := fun H' s => by rw [← hvp]; exact DGet.k (k := Sum.inr p) (s _ _ hd)
              refine ⟨_, rfl, _, rfl, d, v, rfl, gD _ s4, v, k, rfl, ik.same s4, hsh, fun H5 s5 => ⟨_, rfl, ?_⟩⟩
              have s15 := s4.trans s5
              have eR5 := s5 _ _ eR4
              rw [edrop] at hok
              have bad : (nameV v && !inS v ([] ++ (ys.take i).map (fN kvs))) = false → Q (vDueS (some p)) H5 := fun c =>
                kq (some p) H5 ⟨fun e => (by rw [hB] at e; cases e), fun _ zs hz1 hz2 => by rw [sorted_uniq hz1 hp hz2 hs, hok, nm_bad hvp c]⟩ (fun h => by cases h) s15
              cases en : nameV v with
              | false => exact iteT ⟨_, rfl, bad (by rw [en]; rfl)⟩
              | true =>
                refine iteF ⟨_, rfl, _, rfl, d, v, rfl, gD _ s15, _, rfl, R, (ys.take i).map (fN kvs), rfl, .inl (SqL.of eR5), (ik.same s15).elt, _, rfl, ?_⟩
                cases ei : inS v ((ys.take i).map (fN kvs)) with
                | true => exact iteT ⟨_, rfl, bad (by rw [en, List.nil_append, ei]; rfl)⟩
                | false =>
                  have hnb : (nameV v && !inS v ([] ++ (ys.take i).map (fN kvs))) = true := by
                    rw [en, List.nil_append, ei]
                    rfl
                  have ev : v = .str (fN kvs p) := by
                    have ef : fN kvs p = unV v := by unfold fN; rw [hvp]
                    rw [ef]
                    exact unV_of en
                  refine iteF ⟨_, rfl, .inl ⟨rfl, _, SqL.of eR5⟩, _, rfl, _, rfl, d, v, rfl, gD _ s15, R, _, v, rfl, rfl, eR5, ?_, _, rfl, ?_, ?_, ?_, ?_⟩
                  · rw [List.length_map, List.length_map, List.length_take]
                    omega
                  · exact (sb.trans (s5.but R)).trans SameBut.set
                  · exact fun b o e => by
                      rw [upd_ne (ne_of_none e hR)]
                      exact s15 _ _ e
                  · rw [upd_same, take_snoc ep, List.map_append, ev]
                    unfold lstO
                    rw [List.map_append]
                    rfl
                  · rw [take_snoc ep]
                    refine nm_step (pre := ys.take i) (r := ys.drop (i + 1)) (a := p) (v := v) ?_ hok hvp hnb
                    rw [← edrop, List.take_append_drop]
          · rintro σ H4 ⟨v2, rfl, sb, s4, eR4, hok⟩
            rw [List.length_map, List.drop_of_length_le (Nat.le_refl _)] at hok
            have hno : nmFrom kvs [] ys = none := hok
            exact kq none H4 ⟨fun e => (by rw [hB] at e; cases e), fun _ zs hz1 hz2 => by rw [sorted_uniq hz1 hp hz2 hs, hno]⟩ (fun _ => ⟨kvs, rfl, Ren.of hp hno, hB⟩) s4
      · refine (if_pos ?_).mpr (kn ?_ H (Same.refl H))
        · show (!decide (V.int (kvs.length : Int) = V.int ((ns.map V.str).length : Int))) = true
          rw [List.length_map, decide_eq_false (fun z => hc (by have := V.int.inj z; omega))]
          rfl
        · unfold hasB
          rw [decide_eq_false hc]
          rfl
end
end Qp
namespace Qp
open PySem L2
section
variable {P : Program} {w : World} {K : PySem.W.Frag} {mg : Str → Option Value} {base : Heap}
/-- Group._check_names(self, names) -/
def spCN (K : PySem.W.Frag) (C CN : Addr) : Sp := fun vs H Q E => ∃ (p : Addr) (x : V) (ns : List Str) (ws : Str → List Str) (o : Option (List (Key × V))) (r : Option Str), vs = [.ref p, x] ∧ GroupAt C H p ns ws ∧ ns.length ≤ 60 ∧ NewV K H x o ∧ IsDue ns r o ∧
  ((r = none ∧ ∃ kvs, o = some kvs ∧ Ren kvs ns) → ∀ H', Same H H' → Q .non H') ∧ ∀ a, r = some a → Leaves CN "person" (.str a) H E
theorem ok_cn {f C CN fN' : Addr} {fd : FuncData} (F : Fun K "_check_names" "Group._check_names" sGroupchecknames f fd) (B : Bl mg) (G : GTxt K mg C) (T : PySem.QX.OwnTxt P K mg "BadNames" "person" CN fN')
    (cH : CF P w K mg base CX0 1 "has_keys" ["value", "names"] (spHas K)) (cI : CF P w K mg base CX0 1 "is_name" ["value"] spIsName) : FnOk P w K mg base (L2.CX P w) 2 f fd ["self", "names"] (spCN K C CN) := by
  refine F.okX scGroupchecknames (fun vs H Q E h => ?_) (fun cdv A outer s H vs Q E hr h => ?_)
  · obtain ⟨p, x, ns, ws, o, r, rfl, _⟩ := h
    rfl
  · obtain ⟨p, x, ns, ws, o, r, rfl, hG, hlen, hx, hdue, kq, kx⟩ := h
    have hu := hu_of hr
    have hr1 : Room 1 _ := hr.mono (by decide)
    have esz : sizeLine = 16777216 := sizeLine_eq
    refine ⟨_, pss_cons (ps_if (pt_not (pt_val (pe_cf cH hr1 pass0 (pa_cons (pv 1) (pa_cons (pe_fld (pv 0) rfl) pa_nil))))) (pss_one (ps_raiseS rfl T hr (takes_of rfl rfl rfl rfl) (pa_cons pe_str pa_nil) rfl)) pss_nil)
      (pss_cons (ps_set (i := 2) scGroupchecknames.nd rfl (Or.inl rfl) (pe_lst pa_nil))
      (pss_one (ps_for (passes_of rfl) rfl (pi_list (pe_callB cr_sortedST (by rfl) B.srt (by decide +kernel) (pa_cons (pe_fld (pv 0) rfl) pa_nil))) (pg_name (i := 3) scGroupchecknames.nd rfl (Or.inl rfl))
        (pss_cons (ps_if (PW.pt (pw_or (pt_not (pt_val (pe_cf cI hr1 pass0 (pa_cons (pe_dget hu (pv 1) (pv 3) (fun _ _ => rfl)) pa_nil)))) (pw_or1 (pt_cmpR (op_inS hr.units) (pe_dget hu (pv 1) (pv 3) (fun _ _ => rfl)) (pv 2) (by rfl)))))
          (pss_one (ps_raiseS rfl T hr (takes_of rfl rfl rfl rfl) (pa_cons (pv 3) pa_nil) rfl)) pss_nil)
        (pss_one (ps_expr (pe_bm PySem.F.plainAttrs_list PySem.F.slot_list_append PySem.F.type_list_append mt_append (pv 2) (pa_cons (pe_dget hu (pv 1) (pv 3) (fun _ _ => rfl)) pa_nil)))))))), ?_⟩
    obtain ⟨dx, a, d1, d2, d3, hp, ha, _⟩ := hG
    cases o with
    | none => exact ⟨_, rfl, _, rfl, p, C, dx, _, _, rfl, hp, G.cl, G.n1, gF_people _ _ _ _, .inl ⟨x, a, rfl, hx, fun H1 s1 => ⟨_, rfl, iteT ⟨_, rfl, fun d hd => (kx "" hdue).go s1 d hd⟩⟩⟩⟩
    | some kvs =>
      obtain ⟨d, rfl, hd, hv⟩ := hx
      refine ⟨_, rfl, _, rfl, p, C, dx, _, _, rfl, hp, G.cl, G.n1, gF_people _ _ _ _, .inr ⟨.ref d, .dct, a, ns, rfl, .dct hd, .inr (SqT.of ha), by omega, fun hk => absurd rfl hk, fun d' kvs' ed hd' H1 s1 => ?_⟩⟩
      cases ed
      obtain rfl : kvs = kvs' := by
        rw [hd] at hd'
        cases hd'
        rfl
      refine ⟨_, rfl, ?_⟩
      cases hB : hasB kvs ns with
      | false => exact iteT ⟨_, rfl, fun d hd => (kx "" (hdue.1 hB)).go s1 d hd⟩
      | true =>
        have hall : ∀ z ∈ ns, (valV kvs (Sum.inr z)).isSome = true := by
          unfold hasB at hB
          rw [Bool.and_eq_true] at hB
          exact List.all_eq_true.mp hB.2
        have hnm := hdue.2 hB
        refine iteF ⟨by show 0 ≤ sizeLine; exact Nat.zero_le _, fun R hR => ?_⟩
        have s0 : Same H1 (upd H1 R (.lst [])) := Same.new hR
        have eR : (upd H1 R (.lst [])) R = some (lstO []) := upd_same
        generalize upd H1 R (.lst []) = H2 at s0 eR
        have s02 := s1.trans s0
        refine ⟨_, rfl, p, C, dx, _, _, rfl, s02 _ _ hp, G.cl, G.n1, gF_people _ _ _ _, a, ns, rfl, SqT.of (s02 _ _ ha), by omega, fun ys l hp' hs hl => ⟨l, rfl, ⟨_, SqL.of upd_same⟩, ?_⟩⟩
        have s3 : Same H2 (upd H2 l (.lst (ys.map V.str))) := Same.new hl
        have el : (upd H2 l (.lst (ys.map V.str))) l = some (.lst (ys.map V.str)) := upd_same
        have eR1 := s3 _ _ eR
        have nlR : l ≠ R := fun z => by rw [z, eR] at hl; cases hl
        generalize upd H2 l (.lst (ys.map V.str)) = H3 at s3 el eR1
        have hyl : ys.length ≤ 60 := by rw [hp'.length_eq]; exact hlen
        have hRH : H R = none := s1.free hR
        have hno := hnm ys hp' hs
        refine for_it (walk_list (xs := ys.map V.str)) (fun i σ H' => ∃ (v2 : Option V), σ = [some (.ref p), some (.ref d), some (.ref R), v2] ∧ SameBut R H3 H' ∧ Same H H' ∧ H' R = some (lstO ((ys.take i).map (fN kvs))) ∧ nmFrom kvs [] ys = nmFrom kvs ([] ++ (ys.take i).map (fN kvs)) (ys.drop i))
          ⟨_, rfl, (Same.refl _).but R, s02.trans s3, eR1, rfl⟩ (fun i σ H' _ ⟨_, _, s3, _⟩ => SqL.of (s3 _ _ nlR el)) ?_ ?_
        · rintro i y σ Hx H4 hi ⟨v2, rfl, sb, s4, eR4, hok⟩ ⟨rfl, hy⟩
          rw [List.length_map] at hi
          rw [List.getElem?_map] at hy
          cases ep : ys[i]? with
          | none => rw [ep] at hy; cases hy
          | some q =>
            rw [ep] at hy
            cases hy
            have hpm : q ∈ ns := hp'.mem_iff.mp (List.mem_of_getElem? ep)
            obtain ⟨v, hvp⟩ := Option.isSome_iff_exists.mp (hall q hpm)
            obtain ⟨⟨k, ik⟩, hsh⟩ := hv _ _ hvp
            have edrop : ys.drop i = q :: ys.drop (i + 1) := by
              obtain ⟨hk, e⟩ := List.getElem?_eq_some_iff.mp ep
              rw [← e, List.getElem_cons_drop]
            have gD : ∀ H', Same H H' → DGet H' d (.str q) (some v) := fun H' s => by rw [← hvp]; exact DGet.k (k := Sum.inr q) (s _ _ hd)
            refine ⟨_, rfl, _, rfl, d, v, rfl, gD _ s4, v, k, rfl, ik.same s4, hsh, fun H5 s5 => ⟨_, rfl, ?_⟩⟩
            have s15 := s4.trans s5
            have eR5 := s5 _ _ eR4
            rw [edrop] at hok
            have bad : (nameV v && !inS v ([] ++ (ys.take i).map (fN kvs))) = false → Leaves CN "person" (.str q) H E := fun c => kx q (by rw [← hno, hok, nm_bad hvp c])
            cases en : nameV v with
            | false => exact iteT ⟨_, rfl, _, rfl, fun d hd => (bad (by rw [en]; rfl)).go s15 d hd⟩
            | true =>
              refine iteF ⟨_, rfl, _, rfl, d, v, rfl, gD _ s15, _, rfl, R, (ys.take i).map (fN kvs), rfl, .inl (SqL.of eR5), (ik.same s15).elt, _, rfl, ?_⟩
              cases ei : inS v ((ys.take i).map (fN kvs)) with
              | true => exact iteT ⟨_, rfl, _, rfl, fun d hd => (bad (by rw [en, List.nil_append, ei]; rfl)).go s15 d hd⟩
              | false =>
                have hnb : (nameV v && !inS v ([] ++ (ys.take i).map (fN kvs))) = true := by
                  rw [en, List.nil_append, ei]
                  rfl
                have ev : v = .str (fN kvs q) := by
                  have ef : fN kvs q = unV v := by unfold fN; rw [hvp]
                  rw [ef]
                  exact unV_of en
                refine iteF ⟨_, rfl, .inl ⟨rfl, _, SqL.of eR5⟩, _, rfl, _, rfl, d, v, rfl, gD _ s15, R, _, v, rfl, rfl, eR5, ?_, _, rfl, ?_, ?_, ?_, ?_⟩
                · rw [List.length_map, List.length_map, List.length_take]
                  omega
                · exact (sb.trans (s5.but R)).trans SameBut.set
                · exact fun b o e => by
                    rw [upd_ne (ne_of_none e hRH)]
                    exact s15 _ _ e
                · rw [upd_same, take_snoc ep, List.map_append, ev]
                  unfold lstO
                  rw [List.map_append]
                  rfl
                · rw [take_snoc ep]
                  refine nm_step (pre := ys.take i) (r := ys.drop (i + 1)) (a := q) (v := v) ?_ hok hvp hnb
                  rw [← edrop, List.take_append_drop]
        · rintro σ H4 ⟨v2, rfl, sb, s4, eR4, hok⟩
          rw [List.length_map, List.drop_of_length_le (Nat.le_refl _)] at hok
          have hno' : nmFrom kvs [] ys = none := hok
          exact kq ⟨by rw [← hno, hno'], kvs, rfl, Ren.of hp' hno'⟩ H4 s4
end
end Qp
namespace Qp
open PySem L2
section
variable {X : Cx} {K : PySem.W.Frag}
theorem pe_fldK {e : Expr} {f : Str} {ta : TE} {pos : Pos} (hK : X.K = K) (he : PE X e ta) (hb : attributeBase e f X.env (eval e X.env) = eval e X.env) : PE X (.Attribute e f pos) (tFld K ta f) := by
  subst hK
  exact pe_fld he hb
end
/-- a method that may raise -/
structure MFX (P : Program) (w : World) (K : PySem.W.Frag) (mg : Str → Option Value) (base : Heap) (k : Nat) (C : Addr) (m : Str) (ps : List Str) (sp : Sp) : Prop where
  ex : ∃ f fd, FnOk P w K mg base (L2.CX P w) k f fd ps sp ∧ Meth K C m f ∧ Binds K fd ps []
section
variable {P : Program} {w : World} {K : PySem.W.Frag} {mg : Str → Option Value} {base : Heap}
/-- Group.renamed(self, names) -/
def spRen (K : PySem.W.Frag) (C CN : Addr) : Sp := fun vs H Q E => ∃ (p : Addr) (x : V) (ns : List Str) (ws : Str → List Str) (o : Option (List (Key × V))) (r : Option Str), vs = [.ref p, x] ∧ GroupAt C H p ns ws ∧ Nm ns ∧ (∀ a ∈ ns, GRow ns a (ws a)) ∧ NewV K H x o ∧ IsDue ns r o ∧
  (r = none → ∀ kvs, o = some kvs → Ren kvs ns → ∀ p2 H', Same H H' → GroupAt C H' p2 (ns.map (fN kvs)) (wsR (fN kvs) ns ws) → Q (.ref p2) H') ∧ ∀ a, r = some a → Leaves CN "person" (.str a) H E
theorem ok_ren {f C CN CB CW fG : Addr} {fd fdG : FuncData} (F : Fun K "renamed" "Group.renamed" sGrouprenamed f fd) (B : Bl mg) (G : GTxt K mg C) (M : Mk K C fG) (FG : FnOk P w K mg base (L2.CX P w) 4 fG fdG ["self", "people", "wishes"] (spGI C CB CW)) (bG : Binds K fdG ["self", "people", "wishes"] [])
    (mC : MFX P w K mg base 2 C "_check_names" ["self", "names"] (spCN K C CN)) : FnOk P w K mg base (L2.CX P w) 6 f fd ["self", "names"] (spRen K C CN) := by
  obtain ⟨fC, fdC, FC, MC, bC⟩ := mC.ex
  refine F.okX scGrouprenamed (fun vs H Q E h => ?_) (fun cdv A outer s H vs Q E hr h => ?_)
  · obtain ⟨p, x, ns, ws, o, r, rfl, _⟩ := h
    rfl
  · obtain ⟨p, x, ns, ws, o, r, rfl, hG, nn, g1, hx, hdue, kq, kx⟩ := h
    have hu := hu_of hr
    have hr2 : Room 2 _ := hr.mono (by decide)
    have esz : sizeLine = 16777216 := sizeLine_eq
    have hnl := nn.len
    refine ⟨_, pss_cons (ps_expr (pe_meth (pv 0) G.cl MC FC hr2 bC .nil (passes_call (takes_of rfl rfl rfl rfl) (fun _ _ _ _ h => h)) (pa_cons (pv 1) pa_nil)))
      (pss_cons (ps_set (i := 2) scGrouprenamed.nd rfl (Or.inl rfl) (pe_callTy call_tuple_of (by rfl) B.tup (by decide +kernel) (pa_cons
        (pe_lc (own := [("a", 3)]) (g := gName 3) (tt := tYes) rfl scGrouprenamed.nd (pi_tup (pe_fld (pv 0) rfl)) (blkOk_by (own := [("a", 3)]) (N := ["self", "names", "people", "a", "b"]) (sc := defScope sGrouprenamed) (by decide +kernel))
          (fun _ _ _ _ _ => pg_name (i := 3) scGrouprenamed.nd rfl (Or.inl rfl)) (fun _ _ _ _ _ => pts_nil) (fun _ _ _ _ _ => pe_dget hu (pv 1) (pv 3) (fun _ _ => rfl))) pa_nil)))
      (pss_one (ps_ret (pe_makeS (E := WE (fun _ _ _ _ => False)) M FG hr rfl G.mgC bG .nil (fun σ => passAt takes0 σ) (pa_cons (pv 2)
      (pa_cons (pe_dc (own := [("a", 3)]) (g := gName 3) (tt := tYes) rfl scGrouprenamed.nd (pi_tup (pe_fld (pv 0) rfl)) (blkOk_by (own := [("a", 3)]) (N := ["self", "names", "people", "a", "b"]) (sc := defScope sGrouprenamed) (by decide +kernel))
        (fun _ _ _ _ _ => pg_name (i := 3) scGrouprenamed.nd rfl (Or.inl rfl)) (fun _ _ _ _ _ => pts_nil) (fun _ _ _ _ _ => pe_dget hu (pv 1) (pv 3) (fun _ _ => rfl))
        (fun _ _ _ _ _ => pe_lc (own := [("b", 4)]) (g := gName 4) (tt := tYes) rfl scGrouprenamed.nd (pi_listK (K := K) rfl (pe_dget hu (pe_fldK (K := K) rfl (pv 0) rfl) (pv 3) (fun _ _ => rfl))) (blkOk_by (own := [("b", 4)]) (N := ["self", "names", "people", "a", "b"]) (sc := cScope (match retE (defBody sGrouprenamed) 2 with | .Call _ [_, e] _ _ => e | e => e)) (by decide +kernel)).rel
          (fun _ _ _ _ _ => pg_name (i := 4) scGrouprenamed.nd rfl (Or.inl rfl)) (fun _ _ _ _ _ => pts_nil) (fun _ _ _ _ _ => pe_dget hu (pv 1) (pv 4) (fun _ _ => rfl)))) pa_nil)))))), ?_⟩
    have hG0 := hG
    obtain ⟨dx, a0, d1, d2, d3, hp, _⟩ := hG0
    refine ⟨_, rfl, p, dx, _, rfl, hp, gF_no _ _ _ _ (by decide +kernel) (by decide +kernel) (by decide +kernel) (by decide +kernel), _, rfl, p, x, ns, ws, o, r, rfl, hG, by omega, hx, hdue, fun hk H1 s1 => ?_, fun i hi => kx i hi⟩
    obtain ⟨er, kvs, rfl, R⟩ := hk
    have hx1 := hx.same s1
    obtain ⟨d, rfl, hd1, hv⟩ := hx1
    have hG1 := hG.same s1
    have hG2 := hG1
    obtain ⟨dx, a1, d1, d2, d3, hp, ha, ⟨ad, e1, r1⟩, _⟩ := hG2
    have nq := ren_nm R nn
    have eget : ∀ {i : Nat} {a : Str}, ns[i]? = some a → (ns.map (fN kvs))[i]? = some (fN kvs a) := fun e => by rw [List.getElem?_map, e]; rfl
    have gD : ∀ H' a, Same H1 H' → a ∈ ns → DGet H' d (.str a) (some (.str (fN kvs a))) := fun H' a s m => by rw [← R.v a m]; exact DGet.k (k := Sum.inr a) (s _ _ hd1)
    refine ⟨_, rfl, p, C, dx, _, _, rfl, hp, G.cl, G.n1, gF_people _ _ _ _, a1, rfl, ⟨_, SqT.of ha⟩,
      fun L hL => lc_it walk_tup (fun i H' => Same H1 H' ∧ H' L = some (lstO ((ns.map (fN kvs)).take i))) ⟨Same.new hL, upd_same⟩ (fun i H' _ z => SqT.of (z.1 _ _ ha)) ?_ ?_⟩
    · rintro i y Hy H2 hi ⟨s2, e2⟩ ⟨rfl, hy⟩
      rw [List.length_map] at hi
      rw [List.getElem?_map] at hy
      cases ea : ns[i]? with
      | none => rw [ea] at hy; cases hy
      | some a =>
        rw [ea] at hy
        cases hy
        refine ⟨rfl, lcTurn ⟨_, rfl, _, rfl, d, _, rfl, gD _ a s2 (List.mem_of_getElem? ea), _, e2, ?_, fun b' o' e' => ?_, ?_⟩⟩
        · rw [List.length_map, List.length_take, List.length_map]
          omega
        · rw [upd_ne (ne_of_none e' hL)]
          exact s2 _ _ e'
        · rw [upd_same, take_snoc (eget ea)]
          unfold lstO
          rw [List.map_append]
          rfl
    · rintro H2 ⟨s2, e2⟩
      rw [List.length_map, show ns.length = (ns.map (fN kvs)).length by rw [List.length_map], List.take_of_length_le (Nat.le_refl _)] at e2
      refine ⟨L, _, rfl, .inl ⟨SqL.of e2, fun Tp hTp => ?_⟩⟩
      have s3 : Same H2 (upd H2 Tp (.tup ((ns.map (fN kvs)).map V.str))) := Same.new hTp
      have eTp : (upd H2 Tp (.tup ((ns.map (fN kvs)).map V.str))) Tp = some (.tup ((ns.map (fN kvs)).map V.str)) := upd_same
      generalize upd H2 Tp (.tup ((ns.map (fN kvs)).map V.str)) = H3 at s3 eTp
      have s13 := s2.trans s3
      refine ⟨_, rfl, _, rfl, p, C, dx, _, _, rfl, s13 _ _ hp, G.cl, G.n1, gF_people _ _ _ _, a1, rfl, ⟨_, SqT.of (s13 _ _ ha)⟩, fun D hD => ?_⟩
      refine dc_it walk_tup (fun i H' => Same H3 H' ∧ RowsG H' D ((ns.map (fN kvs)).take i) (fun b => lstO (wsR (fN kvs) ns ws b))) ⟨Same.new hD, RowsG.nil upd_same⟩ (fun i H' _ z => SqT.of (z.1 _ _ (s13 _ _ ha))) ?_ ?_
      · rintro i y Hy H4 hi ⟨s4, R4⟩ ⟨rfl, hy⟩
        rw [List.length_map] at hi
        rw [List.getElem?_map] at hy
        cases ea : ns[i]? with
        | none => rw [ea] at hy; cases hy
        | some a =>
          rw [ea] at hy
          cases hy
          have han : a ∈ ns := List.mem_of_getElem? ea
          have s14 := s13.trans s4
          have hwl := (g1 a han).len
          have gL : SqL K H4 (ad a) ((ws a).map V.str) := SqL.of (s14 _ _ (r1 a han).1)
          refine ⟨rfl, dcTurn ⟨_, rfl, _, rfl, d, _, rfl, gD _ a s14 han, ?_⟩⟩
          refine ⟨_, rfl, p, C, dx, _, _, rfl, s14 _ _ hp, G.cl, G.n2, gF_wishes _ _ _ _, _, rfl, d1, _, rfl, by rw [← valV_rows (ad := ad) han]; exact DGet.k (k := Sum.inr a) (s14 _ _ e1), ad a, rfl, ⟨_, gL⟩,
            fun L2 hL2 => lc_it (walk_list (xs := (ws a).map V.str)) (fun j H' => Same H4 H' ∧ H' L2 = some (lstO (((ws a).map (fN kvs)).take j))) ⟨Same.new hL2, upd_same⟩ (fun j H' _ z => z.1.seq gL) ?_ ?_⟩
          · rintro j y Hz H5 hj ⟨s5, hL5⟩ ⟨rfl, hy⟩
            rw [List.length_map] at hj
            rw [List.getElem?_map] at hy
            cases eb : (ws a)[j]? with
            | none => rw [eb] at hy; cases hy
            | some b =>
              rw [eb] at hy
              cases hy
              have hbn : b ∈ ns := ((g1 a han).2 b (List.mem_of_getElem? eb)).1
              refine ⟨rfl, lcTurn ⟨_, rfl, _, rfl, d, _, rfl, gD _ b (s14.trans s5) hbn, _, hL5, ?_, fun b' o' e' => ?_, ?_⟩⟩
              · rw [List.length_map, List.length_take, List.length_map]
                omega
              · rw [upd_ne (ne_of_none e' hL2)]
                exact s5 _ _ e'
              · have eg : ((ws a).map (fN kvs))[j]? = some (fN kvs b) := by rw [List.getElem?_map, eb]; rfl
                rw [upd_same, take_snoc eg]
                unfold lstO
                rw [List.map_append]
                rfl
          · rintro H5 ⟨s5, hL5⟩
            rw [List.length_map, show (ws a).length = ((ws a).map (fN kvs)).length by rw [List.length_map], List.take_of_length_le (Nat.le_refl _)] at hL5
            have hDL : L2 ≠ D := by
              obtain ⟨ad2, e2, _⟩ := R4
              intro z
              rw [z, e2] at hL2
              cases hL2
            obtain ⟨kvs2, h1, h2, h3⟩ := R4.snoc s5 (not_mem_take R.nd (eget ea)) (p := L2) (by rw [wsR_f R.nd han]; exact hL5) hDL
            refine ⟨kvs2, Sum.inr (fN kvs a), rfl, h1, ?_, ?_, ?_⟩
            · rw [h2, List.length_take, List.length_map]
              omega
            · intro b o e
              rw [upd_ne (ne_of_none e hD)]
              exact s5 _ _ (s4 _ _ e)
            · rw [take_snoc (eget ea)]
              exact h3
      · rintro H4 ⟨s4, R4⟩
        rw [List.length_map, show ns.length = (ns.map (fN kvs)).length by rw [List.length_map], List.take_of_length_le (Nat.le_refl _)] at R4
        refine fun p2 dx2 hp2 hdx2 hne => ?_
        have sP : Same H4 (upd (upd H4 dx2 (.own p2)) p2 (.ins C dx2 [])) := fun b o e => by
          rw [upd_ne (ne_of_none e hp2), upd_ne (ne_of_none e hdx2)]
          exact e
        have hpp : (upd (upd H4 dx2 (.own p2)) p2 (.ins C dx2 [])) p2 = some (.ins C dx2 []) := upd_same
        generalize (upd (upd H4 dx2 (.own p2)) p2 (.ins C dx2 [])) = H5 at sP hpp
        refine gmake hpp (sP _ _ (s4 _ _ eTp)) nq (R4.same sP) (List.Perm.refl _) (wsR_row R.nd g1) fun H6 sb hG6 => ⟨rfl, kq er kvs rfl R p2 H6 (fun b o e => ?_) hG6⟩
        have e4 := s4 _ _ (s13 _ _ (s1 _ _ e))
        exact sb _ _ (ne_of_none e4 hp2) (sP _ _ e4)
end
end Qp
namespace Qp
open PySem L2
/-- the dict of the old names -/
def bkL (f : Str → Str) (l : List Str) : List (Key × V) := l.map fun a => ((Sum.inr (f a) : Key), V.str a)
theorem bk_val {f : Str → Str} : ∀ {l : List Str} {a : Str}, (l.map f).Nodup → a ∈ l → valV (bkL f l) (Sum.inr (f a)) = some (.str a)
  | x :: r, a, nd, h => by
    rw [List.map_cons, List.nodup_cons] at nd
    show valV ((Sum.inr (f x), V.str x) :: bkL f r) (Sum.inr (f a)) = _
    rcases List.mem_cons.mp h with rfl | h
    · exact valV_pos rfl
    · rw [valV_neg (fun e => nd.1 (by rw [show f x = f a from Sum.inr.inj e]; exact List.mem_map.mpr ⟨a, h, rfl⟩))]
      exact bk_val nd.2 h
theorem bk_none {f : Str → Str} : ∀ {l : List Str} {z : Str}, z ∉ l.map f → valV (bkL f l) (Sum.inr z) = none
  | [], _, _ => rfl
  | x :: r, z, h => by
    rw [List.map_cons, List.mem_cons, not_or] at h
    show valV ((Sum.inr (f x), V.str x) :: bkL f r) (Sum.inr z) = _
    rw [valV_neg (fun e => h.1 (Sum.inr.inj e).symm)]
    exact bk_none h.2
theorem bk_fN {f : Str → Str} {l : List Str} {a : Str} (nd : (l.map f).Nodup) (h : a ∈ l) : fN (bkL f l) (f a) = a := by
  unfold fN
  rw [bk_val nd h]
  rfl
theorem bk_map {f : Str → Str} {l : List Str} (nd : (l.map f).Nodup) : (l.map f).map (fN (bkL f l)) = l := by
  rw [List.map_map]
  refine (List.map_congr_left fun a ha => ?_).trans (List.map_id l)
  exact bk_fN nd ha
theorem bk_has {f : Str → Str} {l : List Str} (nd : (l.map f).Nodup) : hasB (bkL f l) (l.map f) = true := by
  unfold hasB
  rw [Bool.and_eq_true, List.all_eq_true]
  refine ⟨decide_eq_true (by unfold bkL; rw [List.length_map, List.length_map]), fun z hz => ?_⟩
  obtain ⟨a, ha, rfl⟩ := List.mem_map.mp hz
  rw [bk_val nd ha]
  rfl
theorem bk_ren {f : Str → Str} {l : List Str} (n : Nm l) (nd : (l.map f).Nodup) : Ren (bkL f l) (l.map f) := by
  refine ⟨fun b hb => ?_, fun b hb => ?_, ?_⟩
  · obtain ⟨a, ha, rfl⟩ := List.mem_map.mp hb
    rw [bk_fN nd ha]
    exact bk_val nd ha
  · obtain ⟨a, ha, rfl⟩ := List.mem_map.mp hb
    rw [bk_fN nd ha]
    exact n.nm a ha
  · rw [bk_map nd]
    exact n.nd
theorem bk_ws {f : Str → Str} {ns : List Str} {ws : Str → List Str} (nd : (ns.map f).Nodup) (n : ns.Nodup) (g : ∀ a ∈ ns, GRow ns a (ws a)) {a : Str} (ha : a ∈ ns) : wsR (fN (bkL f ns)) (ns.map f) (wsR f ns ws) a = ws a := by
  have e1 : wsR (fN (bkL f ns)) (ns.map f) (wsR f ns ws) (fN (bkL f ns) (f a)) = (wsR f ns ws (f a)).map (fN (bkL f ns)) := wsR_f (by rw [bk_map nd]; exact n) (List.mem_map.mpr ⟨a, ha, rfl⟩)
  rw [bk_fN nd ha] at e1
  rw [e1, wsR_f nd ha, List.map_map]
  refine (List.map_congr_left fun b hb => ?_).trans (List.map_id _)
  exact bk_fN nd ((g a ha).2 b hb).1
theorem MRows.updD {H : Hp} {l b : Addr} {zs : List Str} {ws : Str → List Str} {k1 k2 : List (Key × V)} (h : MRows H l zs ws) (e : H b = some (.dK k1)) : MRows (upd H b (.dK k2)) l zs ws := by
  obtain ⟨ys, k, m, e1, q, r⟩ := h
  refine ⟨ys, k, m, by rw [upd_ne (ne_of e1 e (by intro z; cases z))]; exact e1, fun y hy => ?_, r⟩
  obtain ⟨t, e2, e3, e4, e5⟩ := q y hy
  exact ⟨t, e2, by rw [upd_ne (ne_of e3 e (by intro z; cases z))]; exact e3, by rw [upd_ne (ne_of e4 e (by intro z; cases z))]; exact e4, e5⟩
theorem valV_mem : ∀ {kvs : List (Key × V)} {key : Key} {v : V}, valV kvs key = some v → ∃ p ∈ kvs, p.2 = v
  | [], _, _, h => by cases h
  | (k, u) :: r, key, v, h => by
    by_cases q : k = key
    · rw [valV_pos q] at h
      exact ⟨(k, u), List.mem_cons_self, Option.some.inj h⟩
    · rw [valV_neg q] at h
      obtain ⟨p, hp, e⟩ := valV_mem h
      exact ⟨p, List.mem_cons_of_mem _ hp, e⟩
theorem eqG_refl {ns : List Str} {ws : Str → List Str} : eqG ns ns ws ws = true := by
  unfold eqG
  rw [decide_eq_true rfl, Bool.true_and, List.all_eq_true]
  exact fun _ _ => decide_eq_true rfl
/-- what stays -/
structure F10 (C : Addr) (H : Hp) (N W G : Addr) (ns ord : List Str) (ws : Str → List Str) : Prop where
  n : H N = some (lstO ns)
  w : RowsG H W ord (fun a => lstO (ws a))
  g : GroupAt C H G ns ws
  nn : Nm ns
  pw : ord.Perm ns
  g1 : ∀ a ∈ ns, GRow ns a (ws a)
theorem F10.same {C : Addr} {H H' : Hp} {N W G : Addr} {ns ord : List Str} {ws : Str → List Str} (s : Same H H') (t : F10 C H N W G ns ord ws) : F10 C H' N W G ns ord ws :=
  ⟨s _ _ t.n, t.w.same s, t.g.same s, t.nn, t.pw, t.g1⟩
section
variable {P : Program} {w : World} {K : PySem.W.Frag} {mg : Str → Option Value} {base : Heap}
structure LawT (P : Program) (w : World) (K : PySem.W.Frag) (mg : Str → Option Value) (base : Heap) (C CN CB CW fG fX : Addr) : Prop where
  cell : CF P w K mg base CX0 1 "_law_cell" ["_law_script", "_law_k"] (spCell K)
  take : CF P w K mg base CX0 1 "_law_take" ["_law_state", "_law_many"] spTake
  name : CF P w K mg base CX0 2 "_law_name" ["_law_state", "_law_taken"] spName
  names : CF P w K mg base CX0 3 "_law_names" ["_law_state", "_law_many"] spNames
  val : CF P w K mg base CX0 2 "_law_value" ["_law_state"] spVal
  group : CF P w K mg base CX0 5 "_law_group" ["_law_state", "_law_top"] spGroup
  mixed : CF P w K mg base CX0 2 "_law_mixed" ["_law_state", "_law_items"] spMixed
  copy : CF P w K mg base CX0 1 "_law_copy" ["_law_wishes_here"] spCopy
  due : CF P w K mg base CX0 2 "_law_due" ["_law_names_here", "_law_new"] (spDue K)
  shows : CF P w K mg base CX0 4 "_law_shows" ["_law_group_here"] (spShows C)
  model : CF P w K mg base CX0 1 "_law_model" ["_law_names_here", "_law_wishes_here"] spModel
  row : CF P w K mg base CX0 1 "_law_row" ["_law_actual", "_law_due_here"] (spRow K)
  truth : CF P w K mg base CX0 1 "_law_truth" ["_law_actual", "_law_due_here"] spTruth
  ren : MFX P w K mg base 6 C "renamed" ["self", "names"] (spRen K C CN)
  eqn : MF P w K mg base 1 C "__eq__" ["self", "other"] (spEqG C)
  bn : PySem.QX.OwnTxt P K mg "BadNames" "person" CN fX
  g : GTxt K mg C
  nc : NeC K C
  mkG : Mk K C fG
  gi : ∃ fd, FnOk P w K mg base (L2.CX P w) 4 fG fd ["self", "people", "wishes"] (spGI C CB CW) ∧ Binds K fd ["self", "people", "wishes"] []
  inst : ∀ (H : Hp) (a dx : Addr) (fs : List (Str × V)), H a = some (.ins C dx fs) → NotD K H (.ref a)
abbrev nLaw : List Str := ["_law_script", "_law_state", "_law_spoil", "_law_names_here", "_law_wishes_here", "_law_group_here", "_law_row_here", "_law_new", "_law_k", "_law_other", "_law_due_here", "_law_handed", "_law_told", "_law_turned", "e", "_law_rows", "_law_back", "_law_a", "_law_b"]
def lS (v0 v1 v2 : Option V) (N W G : Addr) (v6 v7 v8 v9 v10 v11 v12 v13 v14 v15 v16 v17 v18 : Option V) : St := [v0, v1, v2, some (.ref N), some (.ref W), some (.ref G), v6, v7, v8, v9, v10, v11, v12, v13, v14, v15, v16, v17, v18]
section
variable {C CN CB CW fG fX : Addr} {f : Addr} {cdv : Value} {A : Around} {outer : List Env} {s : Shared} {H0 : Hp} {E0' : XK} {Q : VK}
theorem law24 (T : LawT P w K mg base C CN CB CW fG fX) (B : Bl mg) (hr : Room 6 (A.deeper (PyProof.Rows.envOfC "law" (defScope slaw) s.heap.objs.size f cdv))) (kq : ∀ H', Q (.bl true) H') :
    ∃ t, PSs (cxOf CX0 P w K mg base nLaw "law" (defScope slaw) f cdv A outer s H0 E0').nox ((defBody slaw).drop 24) t ∧
      ∀ (H : Hp) (v0 v1 v2 : Option V) (N W G d p2 : Addr) (v6 v8 v9 v10 v11 v12 v14 v15 v16 v17 v18 : Option V) (ns ord : List Str) (ws : Str → List Str) (kvs : List (Key × V)), F10 C H N W G ns ord ws → H d = some (.dK kvs) → Ren kvs ns → GroupAt C H p2 (ns.map (fN kvs)) (wsR (fN kvs) ns ws) →
        t { nx := fun _ H' => Q .non H', rt := Q } (lS v0 v1 v2 N W G v6 (some (.ref d)) v8 v9 v10 v11 v12 (some (.ref p2)) v14 v15 v16 v17 v18) H := by
  have hu := hu_of hr
  have hr1 : Room 1 _ := hr.mono (by decide)
  have hr4 : Room 4 _ := hr.mono (by decide)
  have esz : sizeLine = 16777216 := sizeLine_eq
  obtain ⟨fR, fdR, FR, MR, bR⟩ := T.ren.ex
  obtain ⟨fE, fdE, FE, ME, bE⟩ := T.eqn.ex
  refine ⟨_, pss_cons (ps_set (i := 15) sclaw.nd rfl (Or.inl rfl) (pe_lst pa_nil))
    (pss_cons (ps_set (i := 16) sclaw.nd rfl (Or.inl rfl) pe_dnewK)
    (pss_cons (ps_for PassesOwn.never rfl (pi_list (pv 3)) (pg_name (i := 17) sclaw.nd rfl (Or.inl rfl))
      (pss_cons (ps_expr (pe_bm PySem.F.plainAttrs_list PySem.F.slot_list_append PySem.F.type_list_append mt_append (pv 15) (pa_cons (pe_tup (pa_cons (pe_dget hu (pv 7) (pv 17) (fun _ _ => rfl)) (pa_cons
          (pe_lc (own := [("_law_b", 18)]) (g := gName 18) (tt := tYes) rfl sclaw.nd (pi_list (pe_dget hu (pv 4) (pv 17) (fun _ _ => rfl))) (blkOk_by (own := [("_law_b", 18)]) (N := nLaw) (sc := defScope slaw) (by decide +kernel))
            (fun _ _ _ _ _ => pg_name (i := 18) sclaw.nd rfl (Or.inl rfl)) (fun _ _ _ _ _ => pts_nil) (fun _ _ _ _ _ => pe_dget hu (pv 7) (pv 18) (fun _ _ => rfl))) pa_nil))) pa_nil)))
      (pss_one (ps_dput hu (pv 16) (pe_dget hu (pv 7) (pv 17) (fun _ _ => rfl)) (pv 17) rfl))))
    (pss_one (ps_ret (pe_and (pe_cf T.row hr1 pass0 (pa_cons (pe_cf T.shows hr4 pass0 (pa_cons (pv 13) pa_nil)) (pa_cons (pv 15) pa_nil)))
      (pe_one (pe_cf T.truth hr1 pass0 (pa_cons (pe_cmpR (op_eqO ME FE hr1 bE) (pe_methAt (E := WE (fun _ _ _ _ => False)) (pv 13) T.g.cl MR FR hr bR (fun σ => passAt takes0 σ) (pa_cons (pv 16) pa_nil)) (pv 5) (nomark _)) (pa_cons pe_bl pa_nil))))))))), ?_⟩
  rintro H v0 v1 v2 N W G d p2 v6 v8 v9 v10 v11 v12 v14 v15 v16 v17 v18 ns ord ws kvs t0 hd R hG2
  have hnl := t0.nn.len
  have nq := ren_nm R t0.nn
  obtain ⟨adW, eW, rW⟩ := id t0.w
  refine ⟨by show 0 ≤ sizeLine; exact Nat.zero_le _, fun Rw hRw => ?_⟩
  have s1 : Same H (upd H Rw (.lst [])) := Same.new hRw
  have R0 : MRows (upd H Rw (.lst [])) Rw [] (wsR (fN kvs) ns ws) := MRows.nil upd_same
  generalize upd H Rw (.lst []) = H1 at s1 R0
  refine fun Bk hBk => ?_
  have s2 : Same H1 (upd H1 Bk (.dK [])) := Same.new hBk
  have eB : (upd H1 Bk (.dK [])) Bk = some (.dK []) := upd_same
  have R1 := R0.same s2
  generalize upd H1 Bk (.dK []) = H2 at s2 eB R1
  have hBH : H Bk = none := s1.free hBk
  have gD : ∀ H' a, Same H H' → a ∈ ns → DGet H' d (.str a) (some (.str (fN kvs a))) := fun H' a s m => by rw [← R.v a m]; exact DGet.k (k := Sum.inr a) (s _ _ hd)
  have eget : ∀ {i : Nat} {a : Str}, ns[i]? = some a → (ns.map (fN kvs))[i]? = some (fN kvs a) := fun e => by rw [List.getElem?_map, e]; rfl
  refine ⟨_, rfl, N, rfl, ⟨_, SqL.of (s2 _ _ (s1 _ _ t0.n))⟩, for_it walk_list (fun i σ H' => ∃ u17 : Option V, σ = lS v0 v1 v2 N W G v6 (some (.ref d)) v8 v9 v10 v11 v12 (some (.ref p2)) v14 (some (.ref Rw)) (some (.ref Bk)) u17 v18 ∧ Same H H' ∧ MRows H' Rw ((ns.map (fN kvs)).take i) (wsR (fN kvs) ns ws) ∧ H' Bk = some (.dK (bkL (fN kvs) (ns.take i))))
    ⟨_, rfl, s1.trans s2, R1, eB⟩ (fun i σ H' _ ⟨_, _, z, _⟩ => SqL.of (z _ _ t0.n)) ?_ ?_⟩
  · rintro i x σ Hx H3 hi ⟨u17, rfl, s3, R3, eB3⟩ ⟨rfl, hx⟩
    rw [List.length_map] at hi
    rw [List.getElem?_map] at hx
    cases ea : ns[i]? with
    | none => rw [ea] at hx; cases hx
    | some a =>
      rw [ea] at hx
      cases hx
      have han : a ∈ ns := List.mem_of_getElem? ea
      have hao : a ∈ ord := t0.pw.mem_iff.mpr han
      have hwl := (t0.g1 a han).len
      obtain ⟨ys0, e0, l0⟩ := R3.lst
      have gL : SqL K H3 (adW a) ((ws a).map V.str) := SqL.of (s3 _ _ (rW a hao).1)
      refine ⟨_, rfl, .inl ⟨rfl, _, SqL.of e0⟩, _, rfl, _, rfl, d, _, rfl, gD _ a s3 han, ?_⟩
      refine ⟨_, rfl, _, rfl, W, _, rfl, by rw [← valV_rows (ad := adW) hao]; exact DGet.k (k := Sum.inr a) (s3 _ _ eW), adW a, rfl, ⟨_, gL⟩,
        fun L2 hL2 => lc_it (walk_list (xs := (ws a).map V.str)) (fun j H' => Same H3 H' ∧ H' L2 = some (lstO (((ws a).map (fN kvs)).take j))) ⟨Same.new hL2, upd_same⟩ (fun j H' _ z => z.1.seq gL) ?_ ?_⟩
      · rintro j y Hz H5 hj ⟨s5, hL5⟩ ⟨rfl, hy⟩
        rw [List.length_map] at hj
        rw [List.getElem?_map] at hy
        cases eb : (ws a)[j]? with
        | none => rw [eb] at hy; cases hy
        | some b =>
          rw [eb] at hy
          cases hy
          have hbn : b ∈ ns := ((t0.g1 a han).2 b (List.mem_of_getElem? eb)).1
          refine ⟨rfl, lcTurn ⟨_, rfl, _, rfl, d, _, rfl, gD _ b (s3.trans s5) hbn, _, hL5, ?_, fun b' o' e' => ?_, ?_⟩⟩
          · rw [List.length_map, List.length_take, List.length_map]
            omega
          · rw [upd_ne (ne_of_none e' hL2)]
            exact s5 _ _ e'
          · have eg : ((ws a).map (fN kvs))[j]? = some (fN kvs b) := by rw [List.getElem?_map, eb]; rfl
            rw [upd_same, take_snoc eg]
            unfold lstO
            rw [List.map_append]
            rfl
      · rintro H5 ⟨s5, hL5⟩
        rw [List.length_map, show (ws a).length = ((ws a).map (fN kvs)).length by rw [List.length_map], List.take_of_length_le (Nat.le_refl _)] at hL5
        have s15 := s3.trans s5
        have nLR : L2 ≠ Rw := fun z => by rw [z, e0] at hL2; cases hL2
        refine ⟨by show 2 ≤ sizeLine; omega, fun Tt hT => ?_⟩
        obtain ⟨ys, g1, g2, g3⟩ := (R3.same s5).snoc (a := fN kvs a) (M := L2) (by rw [wsR_f R.nd han]; exact hL5) nLR hT
        have eB5 := s5 _ _ eB3
        have sT : Same H5 (upd H5 Tt (.tup [.str (fN kvs a), .ref L2])) := Same.new hT
        have eBT := sT _ _ eB5
        generalize (upd H5 Tt (.tup [.str (fN kvs a), .ref L2])) = H6 at g1 g3 sT eBT
        refine ⟨Rw, ys, .ref Tt, rfl, rfl, g1, by rw [g2, List.length_take, List.length_map]; omega, ?_⟩
        have s16 := s15.trans sT
        have s17 : Same H (upd H6 Rw (.lst (ys ++ [.ref Tt]))) := fun b o e => by
          rw [upd_ne (ne_of_none e hRw)]
          exact s16 _ _ e
        have nRB : Bk ≠ Rw := ne_of eBT g1 (by intro z; cases z)
        have eB7 : (upd H6 Rw (.lst (ys ++ [.ref Tt]))) Bk = some (.dK (bkL (fN kvs) (ns.take i))) := by
          rw [upd_ne nRB]
          exact eBT
        generalize (upd H6 Rw (.lst (ys ++ [.ref Tt]))) = H7 at g3 s17 eB7
        refine ⟨_, rfl, _, rfl, _, rfl, _, rfl, d, _, rfl, gD _ a s17 han, Bk, _, rfl, DPut.k (k := Sum.inr (fN kvs a)) eB7 (by unfold bkL; rw [List.length_map, List.length_take]; omega), ?_⟩
        refine ⟨_, rfl, fun b o e => ?_, ?_, ?_⟩
        · rw [upd_ne (ne_of_none e hBH)]
          exact s17 _ _ e
        · rw [take_snoc (eget ea)]
          exact MRows.updD (l := Rw) (ws := wsR (fN kvs) ns ws) g3 eB7
        · have nm : fN kvs a ∉ (ns.take i).map (fN kvs) := by
            rw [List.map_take]
            exact not_mem_take R.nd (eget ea)
          rw [upd_same, putK_new _ (bk_none nm), take_snoc ea]
          unfold bkL
          rw [List.map_append]
          rfl
  · rintro σ H3 ⟨u17, rfl, s3, R3, eB3⟩
    rw [List.length_map, List.take_of_length_le (Nat.le_refl _)] at eB3
    rw [List.length_map, show ns.length = (ns.map (fN kvs)).length by rw [List.length_map], List.take_of_length_le (Nat.le_refl _)] at R3
    have t3 := t0.same s3
    have hG3 := hG2.same s3
    have gq := wsR_row R.nd t0.g1
    refine ⟨_, rfl, p2, _, _, rfl, hG3, by have := nq.len; omega, fun l1 H4 s4 M4 => ⟨_, rfl, ?_⟩⟩
    dsimp only [tNil]
    refine row_rows M4 (R3.same s4) (fun a ha => ⟨nq.nm a ha, fun z hz => nq.nm z ((gq a ha).2 z hz).1⟩) ⟨_, rfl, iteT ?_⟩
    have t4 := t3.same s4
    have hG4 := hG3.same s4
    have hG5 := hG4
    obtain ⟨dx, a1, d1, d2, d3, hp, _⟩ := hG5
    have eB4 := s4 _ _ eB3
    refine ⟨_, rfl, p2, dx, _, rfl, hp, gF_no _ _ _ _ (by decide +kernel) (by decide +kernel) (by decide +kernel) (by decide +kernel), _, rfl, ?_⟩
    refine ⟨p2, .ref Bk, ns.map (fN kvs), wsR (fN kvs) ns ws, some (bkL (fN kvs) ns), none, rfl, hG4, nq, gq, ⟨Bk, rfl, eB4, fun key v hv => ?_⟩, (bk_ren t0.nn R.nd).due (bk_has R.nd), fun _ kv2 e R2 p3 H5 s5 hG6 => ?_, fun a h => by cases h⟩
    · have hm : ∃ a, v = V.str a ∧ a ∈ ns := by
        have := valV_mem hv
        obtain ⟨p, hp, ep⟩ := this
        obtain ⟨a, ha, rfl⟩ := List.mem_map.mp hp
        exact ⟨a, ep.symm, ha⟩
      obtain ⟨a, rfl, ha⟩ := hm
      refine ⟨⟨_, .str a⟩, fun z e => ?_⟩
      cases e
      have := t0.nn.nm a ha
      unfold nameS at this
      rw [Bool.and_eq_true, Bool.and_eq_true] at this
      have := of_decide_eq_true this.1.2
      omega
    · cases e
      rw [bk_map R.nd] at hG6
      have ew : ∀ a ∈ ns, wsR (fN (bkL (fN kvs) ns)) (ns.map (fN kvs)) (wsR (fN kvs) ns ws) a = ws a := fun a ha => bk_ws R.nd t0.nn.nd t0.g1 ha
      have hG7 : GroupAt C H5 p3 ns ws := hG6.congr (fun a ha => (ew a ha).symm) (fun a ha => by rw [ew a ha]; exact t0.g1 a ha)
      have t5 := t4.same s5
      have hG8 := hG7
      have hG9 := t5.g
      obtain ⟨dx1, _, _, _, _, hp1, _⟩ := hG8
      obtain ⟨dx2, _, _, _, _, hp2, _⟩ := hG9
      have hal : allN ns ws := fun a ha z hz => t0.nn.nm z ((t0.g1 a ha).2 z hz).1
      refine ⟨_, rfl, p3, G, dx1, dx2, _, _, rfl, rfl, hp1, hp2, p3, G, ns, ns, ws, ws, rfl, hG7, t5.g, t0.nn.nm, t0.nn.nm, hal, hal, ?_⟩
      rw [eqG_refl]
      exact ⟨true, rfl, true, true, rfl, kq _⟩
end
end
end Qp
namespace Qp
open PySem L2
/-- what is handed and what is kept are alike -/
def Alk (H : Hp) (y x : V) (G : Addr) : Prop := ((∃ k, IsK H y k ∧ k ≠ .dct ∧ y = x) ∨ ∃ a b kvs, y = .ref a ∧ x = .ref b ∧ H a = some (.dK kvs) ∧ H b = some (.dK kvs) ∧ ∀ key v, valV kvs key = some v → ∃ k, IsK H v k) ∨ (y = .ref G ∧ x = .ref G)
theorem Alk.same {H H' : Hp} (s : Same H H') {y x : V} {G : Addr} (h : Alk H y x G) : Alk H' y x G := by
  rcases h with (⟨k, ik, hk, e⟩ | ⟨a, b, kvs, e1, e2, h1, h2, h3⟩) | h
  · exact .inl (.inl ⟨k, ik.same s, hk, e⟩)
  · exact .inl (.inr ⟨a, b, kvs, e1, e2, s _ _ h1, s _ _ h2, fun key v hv => (h3 key v hv).imp fun _ q => q.same s⟩)
  · exact .inr h
/-- what came of the call -/
def Came (C : Addr) (H : Hp) (x told turned : V) (ns : List Str) (ws : Str → List Str) (r : Option Str) : Prop :=
  (r = none ∧ told = .non ∧ ∃ p2 d kvs, turned = .ref p2 ∧ x = .ref d ∧ H d = some (.dK kvs) ∧ Ren kvs ns ∧ GroupAt C H p2 (ns.map (fN kvs)) (wsR (fN kvs) ns ws)) ∨ ∃ z, r = some z ∧ told = .str z ∧ turned = .non
theorem Came.same {C : Addr} {H H' : Hp} (s : Same H H') {x told turned : V} {ns : List Str} {ws : Str → List Str} {r : Option Str} (h : Came C H x told turned ns ws r) : Came C H' x told turned ns ws r := by
  rcases h with ⟨e1, e2, p2, d, kvs, e3, e4, h1, h2, h3⟩ | h
  · exact .inl ⟨e1, e2, p2, d, kvs, e3, e4, s _ _ h1, h2, h3.same s⟩
  · exact .inr h
section
variable {P : Program} {w : World} {K : PySem.W.Frag} {mg : Str → Option Value} {base : Heap}
variable {C CN CB CW fG fX : Addr} {f : Addr} {cdv : Value} {A : Around} {outer : List Env} {s : Shared} {H0 : Hp} {E0' : XK} {Q : VK}
theorem law21 (T : LawT P w K mg base C CN CB CW fG fX) (B : Bl mg) (hr : Room 6 (A.deeper (PyProof.Rows.envOfC "law" (defScope slaw) s.heap.objs.size f cdv))) (kq : ∀ H', Q (.bl true) H') :
    ∃ t, PSs (cxOf CX0 P w K mg base nLaw "law" (defScope slaw) f cdv A outer s H0 E0').nox ((defBody slaw).drop 21) t ∧
      ∀ (H : Hp) (v0 v1 v2 : Option V) (N W G : Addr) (x y told turned : V) (v6 v8 v9 v14 v15 v16 v17 v18 : Option V) (ns ord : List Str) (ws : Str → List Str) (r : Option Str), F10 C H N W G ns ord ws → Alk H y x G → Came C H x told turned ns ws r →
        t { nx := fun _ H' => Q .non H', rt := Q } (lS v0 v1 v2 N W G v6 (some x) v8 v9 (some (vDueS r)) (some y) (some told) (some turned) v14 v15 v16 v17 v18) H := by
  obtain ⟨t, ht, q⟩ := law24 (outer := outer) (H0 := H0) (E0' := E0') T B hr kq
  have hr1 : Room 1 _ := hr.mono (by decide)
  have hr2 : Room 2 _ := hr.mono (by decide)
  have hr4 : Room 4 _ := hr.mono (by decide)
  obtain ⟨fE, fdE, FE, ME, bE⟩ := T.eqn.ex
  refine ⟨_, pss_cons (ps_if (PW.pt (pw_or (pt_cmpR ((op_neV hr.units).or (op_neO T.nc ME FE hr2 bE)) (pv 11) (pv 7) (nomark _))
      (pw_or1 (pt_not (pt_val (pe_cf T.row hr1 pass0 (pa_cons (pe_cf T.shows hr4 pass0 (pa_cons (pv 5) pa_nil)) (pa_cons (pe_cf T.model hr1 pass0 (pa_cons (pv 3) (pa_cons (pv 4) pa_nil))) pa_nil))))))))  pss_never pss_nil)
    (pss_cons (ps_if (pt_cmp (pc_notN (pv 10))) (pss_one (ps_ret (pe_and (pe_cmp (pc_isN (pv 13)) rfl) (pe_and (pe_isi kit_str B.isi B.str (pv 12)) (pe_one (pe_cmpR op_eq (pv 12) (pv 10) (nomark _))))))) pss_nil)
    (pss_cons (ps_if (pt_cmp (pc_notN (pv 12))) pss_never pss_nil) ht)), ?_⟩
  rintro H v0 v1 v2 N W G x y told turned v6 v8 v9 v14 v15 v16 v17 v18 ns ord ws r t0 hA hC
  have hnl := t0.nn.len
  have hal : allN ns ws := fun a ha z hz => t0.nn.nm z ((t0.g1 a ha).2 z hz).1
  refine ⟨_, rfl, _, rfl, ?_⟩
  have hne : ∀ {Q' : VK}, Q' (.bl false) H → (fun (x y : V) (H : Hp) (Q : VK) => rNeV x y H Q ∨ rEqO C (spEqG C) true x y H Q) y x H Q' := fun q' => by
    rcases hA with h | ⟨rfl, rfl⟩
    · exact .inl ⟨h, q'⟩
    · have hG := t0.g
      have hG2 := t0.g
      obtain ⟨dx, _, _, _, _, hp, _⟩ := hG2
      refine .inr ⟨G, G, dx, dx, _, _, rfl, rfl, hp, hp, G, G, ns, ns, ws, ws, rfl, hG, hG, t0.nn.nm, t0.nn.nm, hal, hal, ?_⟩
      rw [eqG_refl]
      exact ⟨true, rfl, q'⟩
  refine hne ⟨_, rfl, iteF ?_⟩
  refine ⟨_, rfl, G, ns, ws, rfl, t0.g, by omega, fun l1 H1 s1 M1 => ?_⟩
  have t1 := t0.same s1
  obtain ⟨adW, eW, rW⟩ := id t1.w
  refine ⟨_, rfl, _, rfl, N, W, ns, _, ws, rfl, t1.n, by omega, eW, fun a ha => ⟨adW a, valV_rows (t0.pw.mem_iff.mpr ha), (rW a (t0.pw.mem_iff.mpr ha)).1⟩, fun l2 H2 s2 M2 => ?_⟩
  dsimp only [tNil]
  refine row_rows (M1.same s2) M2 (fun a ha => ⟨t0.nn.nm a ha, fun z hz => t0.nn.nm z ((t0.g1 a ha).2 z hz).1⟩) ⟨_, rfl, iteF ?_⟩
  have t2 := t1.same s2
  rcases (hC.same s1).same s2 with ⟨rfl, rfl, p2, d, kvs, rfl, rfl, hd, hR, hG⟩ | ⟨z, rfl, rfl, rfl⟩
  · refine ⟨_, rfl, _, rfl, iteF ?_⟩
    refine ⟨_, rfl, _, rfl, iteF ?_⟩
    exact q H2 _ _ _ N W G d p2 _ _ _ _ _ _ _ _ _ _ _ ns ord ws kvs t2 hd hR hG
  · refine ⟨_, rfl, _, rfl, iteT ?_⟩
    refine ⟨_, rfl, _, rfl, iteT ⟨_, rfl, _, .str, rfl, .str z, true, rfl, iteT ⟨_, rfl, _, rfl, rfl, ?_⟩⟩⟩
    have e : decide (V.str z = V.str z) = true := decide_eq_true rfl
    show Q (.bl (decide (V.str z = V.str z))) H2
    rw [e]
    exact kq _
theorem law18 (T : LawT P w K mg base C CN CB CW fG fX) (B : Bl mg) (hr : Room 6 (A.deeper (PyProof.Rows.envOfC "law" (defScope slaw) s.heap.objs.size f cdv))) (kq : ∀ H', Q (.bl true) H') :
    ∃ t, PSs (cxOf CX0 P w K mg base nLaw "law" (defScope slaw) f cdv A outer s H0 E0').nox ((defBody slaw).drop 18) t ∧
      ∀ (H : Hp) (v0 v1 v2 : Option V) (N W G : Addr) (x y : V) (v6 v8 v9 v12 v13 v14 v15 v16 v17 v18 : Option V) (ns ord : List Str) (ws : Str → List Str) (o : Option (List (Key × V))) (r : Option Str), F10 C H N W G ns ord ws → NewV K H x o → NewV K H y o → Alk H y x G → IsDue ns r o → (r = none → ∃ kvs, o = some kvs ∧ Ren kvs ns ∧ hasB kvs ns = true) →
        t { nx := fun _ H' => Q .non H', rt := Q } (lS v0 v1 v2 N W G v6 (some x) v8 v9 (some (vDueS r)) (some y) v12 v13 v14 v15 v16 v17 v18) H := by
  obtain ⟨t, ht, q⟩ := law21 (outer := outer) (H0 := H0) (E0' := E0') T B hr kq
  obtain ⟨fR, fdR, FR, MR, bR⟩ := T.ren.ex
  refine ⟨_, pss_cons (ps_set (i := 12) sclaw.nd rfl (Or.inl rfl) pe_non)
    (pss_cons (ps_set (i := 13) sclaw.nd rfl (Or.inl rfl) pe_non)
    (pss_cons (ps_try_as (i := 14) (tb := fun W => tAsg (tMethAt C "renamed" (spRen K C CN) (WE W) (tVar 5) (tCons (tVar 11) tNil)) (gName 13)) (ts := fun a cls d => tAsg (tByOwn CN "person" a cls d (tVar 14)) (gName 12)) (Wout := fun _ _ _ _ => False) rfl rfl sclaw.nd rfl rfl ⟨rfl, by decide, Or.inl T.bn.gC⟩ takes0
      (fun W pn xe tk _ => pss_one (ps_set (i := 13) sclaw.nd rfl (Or.inl rfl) (by exact (pe_methAt (pv 5) T.g.cl MR FR hr bR (fun σ => passAt tk σ) (pa_cons (pv 11) pa_nil)))))
      (fun a oe cls d pn hz hf => pss_one (ps_set (i := 12) sclaw.nd rfl (Or.inl rfl) (by exact (pe_byOwn T.bn hz hf (pv 14)))))) ht)), ?_⟩
  rintro H v0 v1 v2 N W G x y v6 v8 v9 v12 v13 v14 v15 v16 v17 v18 ns ord ws o r t0 hx hy hA hdue hren
  have hG := t0.g
  have hG2 := t0.g
  obtain ⟨dx, a0, d1, d2, d3, hp, _⟩ := hG2
  refine ⟨_, rfl, G, dx, _, rfl, hp, gF_no _ _ _ _ (by decide +kernel) (by decide +kernel) (by decide +kernel) (by decide +kernel), _, rfl, G, y, ns, ws, o, r, rfl, hG, t0.nn, t0.g1, hy, hdue, fun er kvs eo hR p2 H1 s1 hG1 => ?_, fun z hz d H1 s1 e1 => ?_⟩
  · subst er
    subst eo
    obtain ⟨d, rfl, hd, _⟩ := hx
    exact q H1 _ _ _ N W G _ _ _ _ _ _ _ _ _ _ _ _ ns ord ws none (t0.same s1) (hA.same s1) (.inl ⟨rfl, rfl, p2, d, kvs, rfl, rfl, s1 _ _ hd, hR, hG1⟩)
  · subst hz
    refine ⟨true, T.bn.te, fun _ a0 _ => ?_, fun q => Bool.noConfusion q⟩
    refine ⟨_, rfl, rfl, rfl, d, _, rfl, e1, ?_⟩
    exact q H1 _ _ _ N W G _ _ _ _ _ _ _ _ _ _ _ _ ns ord ws (some z) (t0.same s1) (hA.same s1) (.inr ⟨z, rfl, rfl, rfl⟩)
theorem law15 (T : LawT P w K mg base C CN CB CW fG fX) (B : Bl mg) (hr : Room 6 (A.deeper (PyProof.Rows.envOfC "law" (defScope slaw) s.heap.objs.size f cdv))) (kq : ∀ H', Q (.bl true) H') :
    ∃ t, PSs (cxOf CX0 P w K mg base nLaw "law" (defScope slaw) f cdv A outer s H0 E0').nox ((defBody slaw).drop 15) t ∧
      ∀ (H : Hp) (v0 v1 v2 : Option V) (N W G : Addr) (x : V) (v6 v8 v9 v10 v11 v12 v13 v14 v15 v16 v17 v18 : Option V) (ns ord : List Str) (ws : Str → List Str) (o : Option (List (Key × V))), F10 C H N W G ns ord ws → NewV K H x o → (o = none → (∃ k, IsK H x k ∧ k ≠ .dct) ∨ x = .ref G) →
        t { nx := fun _ H' => Q .non H', rt := Q } (lS v0 v1 v2 N W G v6 (some x) v8 v9 v10 v11 v12 v13 v14 v15 v16 v17 v18) H := by
  obtain ⟨t, ht, q⟩ := law18 (outer := outer) (H0 := H0) (E0' := E0') T B hr kq
  have hr2 : Room 2 _ := hr.mono (by decide)
  refine ⟨_, pss_cons (ps_set (i := 10) sclaw.nd rfl (Or.inl rfl) (pe_cf T.due hr2 pass0 (pa_cons (pv 3) (pa_cons (pv 7) pa_nil))))
    (pss_cons (ps_set (i := 11) sclaw.nd rfl (Or.inl rfl) (pv 7))
    (pss_cons (ps_if (pt_val (pe_isiD B.isi B.dct (pv 7))) (pss_one (ps_set (i := 11) sclaw.nd rfl (Or.inl rfl) (pe_callTy call_dictD (by rfl) B.dct (by decide +kernel) (pa_cons (pv 7) pa_nil)))) pss_nil) ht)), ?_⟩
  rintro H v0 v1 v2 N W G x v6 v8 v9 v10 v11 v12 v13 v14 v15 v16 v17 v18 ns ord ws o t0 hx hk
  have hnl := t0.nn.len
  refine ⟨_, rfl, _, rfl, N, x, ns, o, rfl, t0.n, by omega, hx, fun r H1 hdue hren s1 => ?_⟩
  have t1 := t0.same s1
  have hx1 := hx.same s1
  refine ⟨_, rfl, ?_⟩
  cases o with
  | none =>
    refine ⟨_, rfl, .inr ⟨x, rfl, hx1, _, rfl, iteF ?_⟩⟩
    refine q H1 _ _ _ N W G x x _ _ _ _ _ _ _ _ _ _ ns ord ws none r t1 hx1 hx1 ?_ hdue hren
    rcases hk rfl with ⟨k, ik, h⟩ | h
    · exact .inl (.inl ⟨k, ik.same s1, h, rfl⟩)
    · exact .inr ⟨h, h⟩
  | some kvs =>
    have hx2 := hx1
    obtain ⟨d, rfl, hd, hv⟩ := hx2
    refine ⟨_, rfl, .inl ⟨_, .dct, rfl, .dct hd, _, rfl, iteT ?_⟩⟩
    refine ⟨_, rfl, d, kvs, rfl, .inl hd, fun D hD => ?_⟩
    have s2 : Same H1 (upd H1 D (.dK kvs)) := Same.new hD
    have eD : (upd H1 D (.dK kvs)) D = some (.dK kvs) := upd_same
    generalize upd H1 D (.dK kvs) = H2 at s2 eD
    refine q H2 _ _ _ N W G (.ref d) (.ref D) _ _ _ _ _ _ _ _ _ _ ns ord ws (some kvs) r (t1.same s2) (hx1.same s2) ⟨D, rfl, eD, fun key v hv' => ?_⟩ (.inl (.inr ⟨D, d, kvs, rfl, rfl, eD, s2 _ _ hd, fun key v hv' => ?_⟩)) hdue hren
    · exact ⟨(hv key v hv').1.imp fun _ q => q.same s2, (hv key v hv').2⟩
    · exact (hv key v hv').1.imp fun _ q => q.same s2
end
end Qp
namespace Qp
open PySem L2
theorem drop_self {k : Key} : ∀ {kvs : List (Key × V)}, valV (dropK kvs k) k = none
  | [] => rfl
  | (k0, v0) :: r => by
    have ih := drop_self (k := k) (kvs := r)
    unfold dropK at ih ⊢
    by_cases e : k0 = k
    · rw [List.filter_cons_of_neg (by simp [e])]
      exact ih
    · rw [List.filter_cons_of_pos (by simp [e]), valV_neg e]
      exact ih
theorem drop_sub {k key : Key} {x : V} : ∀ {kvs : List (Key × V)}, valV (dropK kvs k) key = some x → valV kvs key = some x
  | [], h => h
  | (k0, v0) :: r, h => by
    by_cases e : k0 = k
    · have h2 : valV (dropK r k) key = some x := by
        unfold dropK at h ⊢
        rw [List.filter_cons_of_neg (by simp [e])] at h
        exact h
      have hne : ¬ k0 = key := fun z => by
        rw [← z, e, drop_self] at h2
        cases h2
      rw [valV_neg hne]
      exact drop_sub h2
    · unfold dropK at h
      rw [List.filter_cons_of_pos (by simp [e])] at h
      by_cases e2 : k0 = key
      · rw [valV_pos e2] at h ⊢
        exact h
      · rw [valV_neg e2] at h ⊢
        exact drop_sub h
theorem ints_kd {H : Hp} {n z : Int} : ∀ y ∈ [V.int n, V.int z], ∃ k, IsK H y k := two_kd ⟨_, .int _⟩ ⟨_, .int _⟩
theorem valV_put_or {kvs : List (Key × V)} {k key : Key} {v x : V} (h : valV (putK kvs k v) key = some x) : x = v ∨ valV kvs key = some x := by
  rw [L2.valV_put] at h
  by_cases e : key = k
  · rw [if_pos e] at h
    exact .inl (Option.some.inj h).symm
  · rw [if_neg e] at h
    exact .inr h
def VS (H : Hp) (v : V) : Prop := ∃ o, LstK 2 H v o
theorem VS.but {H H' : Hp} {st : Addr} (s : SameBut st H H') {n z m y : Int} (h1 : H st = some (.lst [.int n, .int z])) (h2 : H' st = some (.lst [.int m, .int y])) {v : V} (h : VS H v) : VS H' v := LstK.butL s h1 h2 (by show 2 ≤ 2; decide) ints_kd h
theorem VS.butD {H H' : Hp} {d : Addr} (s : SameBut d H H') {k1 k2 : List (Key × V)} (hd : H d = some (.dK k1)) (hd' : H' d = some (.dK k2)) {v : V} (h : VS H v) : VS H' v := h.imp fun _ q => q.butD s hd hd'
theorem VS.same {H H' : Hp} (s : Same H H') {v : V} (h : VS H v) : VS H' v := h.imp fun _ q => q.same s
theorem VS.kd {H : Hp} {v : V} (h : VS H v) : (∃ k, IsK H v k) ∧ short v := let ⟨_, k, ik, _, sv⟩ := h; ⟨⟨k, ik⟩, sv⟩
theorem VS.str {H : Hp} {z : Str} (h : nameS z = true) : VS H (.str z) := ⟨none, .str, .str z, (by show Kd.str ≠ Kd.lst; decide), fun y e => by
  cases e
  unfold nameS at h
  rw [Bool.and_eq_true, Bool.and_eq_true] at h
  have := of_decide_eq_true h.1.2
  omega⟩
theorem F10.butS {C : Addr} {H H' : Hp} {st N W G : Addr} {ns ord : List Str} {ws : Str → List Str} {n z : Int} (s : SameBut st H H') (e : H st = some (.lst [.int n, .int z])) (t : F10 C H N W G ns ord ws) : F10 C H' N W G ns ord ws :=
  ⟨s _ _ (ne_of t.n e (lst_int _ _ _)) t.n, RowsG.butS s e t.w (fun _ => lst_int _ _ _), t.g.butS s e, t.nn, t.pw, t.g1⟩
/-- what may be handed -/
def XV (H : Hp) (x : V) (G : Addr) : Prop := (∃ d kvs, x = .ref d ∧ H d = some (.dK kvs) ∧ ∀ key v, valV kvs key = some v → VS H v) ∨ (∃ k, IsK H x k ∧ k ≠ .dct) ∨ x = .ref G
theorem XV.but {H H' : Hp} {st G : Addr} (s : SameBut st H H') {n z m y : Int} (h1 : H st = some (.lst [.int n, .int z])) (h2 : H' st = some (.lst [.int m, .int y])) {x : V} (h : XV H x G) : XV H' x G := by
  rcases h with ⟨d, kvs, e, hd, hv⟩ | ⟨k, ik, hk⟩ | h
  · exact .inl ⟨d, kvs, e, s _ _ (ne_of hd h1 (by intro z; cases z)) hd, fun key v h => (hv key v h).but s h1 h2⟩
  · exact .inr (.inl ⟨k, ik.butL s h1 h2, hk⟩)
  · exact .inr (.inr h)
theorem AnyV.xv {H : Hp} {x : V} {G : Addr} (h : AnyV H x) : XV H x G := by
  obtain ⟨k, ik, _, hd⟩ := h
  by_cases e : k = .dct
  · obtain ⟨a, kvs, e1, e2, e3⟩ := hd e
    exact .inl ⟨a, kvs, e1, e2, e3⟩
  · exact .inr (.inl ⟨k, ik, e⟩)
theorem XV.new {K : PySem.W.Frag} {H : Hp} {x : V} {G : Addr} (h : XV H x G) (hG : NotD K H (.ref G)) : ∃ o, NewV K H x o ∧ (o = none → (∃ k, IsK H x k ∧ k ≠ .dct) ∨ x = .ref G) := by
  rcases h with ⟨d, kvs, e, hd, hv⟩ | ⟨k, ik, hk⟩ | rfl
  · exact ⟨some kvs, ⟨d, e, hd, fun key v h => (hv key v h).kd⟩, fun h => by cases h⟩
  · exact ⟨none, ik.notD hk, fun _ => .inl ⟨k, ik, hk⟩⟩
  · exact ⟨none, hG, fun _ => .inr rfl⟩
/-- while the new names are made -/
structure M9 (C : Addr) (HA H : Hp) (st N W G D Rw : Addr) (ns ord rs : List Str) (ws : Str → List Str) (kvs : List (Key × V)) (b : Nat) : Prop where
  hb : SameBut st HA H
  s : StAt H st
  sA : StAt HA st
  fA : F10 C HA N W G ns ord ws
  d : H D = some (.dK kvs)
  dA : HA D = none
  rA : HA Rw = some (lstO rs)
  rl : rs.length = ns.length
  rn : ∀ z ∈ rs, nameS z = true
  kl : kvs.length ≤ b
  kv : ∀ key v, valV kvs key = some v → VS H v
section
variable {C : Addr} {HA H : Hp} {st N W G D Rw : Addr} {ns ord rs : List Str} {ws : Str → List Str} {kvs : List (Key × V)} {b : Nat}
theorem M9.f (m : M9 C HA H st N W G D Rw ns ord rs ws kvs b) : F10 C H N W G ns ord ws := by
  obtain ⟨n0, z0, est, _⟩ := m.sA
  exact ⟨m.hb _ _ (ne_st m.sA m.fA.n) m.fA.n, RowsG.butS m.hb est m.fA.w (fun _ => lst_int _ _ _), m.fA.g.butS m.hb est, m.fA.nn, m.fA.pw, m.fA.g1⟩
theorem M9.r (m : M9 C HA H st N W G D Rw ns ord rs ws kvs b) : H Rw = some (lstO rs) := m.hb _ _ (ne_st m.sA m.rA) m.rA
theorem M9.but {H' : Hp} (m : M9 C HA H st N W G D Rw ns ord rs ws kvs b) (sb : SameBut st H H') (hs : StAt H' st) : M9 C HA H' st N W G D Rw ns ord rs ws kvs b := by
  obtain ⟨n1, z1, e1, _⟩ := m.s
  obtain ⟨n2, z2, e2, _⟩ := id hs
  exact ⟨m.hb.trans sb, hs, m.sA, m.fA, sb _ _ (ne_of m.d e1 (by intro z; cases z)) m.d, m.dA, m.rA, m.rl, m.rn, m.kl, fun key v h => (m.kv key v h).but sb e1 e2⟩
/-- the dict is written -/
theorem M9.set (m : M9 C HA H st N W G D Rw ns ord rs ws kvs b) {k2 : List (Key × V)} {c : Nat} (hl : k2.length ≤ c) (hv : ∀ key v, valV k2 key = some v → VS H v) : M9 C HA (upd H D (.dK k2)) st N W G D Rw ns ord rs ws k2 c := by
  have sb : SameBut D H (upd H D (.dK k2)) := SameBut.set
  have eD : (upd H D (.dK k2)) D = some (.dK k2) := upd_same
  obtain ⟨n1, z1, e1, hz⟩ := m.s
  refine ⟨fun c o nb e => ?_, ⟨n1, z1, sb _ _ (ne_of e1 m.d (by intro z; cases z)) e1, hz⟩, m.sA, m.fA, eD, m.dA, m.rA, m.rl, m.rn, hl, fun key v h => (hv key v h).butD sb m.d eD⟩
  rw [upd_ne (ne_of_none e m.dA)]
  exact m.hb _ _ nb e
theorem M9.put (m : M9 C HA H st N W G D Rw ns ord rs ws kvs b) {k : Key} {v : V} (hv : VS H v) : M9 C HA (upd H D (.dK (putK kvs k v))) st N W G D Rw ns ord rs ws (putK kvs k v) (b + 1) :=
  m.set (Nat.le_trans (length_putK _ _ _) (Nat.add_le_add_right m.kl 1)) fun key x hx => by
    rcases valV_put_or hx with e | e
    · rw [e]; exact hv
    · exact m.kv key x e
theorem M9.xv (m : M9 C HA H st N W G D Rw ns ord rs ws kvs b) : XV H (.ref D) G := .inl ⟨D, kvs, rfl, m.d, m.kv⟩
end
section
variable {P : Program} {w : World} {K : PySem.W.Frag} {mg : Str → Option Value} {base : Heap}
variable {C CN CB CW fG fX : Addr} {f : Addr} {cdv : Value} {A : Around} {outer : List Env} {s : Shared} {H0 : Hp} {E0' : XK} {Q : VK}
def lR (v0 : Option V) (st : Addr) (sp : Int) (N W G Rw : Addr) (x : V) (v8 v9 : Option V) : St := lS v0 (some (.ref st)) (some (.int sp)) N W G (some (.ref Rw)) (some x) v8 v9 none none none none none none none none none
theorem law14 (T : LawT P w K mg base C CN CB CW fG fX) (B : Bl mg) (hr : Room 6 (A.deeper (PyProof.Rows.envOfC "law" (defScope slaw) s.heap.objs.size f cdv))) (kq : ∀ H', Q (.bl true) H') :
    ∃ t, PSs (cxOf CX0 P w K mg base nLaw "law" (defScope slaw) f cdv A outer s H0 E0').nox ((defBody slaw).drop 14) t ∧
      ∀ (H : Hp) (v0 : Option V) (sp : Int) (st N W G Rw : Addr) (x : V) (v8 v9 : Option V) (ns ord : List Str) (ws : Str → List Str), F10 C H N W G ns ord ws → StAt H st → XV H x G →
        t { nx := fun _ H' => Q .non H', rt := Q } (lR v0 st sp N W G Rw x v8 v9) H := by
  obtain ⟨t, ht, q⟩ := law15 (outer := outer) (H0 := H0) (E0' := E0') T B hr kq
  have hr1 : Room 1 _ := hr.mono (by decide)
  have hr2 : Room 2 _ := hr.mono (by decide)
  have hu := hu_of hr
  have esz : sizeLine = 16777216 := sizeLine_eq
  refine ⟨_, pss_cons (ps_if (PW.pt (pw_and (pt_cmpR op_eq (pv 2) pe_int (nomark _)) (pw_and1 (pt_cmpR op_eq (pe_cf T.take hr1 pass0 (pa_cons (pv 1) (pa_cons pe_int pa_nil))) pe_int (nomark _))))) (pss_one (ps_set (i := 7) sclaw.nd rfl (Or.inr rfl) (pv 5))) pss_nil) ht, ?_⟩
  rintro H v0 sp st N W G Rw x v8 v9 ns ord ws t0 hs hx
  have last : ∀ (H : Hp) (x : V), F10 C H N W G ns ord ws → XV H x G → t { nx := fun _ H' => Q .non H', rt := Q } (lR v0 st sp N W G Rw x v8 v9) H := fun H x t0 hx => by
    obtain ⟨dx, a, d1, d2, d3, hp, _⟩ := t0.g
    obtain ⟨o, h1, h2⟩ := hx.new (T.inst H G dx _ hp)
    exact q H _ _ _ N W G x _ _ _ _ _ _ _ _ _ _ _ _ ns ord ws o t0 h1 h2
  refine ⟨_, rfl, rfl, _, rfl, ite2 (fun _ => ?_) (fun _ => last H x t0 hx)⟩
  refine ⟨_, rfl, st, 4, rfl, by decide, by decide, hs, fun d n1 z1 _ _ a1 a2 a3 => ?_⟩
  have sb : SameBut st H (upd H st (.lst [.int n1, .int z1])) := SameBut.set
  have est1 : (upd H st (.lst [.int n1, .int z1])) st = some (.lst [.int n1, .int z1]) := upd_same
  obtain ⟨n0, z0, est, _⟩ := id hs
  have t1 : F10 C (upd H st (.lst [.int n1, .int z1])) N W G ns ord ws := t0.butS sb est
  have hx1 := hx.but sb est est1
  generalize upd H st (.lst [.int n1, .int z1]) = H1 at sb est1 t1 hx1
  exact ⟨rfl, _, rfl, ite2 (fun _ => ⟨_, rfl, last H1 _ t1 (.inr (.inr rfl))⟩) (fun _ => last H1 x t1 hx1)⟩
theorem law13 (T : LawT P w K mg base C CN CB CW fG fX) (B : Bl mg) (hr : Room 6 (A.deeper (PyProof.Rows.envOfC "law" (defScope slaw) s.heap.objs.size f cdv))) (kq : ∀ H', Q (.bl true) H') :
    ∃ t, PSs (cxOf CX0 P w K mg base nLaw "law" (defScope slaw) f cdv A outer s H0 E0').nox ((defBody slaw).drop 13) t ∧
      ∀ (H : Hp) (v0 : Option V) (sp : Int) (st N W G Rw : Addr) (x : V) (v8 v9 : Option V) (ns ord : List Str) (ws : Str → List Str), F10 C H N W G ns ord ws → StAt H st → XV H x G → (∀ y, v9 = some y → AnyV H y) → v9.isSome = true →
        t { nx := fun _ H' => Q .non H', rt := Q } (lR v0 st sp N W G Rw x v8 v9) H := by
  obtain ⟨t, ht, q⟩ := law14 (outer := outer) (H0 := H0) (E0' := E0') T B hr kq
  have hr1 : Room 1 _ := hr.mono (by decide)
  have hr2 : Room 2 _ := hr.mono (by decide)
  have hu := hu_of hr
  have esz : sizeLine = 16777216 := sizeLine_eq
  refine ⟨_, pss_cons (ps_if (pt_cmpR op_eq (pv 2) pe_int (nomark _)) (pss_one (ps_set (i := 7) sclaw.nd rfl (Or.inr rfl) (pv 9))) pss_nil) ht, ?_⟩
  rintro H v0 sp st N W G Rw x v8 v9 ns ord ws t0 hs hx hy h9
  obtain ⟨y, rfl⟩ := Option.isSome_iff_exists.mp h9
  refine ⟨_, rfl, rfl, _, rfl, ite2 (fun _ => ⟨_, rfl, q H _ _ _ N W G Rw y _ _ ns ord ws t0 hs (hy y rfl).xv⟩) (fun _ => q H _ _ _ N W G Rw x _ _ ns ord ws t0 hs hx)⟩
end
end Qp
namespace Qp
open PySem L2
theorem AnyV.put {C : Addr} {HA H : Hp} {st N W G D Rw : Addr} {ns ord rs : List Str} {ws : Str → List Str} {kvs k2 : List (Key × V)} {b c : Nat} {y : V} (m : M9 C HA H st N W G D Rw ns ord rs ws kvs b) (m2 : M9 C HA (upd H D (.dK k2)) st N W G D Rw ns ord rs ws k2 c) (h : AnyV H y) : AnyV (upd H D (.dK k2)) y :=
  AnyV.butD SameBut.set m.d m2.d m2.kv h
theorem put_some {kvs : List (Key × V)} {k key : Key} {v : V} (h : (valV kvs key).isSome = true) : (valV (putK kvs k v) key).isSome = true := by
  rw [valV_put]
  split
  · rfl
  · exact h
theorem AnyV.vs {H : Hp} {y : V} (h : AnyV H y) : VS H y := h.lstK
theorem at_pick {ns : List Str} {d : Int} (h0 : 0 ≤ d) (h1 : d < ns.length) : ∃ a, ns[d.toNat]? = some a ∧ atI (ns.map V.str) d = some (.str a) := by
  obtain ⟨a, ea⟩ : ∃ a, ns[d.toNat]? = some a := ⟨_, List.getElem?_eq_getElem (by omega)⟩
  refine ⟨a, ea, ?_⟩
  have q := atI_str ea
  rw [show ((d.toNat : Nat) : Int) = d by omega] at q
  exact q
theorem M9.up {C : Addr} {HA H : Hp} {st N W G D Rw : Addr} {ns ord rs : List Str} {ws : Str → List Str} {kvs : List (Key × V)} {b c : Nat} (m : M9 C HA H st N W G D Rw ns ord rs ws kvs b) (h : b ≤ c) : M9 C HA H st N W G D Rw ns ord rs ws kvs c :=
  ⟨m.hb, m.s, m.sA, m.fA, m.d, m.dA, m.rA, m.rl, m.rn, Nat.le_trans m.kl h, m.kv⟩
section
variable {P : Program} {w : World} {K : PySem.W.Frag} {mg : Str → Option Value} {base : Heap}
variable {C CN CB CW fG fX : Addr} {f : Addr} {cdv : Value} {A : Around} {outer : List Env} {s : Shared} {H0 : Hp} {E0' : XK} {Q : VK}
theorem law12 (T : LawT P w K mg base C CN CB CW fG fX) (B : Bl mg) (hr : Room 6 (A.deeper (PyProof.Rows.envOfC "law" (defScope slaw) s.heap.objs.size f cdv))) (kq : ∀ H', Q (.bl true) H') :
    ∃ t, PSs (cxOf CX0 P w K mg base nLaw "law" (defScope slaw) f cdv A outer s H0 E0').nox ((defBody slaw).drop 12) t ∧
      ∀ (HA H : Hp) (v0 : Option V) (sp : Int) (st N W G D Rw : Addr) (y : V) (v8 : Option V) (ns ord rs : List Str) (ws : Str → List Str) (kvs : List (Key × V)), M9 C HA H st N W G D Rw ns ord rs ws kvs 100 → AnyV H y → 
        t { nx := fun _ H' => Q .non H', rt := Q } (lR v0 st sp N W G Rw (.ref D) v8 (some y)) H := by
  obtain ⟨t, ht, q⟩ := law13 (outer := outer) (H0 := H0) (E0' := E0') T B hr kq
  have hr1 : Room 1 _ := hr.mono (by decide)
  have hr2 : Room 2 _ := hr.mono (by decide)
  have hu := hu_of hr
  have esz : sizeLine = 16777216 := sizeLine_eq
  refine ⟨_, pss_cons (ps_if (pt_cmpR op_eq (pv 2) pe_int (nomark _)) (pss_one (ps_dput hu (pv 7) (pe_cf T.name hr2 pass0 (pa_cons (pv 1) (pa_cons (pv 3) pa_nil))) (pe_cf T.name hr2 pass0 (pa_cons (pv 1) (pa_cons (pv 6) pa_nil))) rfl)) pss_nil) ht, ?_⟩
  rintro HA H v0 sp st N W G D Rw y v8 ns ord rs ws kvs m hy
  have hnl := m.fA.nn.len
  have hrl := m.rl
  refine ⟨_, rfl, rfl, _, rfl, ite2 (fun _ => ?_) (fun _ => q H _ _ _ N W G Rw _ _ _ ns ord ws m.f m.s m.xv (fun y' e => by cases e; exact hy) rfl)⟩
  refine ⟨_, rfl, _, rfl, st, Rw, rs, rfl, m.s, m.r, by omega, fun z1 H1 sb1 hs1 nm1 _ => ?_⟩
  have m1 := m.but sb1 hs1
  obtain ⟨n0, i0, e0, _⟩ := m.s
  obtain ⟨n1, i1, e1, _⟩ := id hs1
  have hy1 := hy.but sb1 e0 e1
  refine ⟨_, rfl, _, rfl, _, rfl, st, N, ns, rfl, hs1, m1.f.n, by omega, fun z2 H2 sb2 hs2 _ _ => ?_⟩
  have m2 := m1.but sb2 hs2
  obtain ⟨n2, i2, e2, _⟩ := id hs2
  have hy2 := hy1.but sb2 e1 e2
  have hkl := m2.kl
  refine ⟨D, _, rfl, DPut.k (k := Sum.inr z2) m2.d (by omega), ?_⟩
  have m3 := m2.put (k := Sum.inr z2) (VS.str nm1)
  have hy3 := AnyV.put m2 m3 hy2
  exact q _ _ _ _ N W G Rw _ _ _ ns ord ws m3.f m3.s m3.xv (fun y' e => by cases e; exact hy3) rfl
theorem law11 (T : LawT P w K mg base C CN CB CW fG fX) (B : Bl mg) (hr : Room 6 (A.deeper (PyProof.Rows.envOfC "law" (defScope slaw) s.heap.objs.size f cdv))) (kq : ∀ H', Q (.bl true) H') :
    ∃ t, PSs (cxOf CX0 P w K mg base nLaw "law" (defScope slaw) f cdv A outer s H0 E0').nox ((defBody slaw).drop 11) t ∧
      ∀ (HA H : Hp) (v0 : Option V) (sp : Int) (st N W G D Rw : Addr) (y : V) (v8 : Option V) (ns ord rs : List Str) (ws : Str → List Str) (kvs : List (Key × V)), M9 C HA H st N W G D Rw ns ord rs ws kvs 100 → (∀ z ∈ ns, (valV kvs (Sum.inr z)).isSome = true) → AnyV H y → 
        t { nx := fun _ H' => Q .non H', rt := Q } (lR v0 st sp N W G Rw (.ref D) v8 (some y)) H := by
  obtain ⟨t, ht, q⟩ := law12 (outer := outer) (H0 := H0) (E0' := E0') T B hr kq
  have hr1 : Room 1 _ := hr.mono (by decide)
  have hr2 : Room 2 _ := hr.mono (by decide)
  have hu := hu_of hr
  have esz : sizeLine = 16777216 := sizeLine_eq
  refine ⟨_, pss_cons (ps_if (PW.pt (pw_and (pt_truth (pv 3) (by intro _; rfl)) (pw_and1 (pt_cmpR op_eq (pv 2) pe_int (nomark _)))))
      (pss_one (ps_expr (pe_dpop1 (pv 7) (pe_ix ix_list (pv 3) (pe_cf T.take hr1 pass0 (pa_cons (pv 1) (pa_cons (pe_callB call_len_seq (by rfl) B.len PySem.boot_len (pa_cons (pv 3) pa_nil)) pa_nil))) (fun _ _ => rfl)) ⟨rfl, rfl, rfl, rfl⟩))) pss_nil) ht, ?_⟩
  rintro HA H v0 sp st N W G D Rw y v8 ns ord rs ws kvs m hks hy
  have hnl := m.fA.nn.len
  have hrl := m.rl
  have skip := q HA H v0 sp st N W G D Rw y v8 ns ord rs ws kvs m hy
  refine ⟨_, rfl, _, .inl ⟨_, SqL.of m.f.n, rfl⟩, ?_⟩
  cases ens : ns with
  | nil =>
    rw [← ens]
    exact (if_neg (by rw [ens]; decide)).mpr (iteF skip)
  | cons x0 xr =>
    rw [← ens]
    have hpos : 0 < ns.length := by rw [ens]; exact Nat.succ_pos _
    refine (if_pos (by rw [ens]; rfl)).mpr ?_
    refine ⟨_, rfl, rfl, _, rfl, ite2 (fun _ => ?_) (fun _ => skip)⟩
    refine ⟨_, rfl, D, rfl, .inl ⟨kvs, .inl m.d⟩, _, rfl, _, rfl, _, rfl, N, _, rfl, .inl (SqL.of m.f.n), st, ns.length, by rw [List.length_map]; rfl, by omega, by omega, m.s, fun d n1 z1 hd0 hd1 a1 a2 a3 => ?_⟩
    have sb : SameBut st H (upd H st (.lst [.int n1, .int z1])) := SameBut.set
    have est1 : (upd H st (.lst [.int n1, .int z1])) st = some (.lst [.int n1, .int z1]) := upd_same
    obtain ⟨n0, z0, est, _⟩ := m.s
    have m1 := m.but sb ⟨n1, z1, est1, a1, a2, a3⟩
    have hy1 := hy.but sb est est1
    generalize upd H st (.lst [.int n1, .int z1]) = H1 at sb est1 m1 hy1
    obtain ⟨a, ea, eat⟩ := at_pick hd0 hd1
    obtain ⟨v, hv⟩ := Option.isSome_iff_exists.mp (hks a (List.mem_of_getElem? ea))
    refine ⟨N, _, d, .str a, rfl, rfl, SqL.of m1.f.n, eat, kvs, Sum.inr a, v, m1.d, rfl, hv, ?_⟩
    have m2 := m1.set (k2 := dropK kvs (Sum.inr a)) (c := 100) (Nat.le_trans (dropK_le _ _) m1.kl) fun key x hx => m1.kv key x (drop_sub hx)
    exact q HA _ v0 sp st N W G D Rw y v8 ns ord rs ws _ m2 (AnyV.put m1 m2 hy1)
theorem law10 (T : LawT P w K mg base C CN CB CW fG fX) (B : Bl mg) (hr : Room 6 (A.deeper (PyProof.Rows.envOfC "law" (defScope slaw) s.heap.objs.size f cdv))) (kq : ∀ H', Q (.bl true) H') :
    ∃ t, PSs (cxOf CX0 P w K mg base nLaw "law" (defScope slaw) f cdv A outer s H0 E0').nox ((defBody slaw).drop 10) t ∧
      ∀ (HA H : Hp) (v0 : Option V) (sp : Int) (st N W G D Rw : Addr) (y : V) (v8 : Option V) (ns ord rs : List Str) (ws : Str → List Str) (kvs : List (Key × V)), M9 C HA H st N W G D Rw ns ord rs ws kvs 50 → (∀ z ∈ ns, (valV kvs (Sum.inr z)).isSome = true) → AnyV H y → 
        t { nx := fun _ H' => Q .non H', rt := Q } (lR v0 st sp N W G Rw (.ref D) v8 (some y)) H := by
  obtain ⟨t, ht, q⟩ := law11 (outer := outer) (H0 := H0) (E0' := E0') T B hr kq
  have hr1 : Room 1 _ := hr.mono (by decide)
  have hr2 : Room 2 _ := hr.mono (by decide)
  have hu := hu_of hr
  have esz : sizeLine = 16777216 := sizeLine_eq
  refine ⟨_, pss_cons (ps_if (PW.pt (pw_and (pt_truth (pv 3) (by intro _; rfl)) (pw_and1 (PW.pt (pw_or (pt_cmpR op_eq (pv 2) pe_int (nomark _)) (pw_or1 (pt_cmpR op_eq (pv 2) pe_int (nomark _))))))))
      (pss_one (ps_dput hu (pv 7) (pe_ix ix_list (pv 3) (pe_cf T.take hr1 pass0 (pa_cons (pv 1) (pa_cons (pe_callB call_len_seq (by rfl) B.len PySem.boot_len (pa_cons (pv 3) pa_nil)) pa_nil))) (fun _ _ => rfl)) (pe_ix ix_list (pv 6) (pe_cf T.take hr1 pass0 (pa_cons (pv 1) (pa_cons (pe_callB call_len_seq (by rfl) B.len PySem.boot_len (pa_cons (pv 3) pa_nil)) pa_nil))) (fun _ _ => rfl)) rfl)) pss_nil) ht, ?_⟩
  rintro HA H v0 sp st N W G D Rw y v8 ns ord rs ws kvs m hks hy
  have hnl := m.fA.nn.len
  have hrl := m.rl
  have skip := q HA H v0 sp st N W G D Rw y v8 ns ord rs ws kvs (m.up (by decide)) hks hy
  refine ⟨_, rfl, _, .inl ⟨_, SqL.of m.f.n, rfl⟩, ?_⟩
  cases ens : ns with
  | nil =>
    rw [← ens]
    exact (if_neg (by rw [ens]; decide)).mpr (iteF skip)
  | cons x0 xr =>
    rw [← ens]
    have hpos : 0 < ns.length := by rw [ens]; exact Nat.succ_pos _
    refine (if_pos (by rw [ens]; rfl)).mpr ?_
    refine ⟨_, rfl, rfl, _, rfl, ite2 (fun _ => ?_) (fun _ => ⟨_, rfl, rfl, _, rfl, ite2 (fun _ => ?_) (fun _ => skip)⟩)⟩
    all_goals
      refine ⟨_, rfl, _, rfl, _, rfl, N, _, rfl, .inl (SqL.of m.f.n), st, ns.length, by rw [List.length_map]; rfl, by omega, by omega, m.s, fun d1 n1 z1 hd10 hd11 a1 b1 c1 => ?_⟩
      have sb1 : SameBut st H (upd H st (.lst [.int n1, .int z1])) := SameBut.set
      have est1 : (upd H st (.lst [.int n1, .int z1])) st = some (.lst [.int n1, .int z1]) := upd_same
      obtain ⟨n01, z01, es1, _⟩ := m.s
      have m1 := m.but sb1 ⟨n1, z1, est1, a1, b1, c1⟩
      have hy1 := hy.but sb1 es1 est1
      generalize upd H st (.lst [.int n1, .int z1]) = H1 at m1 hy1
      obtain ⟨z, ez, ezt⟩ := at_pick (ns := rs) hd10 (by omega)
      refine ⟨Rw, _, d1, .str z, rfl, rfl, SqL.of m1.r, ezt, _, rfl, _, rfl, _, rfl, _, rfl, N, _, rfl, .inl (SqL.of m1.f.n), st, ns.length, by rw [List.length_map]; rfl, by omega, by omega, m1.s, fun d2 n2 z2 hd20 hd21 a2 b2 c2 => ?_⟩
      have sb2 : SameBut st H1 (upd H1 st (.lst [.int n2, .int z2])) := SameBut.set
      have est2 : (upd H1 st (.lst [.int n2, .int z2])) st = some (.lst [.int n2, .int z2]) := upd_same
      obtain ⟨n02, z02, es2, _⟩ := m1.s
      have m2 := m1.but sb2 ⟨n2, z2, est2, a2, b2, c2⟩
      have hy2 := hy1.but sb2 es2 est2
      generalize upd H1 st (.lst [.int n2, .int z2]) = H2 at m2 hy2
      obtain ⟨a, ea, eat⟩ := at_pick (ns := ns) hd20 hd21
      have hkl := m2.kl
      refine ⟨N, _, d2, .str a, rfl, rfl, SqL.of m2.f.n, eat, D, _, rfl, DPut.k (k := Sum.inr a) m2.d (by omega), ?_⟩
      have m3 := m2.put (k := Sum.inr a) (VS.str (m.rn z (List.mem_of_getElem? ez)))
      exact q HA _ v0 sp st N W G D Rw y v8 ns ord rs ws _ (m3.up (by decide)) (fun x hx => put_some (hks x hx)) (AnyV.put m2 m3 hy2)
theorem law9 (T : LawT P w K mg base C CN CB CW fG fX) (B : Bl mg) (hr : Room 6 (A.deeper (PyProof.Rows.envOfC "law" (defScope slaw) s.heap.objs.size f cdv))) (kq : ∀ H', Q (.bl true) H') :
    ∃ t, PSs (cxOf CX0 P w K mg base nLaw "law" (defScope slaw) f cdv A outer s H0 E0').nox ((defBody slaw).drop 9) t ∧
      ∀ (HA H : Hp) (v0 : Option V) (sp : Int) (st N W G D Rw : Addr) (y : V) (v8 : Option V) (ns ord rs : List Str) (ws : Str → List Str) (kvs : List (Key × V)), M9 C HA H st N W G D Rw ns ord rs ws kvs 40 → (∀ z ∈ ns, (valV kvs (Sum.inr z)).isSome = true) → AnyV H y → 
        t { nx := fun _ H' => Q .non H', rt := Q } (lR v0 st sp N W G Rw (.ref D) v8 (some y)) H := by
  obtain ⟨t, ht, q⟩ := law10 (outer := outer) (H0 := H0) (E0' := E0') T B hr kq
  have hr1 : Room 1 _ := hr.mono (by decide)
  have hr2 : Room 2 _ := hr.mono (by decide)
  have hu := hu_of hr
  have esz : sizeLine = 16777216 := sizeLine_eq
  refine ⟨_, pss_cons (ps_if (PW.pt (pw_and (pt_truth (pv 3) (by intro _; rfl)) (pw_and1 (PW.pt (pw_or (pt_cmpR op_eq (pv 2) pe_int (nomark _)) (pw_or1 (pt_cmpR op_eq (pv 2) pe_int (nomark _))))))))
      (pss_one (ps_dput hu (pv 7) (pe_ix ix_list (pv 3) (pe_cf T.take hr1 pass0 (pa_cons (pv 1) (pa_cons (pe_callB call_len_seq (by rfl) B.len PySem.boot_len (pa_cons (pv 3) pa_nil)) pa_nil))) (fun _ _ => rfl)) (pv 9) rfl)) pss_nil) ht, ?_⟩
  rintro HA H v0 sp st N W G D Rw y v8 ns ord rs ws kvs m hks hy
  have hnl := m.fA.nn.len
  have hrl := m.rl
  have skip := q HA H v0 sp st N W G D Rw y v8 ns ord rs ws kvs (m.up (by decide)) hks hy
  refine ⟨_, rfl, _, .inl ⟨_, SqL.of m.f.n, rfl⟩, ?_⟩
  cases ens : ns with
  | nil =>
    rw [← ens]
    exact (if_neg (by rw [ens]; decide)).mpr (iteF skip)
  | cons x0 xr =>
    rw [← ens]
    have hpos : 0 < ns.length := by rw [ens]; exact Nat.succ_pos _
    refine (if_pos (by rw [ens]; rfl)).mpr ?_
    refine ⟨_, rfl, rfl, _, rfl, ite2 (fun _ => ?_) (fun _ => ⟨_, rfl, rfl, _, rfl, ite2 (fun _ => ?_) (fun _ => skip)⟩)⟩
    all_goals
      refine ⟨_, rfl, _, rfl, _, rfl, _, rfl, _, rfl, N, _, rfl, .inl (SqL.of m.f.n), st, ns.length, by rw [List.length_map]; rfl, by omega, by omega, m.s, fun d1 n1 z1 hd10 hd11 a1 b1 c1 => ?_⟩
      have sb1 : SameBut st H (upd H st (.lst [.int n1, .int z1])) := SameBut.set
      have est1 : (upd H st (.lst [.int n1, .int z1])) st = some (.lst [.int n1, .int z1]) := upd_same
      obtain ⟨n01, z01, es1, _⟩ := m.s
      have m1 := m.but sb1 ⟨n1, z1, est1, a1, b1, c1⟩
      have hy1 := hy.but sb1 es1 est1
      generalize upd H st (.lst [.int n1, .int z1]) = H1 at m1 hy1
      obtain ⟨a, ea, eat⟩ := at_pick (ns := ns) hd10 hd11
      have hkl := m1.kl
      refine ⟨N, _, d1, .str a, rfl, rfl, SqL.of m1.f.n, eat, D, _, rfl, DPut.k (k := Sum.inr a) m1.d (by omega), ?_⟩
      have m2 := m1.put (k := Sum.inr a) hy1.vs
      exact q HA _ v0 sp st N W G D Rw y v8 ns ord rs ws _ (m2.up (by decide)) (fun x hx => put_some (hks x hx)) (AnyV.put m1 m2 hy1)
theorem law8 (T : LawT P w K mg base C CN CB CW fG fX) (B : Bl mg) (hr : Room 6 (A.deeper (PyProof.Rows.envOfC "law" (defScope slaw) s.heap.objs.size f cdv))) (kq : ∀ H', Q (.bl true) H') :
    ∃ t, PSs (cxOf CX0 P w K mg base nLaw "law" (defScope slaw) f cdv A outer s H0 E0').nox ((defBody slaw).drop 8) t ∧
      ∀ (HA H : Hp) (v0 : Option V) (sp : Int) (st N W G D Rw : Addr) (v8 : Option V) (ns ord rs : List Str) (ws : Str → List Str) (kvs : List (Key × V)), M9 C HA H st N W G D Rw ns ord rs ws kvs 30 → (∀ z ∈ ns, (valV kvs (Sum.inr z)).isSome = true) → 
        t { nx := fun _ H' => Q .non H', rt := Q } (lR v0 st sp N W G Rw (.ref D) v8 none) H := by
  obtain ⟨t, ht, q⟩ := law9 (outer := outer) (H0 := H0) (E0' := E0') T B hr kq
  have hr1 : Room 1 _ := hr.mono (by decide)
  have hr2 : Room 2 _ := hr.mono (by decide)
  have hu := hu_of hr
  have esz : sizeLine = 16777216 := sizeLine_eq
  refine ⟨_, pss_cons (ps_set (i := 9) sclaw.nd rfl (Or.inl rfl) (pe_cf T.val hr2 pass0 (pa_cons (pv 1) pa_nil))) ht, ?_⟩
  rintro HA H v0 sp st N W G D Rw v8 ns ord rs ws kvs m hks
  refine ⟨_, rfl, st, rfl, m.s, fun y H1 sb1 hs1 hy1 => ?_⟩
  have m1 := m.but sb1 hs1
  exact q HA H1 v0 sp st N W G D Rw y v8 ns ord rs ws kvs (m1.up (by decide)) hks hy1
theorem law6 (T : LawT P w K mg base C CN CB CW fG fX) (B : Bl mg) (hr : Room 6 (A.deeper (PyProof.Rows.envOfC "law" (defScope slaw) s.heap.objs.size f cdv))) (kq : ∀ H', Q (.bl true) H') :
    ∃ t, PSs (cxOf CX0 P w K mg base nLaw "law" (defScope slaw) f cdv A outer s H0 E0').nox ((defBody slaw).drop 6) t ∧
      ∀ (H : Hp) (v0 : Option V) (sp : Int) (st N W G Rw : Addr) (ns ord rs : List Str) (ws : Str → List Str), F10 C H N W G ns ord ws → StAt H st → H Rw = some (lstO rs) → rs.length = ns.length → (∀ z ∈ rs, nameS z = true) →
        t { nx := fun _ H' => Q .non H', rt := Q } (lS v0 (some (.ref st)) (some (.int sp)) N W G (some (.ref Rw)) none none none none none none none none none none none none) H := by
  obtain ⟨t, ht, q⟩ := law8 (outer := outer) (H0 := H0) (E0' := E0') T B hr kq
  have hr1 : Room 1 _ := hr.mono (by decide)
  have hr2 : Room 2 _ := hr.mono (by decide)
  have hu := hu_of hr
  have esz : sizeLine = 16777216 := sizeLine_eq
  refine ⟨_, pss_cons (ps_set (i := 7) sclaw.nd rfl (Or.inr rfl) pe_dnewK)
    (pss_cons (ps_for PassesOwn.never rfl (pi_range1 (by rfl) B.rng (pa_cons (pe_callB call_len_seq (by rfl) B.len PySem.boot_len (pa_cons (pv 3) pa_nil)) pa_nil)) (pg_name (i := 8) sclaw.nd rfl (Or.inl rfl))
      (pss_one (ps_dput hu (pv 7) (pe_ix ix_list (pv 3) (pv 8) (fun _ _ => rfl)) (pe_ix ix_list (pv 6) (pv 8) (fun _ _ => rfl)) rfl))) ht), ?_⟩
  rintro H v0 sp st N W G Rw ns ord rs ws t0 hs hRw hrl hrn
  have hnl := t0.nn.len
  refine fun D hD => ?_
  have s1 : Same H (upd H D (.dK [])) := Same.new hD
  have m0 : M9 C H (upd H D (.dK [])) st N W G D Rw ns ord rs ws [] 0 := ⟨s1.but st, hs.same s1, hs, t0, upd_same, hD, hRw, hrl, hrn, Nat.le_refl _, fun _ _ h => by cases h⟩
  refine ⟨_, rfl, N, _, rfl, .inl (SqL.of m0.f.n), _, rfl, by rw [List.length_map]; omega, by rw [List.length_map]; omega, for_it (walk_range (lo := 0) (n := (((ns.map V.str).length : Nat) : Int).toNat)) (fun i σ H' => ∃ (u8 : Option V) (kvs : List (Key × V)), σ = lR v0 st sp N W G Rw (.ref D) u8 none ∧ M9 C H H' st N W G D Rw ns ord rs ws kvs i ∧ ∀ z ∈ ns.take i, (valV kvs (Sum.inr z)).isSome = true)
    ⟨none, [], rfl, m0, fun z hz => by simp at hz⟩ (fun _ _ _ _ _ => True.intro) ?_ ?_⟩
  · rintro i x σ Hx H1 hi ⟨u8, kvs, rfl, m, hks⟩ ⟨rfl, hx⟩
    obtain rfl : x = V.int (i : Int) := hx.trans (congrArg V.int (by omega))
    rw [List.length_map, Int.toNat_natCast] at hi
    obtain ⟨a, ea⟩ : ∃ a, ns[i]? = some a := ⟨_, List.getElem?_eq_getElem hi⟩
    obtain ⟨z, ez⟩ : ∃ z, rs[i]? = some z := ⟨_, List.getElem?_eq_getElem (by omega)⟩
    have e0 : (0 : Int) + (i : Int) = (i : Int) := by omega
    have hkl := m.kl
    refine ⟨_, rfl, _, rfl, Rw, _, _, .str z, rfl, rfl, SqL.of m.r, atI_str ez, _, rfl, _, rfl, _, rfl, N, _, _, .str a, rfl, rfl, SqL.of m.f.n, atI_str ea, D, _, rfl, DPut.k (k := Sum.inr a) m.d (by omega), ?_⟩
    refine ⟨_, _, rfl, m.put (VS.str (hrn z (List.mem_of_getElem? ez))), fun y hy => ?_⟩
    rw [take_snoc ea] at hy
    rcases List.mem_append.mp hy with h | h
    · exact put_some (hks y h)
    · have e : y = a := by simpa using h
      rw [e, valV_put, if_pos rfl]
      rfl
  · rintro σ H1 ⟨u8, kvs, rfl, m, hks⟩
    rw [List.length_map, Int.toNat_natCast, List.take_of_length_le (Nat.le_refl _)] at hks
    rw [List.length_map, Int.toNat_natCast] at m
    exact q H H1 v0 sp st N W G D Rw _ ns ord rs ws kvs (m.up (by omega)) hks
end
end Qp
namespace Qp
open PySem L2
section
variable {P : Program} {w : World} {K : PySem.W.Frag} {mg : Str → Option Value} {base : Heap}
/-- law(script) -/
def spLaw (K : PySem.W.Frag) : Sp := fun vs H Q _ => ∃ (a : Addr) (ns : List Int), vs = [.ref a] ∧ SqL K H a (ns.map V.int) ∧ ns.length ≤ 63 ∧ ∀ H', Q (.bl true) H'
theorem ok_law {C CN CB CW fG fX f : Addr} {fd : FuncData} (F : Fun K "law" "law" slaw f fd) (B : Bl mg) (T : LawT P w K mg base C CN CB CW fG fX) : FnOk P w K mg base CX0 7 f fd ["_law_script"] (spLaw K) := by
  refine F.ok sclaw (fun vs H Q E h => ?_) (fun cdv A outer s H vs Q E hr h => ?_)
  · obtain ⟨a, ns, rfl, _⟩ := h
    rfl
  · obtain ⟨sa, nums, rfl, hsa, hl, kq⟩ := h
    obtain ⟨t6, h6, q6⟩ := law6 (outer := outer) (H0 := H) (E0' := E) T B hr kq
    obtain ⟨fdG, FG, bG⟩ := T.gi
    have hr1 : Room 1 _ := hr.mono (by decide)
    have hr2 : Room 2 _ := hr.mono (by decide)
    have hr3 : Room 3 _ := hr.mono (by decide)
    have hr4 : Room 4 _ := hr.mono (by decide)
    have hr5 : Room 5 _ := hr.mono (by decide)
    have esz : sizeLine = 16777216 := sizeLine_eq
    refine ⟨_, pss_cons (ps_set (i := 1) sclaw.nd rfl (Or.inl rfl) (pe_cf T.cell hr1 pass0 (pa_cons (pv 0) (pa_cons pe_int pa_nil))))
      (pss_cons (ps_set (i := 2) sclaw.nd rfl (Or.inl rfl) (pe_cf T.take hr1 pass0 (pa_cons (pv 1) (pa_cons pe_int pa_nil))))
      (pss_cons (ps_asg (pe_cf T.group hr5 pass0 (pa_cons (pv 1) (pa_cons pe_int pa_nil))) (pg_tupK (K := K) rfl rfl (pgs_cons (pg_name (i := 3) sclaw.nd rfl (Or.inl rfl)) (pgs_cons (pg_name (i := 4) sclaw.nd rfl (Or.inl rfl)) pgs_nil))))
      (pss_cons (ps_set (i := 5) sclaw.nd rfl (Or.inl rfl) (pe_makeS (E := WE (fun _ _ _ _ => False)) T.mkG FG hr5 rfl T.g.mgC bG .nil (fun σ => passAt takes0 σ) (pa_cons (pe_callTy call_tuple_of (by rfl) B.tup (by decide +kernel) (pa_cons (pv 3) pa_nil)) (pa_cons (pe_cf T.copy hr1 pass0 (pa_cons (pv 4) pa_nil)) pa_nil))))
      (pss_cons (ps_set (i := 6) sclaw.nd rfl (Or.inl rfl) (pe_cf T.names hr3 pass0 (pa_cons (pv 1) (pa_cons (pe_callB call_len_seq (by rfl) B.len PySem.boot_len (pa_cons (pv 3) pa_nil)) pa_nil))))
      (pss_cons (ps_if (pt_cmpR op_eq (pe_cf T.take hr1 pass0 (pa_cons (pv 1) (pa_cons pe_int pa_nil))) pe_int (nomark _)) (pss_one (ps_set (i := 6) sclaw.nd rfl (Or.inl rfl) (pe_cf T.mixed hr2 pass0 (pa_cons (pv 1) (pa_cons (pv 3) pa_nil))))) pss_nil) h6))))), ?_⟩
    refine ⟨_, rfl, sa, nums, rfl, hsa, hl, fun st n z hst h0 h1 h2 => ?_⟩
    have S1 : StAt (upd H st (.lst [.int n, .int z])) st := ⟨n, z, upd_same, h0, h1, h2⟩
    generalize upd H st (.lst [.int n, .int z]) = H1 at S1
    refine ⟨_, rfl, st, 9, rfl, by decide, by decide, S1, fun sp n1 z1 hp0 hp1 a1 a2 a3 => ?_⟩
    have S2 : StAt (upd H1 st (.lst [.int n1, .int z1])) st := ⟨n1, z1, upd_same, a1, a2, a3⟩
    generalize upd H1 st (.lst [.int n1, .int z1]) = H2 at S2
    refine ⟨_, rfl, st, 16, rfl, by decide, by decide, S2, fun Tt N W ns H3 eT sb S3 _ nNs eN hnd hnm hnl hW _ => ?_⟩
    obtain ⟨order, hperm, ws, RW, gW⟩ := hW
    refine ⟨Tt, [.ref N, .ref W], rfl, SqT.of eT, rfl, _, _, rfl, _, _, rfl, rfl, ?_⟩
    have hl16 : ns.length ≤ 16 := by omega
    have hon : order.Nodup := hperm.nodup_iff.mpr hnd
    have hol : order.length ≤ 16 := by rw [hperm.length_eq]; exact hl16
    have gN : ∀ q ∈ ns, GRow ns q (ws q) := fun q hq => gW q (hperm.mem_iff.mpr hq)
    -- Group(tuple(names), copy(wishes))
    refine ⟨_, rfl, N, _, rfl, .inl ⟨SqL.of eN, fun Tp hTp => ?_⟩⟩
    have s3 : Same H3 (upd H3 Tp (.tup (ns.map V.str))) := Same.new hTp
    have eTp : (upd H3 Tp (.tup (ns.map V.str))) Tp = some (.tup (ns.map V.str)) := upd_same
    generalize upd H3 Tp (.tup (ns.map V.str)) = H4 at s3 eTp
    refine ⟨_, rfl, W, order, ws, rfl, RW.same s3, hon, by omega, fun Wc H5 s4 RWc => ?_⟩
    refine fun p dx hp hdx hne => ?_
    have sP : Same H5 (upd (upd H5 dx (.own p)) p (.ins C dx [])) := fun b o e => by
      rw [upd_ne (ne_of_none e hp), upd_ne (ne_of_none e hdx)]
      exact e
    have hpp : (upd (upd H5 dx (.own p)) p (.ins C dx [])) p = some (.ins C dx []) := upd_same
    generalize (upd (upd H5 dx (.own p)) p (.ins C dx [])) = H6 at sP hpp
    refine gmake hpp (sP _ _ (s4 _ _ eTp)) ⟨hnd, hnm, hl16⟩ (RWc.same sP) hperm gN fun H7 sbp hG => ⟨rfl, ?_⟩
    have s37 : Same H3 H7 := fun b o e => sbp _ _ (ne_of_none (s4 _ _ (s3 _ _ e)) hp) (sP _ _ (s4 _ _ (s3 _ _ e)))
    have eN7 := s37 _ _ eN
    have S7 := S3.same s37
    have RW7 := RW.same s37
    have f7 : F10 C H7 N W p ns order ws := ⟨eN7, RW7, hG, ⟨hnd, hnm, hl16⟩, hperm, gN⟩
    -- row
    refine ⟨_, rfl, _, rfl, N, _, rfl, .inl (SqL.of eN7), st, ns.length, by rw [List.length_map]; rfl, by omega, S7, fun Rw rs H8 hrl _ hrn sb8 S8 _ _ eRw => ?_⟩
    obtain ⟨n7, z7, est7, _⟩ := id S7
    obtain ⟨n8, z8, est8, _⟩ := id S8
    have f8 := f7.butS sb8 est7
    refine ⟨_, rfl, st, 3, rfl, by decide, by decide, S8, fun d n9 z9 _ _ b1 b2 b3 => ?_⟩
    have sb9 : SameBut st H8 (upd H8 st (.lst [.int n9, .int z9])) := SameBut.set
    have S9 : StAt (upd H8 st (.lst [.int n9, .int z9])) st := ⟨n9, z9, upd_same, b1, b2, b3⟩
    have f9 := f8.butS sb9 est8
    have eRw9 := sb9 _ _ (ne_st S8 eRw) eRw
    generalize upd H8 st (.lst [.int n9, .int z9]) = H9 at S9 f9 eRw9
    refine ⟨rfl, _, rfl, ite2 (fun _ => ?_) (fun _ => q6 H9 _ sp st N W p Rw ns order rs ws f9 S9 eRw9 hrl hrn)⟩
    refine ⟨_, rfl, _, rfl, st, N, ns, rfl, S9, f9.n, by omega, fun L0 ps H10 hps sb10 S10 _ eL0 => ?_⟩
    obtain ⟨n9', z9', est9, _⟩ := id S9
    exact q6 H10 _ sp st N W p L0 ns order ps ws (f9.butS sb10 est9) S10 eL0 hps.length_eq fun z hz => hnm z (hps.mem_iff.mp hz)
end
end Qp
namespace Qp
open PySem L2
open C8 (InsC)
section
variable {K : PySem.W.Frag} {mg : Str → Option Value} {h : Heap}
/-- a def of the text and the name that tells it -/
structure FnAt (K : PySem.W.Frag) (mg : Str → Option Value) (x qual : Str) (st : Stmt) : Prop where
  ex : ∃ f fd, Fun K x qual st f fd ∧ mg x = some (.ref f)
theorem fnAt (X : K.In h) (G : h.Ns mainGlobals mg) {x qual : Str} {st : Stmt} {f : Addr} {oc kV doc pm cdv ct : Value} {od an : Option Addr} {osl : Array (Option Value)}
    (a : PySem.W.nsIn K mainGlobals x = some (some (.ref f))) (l : K.lookup f = some ⟨oc, od, .func (PySem.W.fnOf x qual (defArgs st) (defBody st) (defScope st) .none kV doc pm an cdv ct), osl⟩) (c : PySem.W.codeIn K cdv qual = true) (k : PySem.W.keepIn K (.ref f) = true) :
    FnAt K mg x qual st := ⟨f, _, fun_mk (st := st) l c k, PySem.W.mg_of X G a⟩
theorem FnAt.cf {P : Program} {w : World} {base : Heap} {CX : CXT} {k : Nat} {ps : List Str} {sp : Sp} {x qual : Str} {st : Stmt} (A : FnAt K mg x qual st) (ok : ∀ f fd, Fun K x qual st f fd → FnOk P w K mg base CX k f fd ps sp)
    (b : ∀ (kV doc pm : Value) (an : Option Addr) (cdv ct : Value) (us : List Value), us.length = ps.length → bindArgs (PySem.W.fnOf x qual (defArgs st) (defBody st) (defScope st) .none kV doc pm an cdv ct) ⟨us, []⟩ = pure (ps.zip us)) : CF P w K mg base CX k x ps sp := by
  obtain ⟨f, fd, F, hm⟩ := A.ex
  exact ⟨f, fd, ok f fd F, hm, F.kp, F.binds b⟩
theorem exm_own {S : Addr} (h1 : PySem.W.subIn K (.ref S) (.type "BaseException") = some true) (h2 : (PySem.W.clsIn K S).isSome = true) (h3 : PySem.W.typeIn K (.ref S) = some (.type "type")) (h4 : PySem.W.subIn K (.ref S) (.ref S) = some true) :
    PySem.W.exmOne K (.ref S) (.ref S) = some true := by
  unfold PySem.W.exmOne PySem.W.kitCls
  simp [h1, h2, h3, h4]
open PySem.W PySem.Calls PyProof.Rows PySem.HandSPX in
theorem ownAt {P : Program} (X : K.In h) (G : h.Ns mainGlobals mg) {cn f qual : Str} {C fI cq : Addr} {nm q : Str} {N : Addr} {bs : List Value} {sn : List Str} {sub : List Value} {ab : Bool} {col : Option Bool} {dd : Option Addr} {m0 m1 m2 m3 m5 : Option Value}
    {t : Str} {kk : Nat} {oc : Value} {od : Option Addr} {doc pm : Value} {an : Option Addr} {cda cc : Addr} {ct : Value} {osl : Array (Option Value)} {p1 p2 q1 q2 q3 q4 q5 q6 q7 q8 q9 q10 : Pos}
    {ccl : Value} {cdd : Option Addr} {ccs : Array (Option Value)} {nm' q' : Str} {N' : Addr} {bs' : List Value} {sn' : List Str} {sub' : List Value} {ab' : Bool} {col' : Option Bool} {dd' : Option Addr} {k0' k1' k2' k3' k5' : Option Value} {fvs : Array Value} {file : Str} {tf : Tok} {cl : Value} {cld : Option Addr} {csl : Array (Option Value)}
    (gC : PySem.W.nsIn K mainGlobals cn = some (some (.ref C))) (gS : PySem.W.nsIn K mainGlobals "super" = some none)
    (xL : K.lookup C = some (excClassObj nm q C N bs [.ref cq, .type "ValueError", .type "Exception", .type "BaseException", .type "object"] true sn sub ab col dd m0 m1 m2 m3 m5 "ValueError.__new__"))
    (qL : K.lookup cq = some (excClassObj nm' q' cq N' bs' [.type "ValueError", .type "Exception", .type "BaseException", .type "object"] true sn' sub' ab' col' dd' k0' k1' k2' k3' k5' "ValueError.__new__"))
    (qI : PySem.W.findIn K (.ref cq) "__init__" = some (some (.builtin "ValueError.__init__")))
    (sa : PySem.W.findIn K (.ref C) "__setattr__" = some (some (.builtin "object.__setattr__"))) (ga : PySem.W.findIn K (.ref C) "__getattribute__" = some (some (.builtin "BaseException.__getattribute__"))) (gg : PySem.W.findIn K (.ref C) "__getattr__" = some none) (noN : PySem.W.findIn K (.ref C) f = some none)
    (iC : PySem.W.findIn K (.ref C) "__init__" = some (some (.ref fI))) (tC : PySem.W.typeIn K (.ref fI) = some (.type "function")) (kC : PySem.W.keepIn K (.ref C) = true)
    (exC : PySem.W.subIn K (.ref C) (.type "BaseException") = some true) (veC : PySem.W.subIn K (.ref C) (.type "ValueError") = some true) (slC : mroIn K C (.ref C) = some true) (tyC : PySem.W.typeIn K (.ref C) = some (.type "type")) (hdC : PySem.W.hasDictIn K C = true)
    (cC : (PySem.W.clsIn K C).isSome = true) (sC : PySem.W.subIn K (.ref C) (.ref C) = some true) (op : PySem.W.nsIn K cStatics "thirdparty.any" = some none) (top : (P.main.scope.names.lookup ("super" : Str)).isSome = false)
    (lk : K.lookup fI = some ⟨oc, od, .func (ksFn "__init__" qual (PySem.QX.iA f p1 p2) (PySem.QX.iB f t kk q1 q2 q3 q4 q5 q6 q7 q8 q9 q10) (PySem.QX.iS f) .none .none doc pm an (.ref cda) ct cc), osl⟩) (cd : PySem.W.codeIn K (.ref cda) qual = true) (hl : (q3.endLine == q5.line) = true)
    (lc : K.lookup cda = some ⟨ccl, cdd, .fields fvs, ccs⟩) (lf : fvs[2]? = some (.str file tf)) (hf : ((P.main.file : Str) == file) = true) (lcc : K.lookup cc = some ⟨cl, cld, .cell (some (.ref C)), csl⟩)
    (sc1 : (PySem.QX.iS f).names.lookup f = some .local) (sc2 : (PySem.QX.iS f).names.lookup ("super" : Str) = some .globalImplicit) (sc3 : (PySem.QX.iS f).names.lookup ("__class__" : Str) = some .free) (sc4 : (PySem.QX.iS f).names.lookup ("self" : Str) = some .local)
    (dbg : (f == ("__debug__" : Str)) = false)
    (bnd : ∀ (qual : Str) (p1 p2 : Pos) (b : List Stmt) (doc pm : Value) (an : Option Addr) (cdv ct : Value) (cc : Addr) (s : Shared) (u v : Value), BindsTo s (ksFn "__init__" qual (PySem.QX.iA f p1 p2) b (PySem.QX.iS f) .none .none doc pm an cdv ct cc) ⟨[u, v], []⟩ [("self", u), (f, v)])
    (lk1 : ∀ (u v : Value), ([("self", u), (f, v)] : List (Str × Value)).reverse.lookup ("self" : Str) = some u) (lk2 : ∀ (u v : Value), ([("self", u), (f, v)] : List (Str × Value)).reverse.lookup f = some v) :
    PySem.QX.OwnTxt P K mg cn f C fI :=
  have al : alongIn K "__init__" [.ref cq, .type "ValueError", .type "Exception", .type "BaseException", .type "object"] = some (some (.builtin "ValueError.__init__")) := by
    have e := qI
    unfold findIn at e
    dsimp only at e
    rw [qL] at e
    exact e
  { gC := PySem.W.mg_of X G gC, gS := PySem.W.mg_none_of X G gS, cls := ⟨_, _, _, _, _, _, _, _, _, _, _, _, _, _, _, xL, rfl, al⟩, sa := sa, ga := ga, gg := gg, noN := noN, iC := iC, tC := tC, kC := kC, exC := exC, veC := veC, slC := slC, tyC := tyC, hdC := hdC,
    te := exm_own exC cC tyC sC, op := op, top := top, fn := ⟨_, _, _, _, _, _, _, _, _, _, _, _, _, _, _, _, _, _, _, _, _, _, _, _, lk, cd, hl, ⟨_, _, _, _, _, _, lc, lf, hf⟩, ⟨_, _, _, lcc⟩⟩,
    sc1 := sc1, sc2 := sc2, sc3 := sc3, sc4 := sc4, dbg := dbg, bnd := bnd, lk1 := lk1, lk2 := lk2 }
theorem gAt (X : K.In h) (G : h.Ns mainGlobals mg) {C : Addr} (aC : PySem.W.nsIn K mainGlobals "Group" = some (some (.ref C)))
    (pg : PySem.W.plainGet K C Str.empty = true) (hd : PySem.W.hasDictIn K C = true) (po : PySem.W.plainOver K C = true) (sa : PySem.W.findIn K (.ref C) "__setattr__" = some (some (.builtin "object.__setattr__")))
    (n1 : PySem.W.findIn K (.ref C) "_people" = some none) (n2 : PySem.W.findIn K (.ref C) "_wishes" = some none) (n3 : PySem.W.findIn K (.ref C) "_opens" = some none) (n4 : PySem.W.findIn K (.ref C) "_ranks" = some none) : GTxt K mg C :=
  ⟨⟨pg, hd, po, sa⟩, n1, n2, n3, n4, PySem.W.mg_of X G aC⟩
/-- a method of the text -/
structure MAt (K : PySem.W.Frag) (C : Addr) (m qual : Str) (st : Stmt) : Prop where
  ex : ∃ f fd, Fun K m qual st f fd ∧ Meth K C m f
theorem mAt {C : Addr} {m qual : Str} {st : Stmt} {f : Addr} {oc kV doc pm cdv ct : Value} {od an : Option Addr} {osl : Array (Option Value)}
    (a : PySem.W.findIn K (.ref C) m = some (some (.ref f))) (i : PySem.W.isFn K (.ref f) = true) (l : K.lookup f = some ⟨oc, od, .func (PySem.W.fnOf m qual (defArgs st) (defBody st) (defScope st) .none kV doc pm an cdv ct), osl⟩) (c : PySem.W.codeIn K cdv qual = true) (k : PySem.W.keepIn K (.ref f) = true) :
    MAt K C m qual st := ⟨f, _, fun_mk (st := st) l c k, ⟨a, i, k⟩⟩
theorem MAt.mf {P : Program} {w : World} {base : Heap} {k : Nat} {C : Addr} {ps : List Str} {sp : Sp} {m qual : Str} {st : Stmt} (A : MAt K C m qual st) (ok : ∀ f fd, Fun K m qual st f fd → FnOk P w K mg base CX0 k f fd ps sp)
    (b : ∀ (kV doc pm : Value) (an : Option Addr) (cdv ct : Value) (us : List Value), us.length = ps.length → bindArgs (PySem.W.fnOf m qual (defArgs st) (defBody st) (defScope st) .none kV doc pm an cdv ct) ⟨us, []⟩ = pure (ps.zip us)) : MF P w K mg base k C m ps sp := by
  obtain ⟨f, fd, F, M⟩ := A.ex
  exact ⟨f, fd, ok f fd F, M, F.binds b⟩
theorem exm_no {S T : Addr} (h1 : PySem.W.subIn K (.ref S) (.type "BaseException") = some true) (h2 : (PySem.W.clsIn K S).isSome = true) (h3 : PySem.W.typeIn K (.ref S) = some (.type "type")) (h4 : PySem.W.subIn K (.ref T) (.ref S) = some false) :
    PySem.W.exmOne K (.ref T) (.ref S) = some false := by
  unfold PySem.W.exmOne PySem.W.kitCls
  simp [h1, h2, h3, h4]
theorem iscAt {C : Addr} (g : GTxt K mg C) (ha : PySem.W.findIn K (.ref C) "__class__" = some (some (.builtin "object.__class__"))) (hn : PySem.W.specialIn K (.builtin "object.__class__") "__get__" = some (some (.builtin "getset_descriptor.__get__"))) (ht : PySem.W.takesIn K (.builtin "object.__class__") = some true)
    (mo : PySem.W.mroIn K C (.type "object") = some true) : C8.InsC K C := ⟨g.cl, ha, hn, ht, mo, by
  unfold PySem.W.kitOne
  simp⟩
theorem MAt.mfx {P : Program} {w : World} {base : Heap} {k : Nat} {C : Addr} {ps : List Str} {sp : Sp} {m qual : Str} {st : Stmt} (A : MAt K C m qual st) (ok : ∀ f fd, Fun K m qual st f fd → FnOk P w K mg base (L2.CX P w) k f fd ps sp)
    (b : ∀ (kV doc pm : Value) (an : Option Addr) (cdv ct : Value) (us : List Value), us.length = ps.length → bindArgs (PySem.W.fnOf m qual (defArgs st) (defBody st) (defScope st) .none kV doc pm an cdv ct) ⟨us, []⟩ = pure (ps.zip us)) : MFX P w K mg base k C m ps sp := by
  obtain ⟨f, fd, F, M⟩ := A.ex
  exact ⟨f, fd, ok f fd F, M, F.binds b⟩
theorem instN {C : Addr} (g : GTxt K mg C) (ha : PySem.W.findIn K (.ref C) "__class__" = some (some (.builtin "object.__class__"))) (hn : PySem.W.specialIn K (.builtin "object.__class__") "__get__" = some (some (.builtin "getset_descriptor.__get__"))) (ht : PySem.W.takesIn K (.builtin "object.__class__") = some true)
    (mo : PySem.W.mroIn K C (.type "object") = some true) (sd : PySem.W.subIn K (.ref C) (.type "dict") = some false) : ∀ (H : Hp) (a dx : Addr) (fs : List (Str × V)), H a = some (.ins C dx fs) → NotD K H (.ref a) := by
  have kd2 : PySem.W.kitOne K (.ref C) (.type "dict") = some false := by
    have e1 : ((Value.ref C) == (Value.type "dict")) = false := rfl
    have e2 : PySem.W.kitMeta "dict" = true := by decide +kernel
    unfold PySem.W.kitOne PySem.W.kitCls
    simp only [e1, e2, sd]; rfl
  exact fun H a dx fs e H' s => ⟨_, .base (.ins (s _ _ e) g.cl ha hn ht mo), kd2⟩
theorem all_mk {l : PySem.W.OpenLaw} {w : World} {fa C CB fB CW fW CN fX fG : Addr} {fdG : FuncData} {tk : Tok} (X : K.In h) (G : h.Ns mainGlobals mg) (hfa : mg "law" = some (.ref fa))
    (a0 : FnAt K mg "is_name" "is_name" sisname)
    (a1 : FnAt K mg "bad_index" "bad_index" sbadindex)
    (a2 : FnAt K mg "has_keys" "has_keys" shaskeys)
    (a3 : FnAt K mg "is_lot" "is_lot" sislot)
    (a4 : FnAt K mg "_check_people" "_check_people" scheckpeople)
    (a5 : FnAt K mg "_check_wishes" "_check_wishes" scheckwishes)
    (a6 : FnAt K mg "_open_rows" "_open_rows" sopenrows)
    (a7 : FnAt K mg "_rank_rows" "_rank_rows" srankrows)
    (a8 : FnAt K mg "_law_cell" "_law_cell" sLcell)
    (a9 : FnAt K mg "_law_take" "_law_take" sLtake)
    (a10 : FnAt K mg "_law_name" "_law_name" sLname)
    (a11 : FnAt K mg "_law_names" "_law_names" sLnames)
    (a12 : FnAt K mg "_law_mixed" "_law_mixed" sLmixed)
    (a13 : FnAt K mg "_law_others" "_law_others" sLothers)
    (a14 : FnAt K mg "_law_block_wishes" "_law_block_wishes" sLblockwishes)
    (a15 : FnAt K mg "_law_side_wishes" "_law_side_wishes" sLsidewishes)
    (a16 : FnAt K mg "_law_plain_wishes" "_law_plain_wishes" sLplainwishes)
    (a17 : FnAt K mg "_law_wishes" "_law_wishes" sLwishes)
    (a18 : FnAt K mg "_law_group" "_law_group" sLgroup)
    (a19 : FnAt K mg "_law_copy" "_law_copy" sLcopy)
    (a20 : FnAt K mg "_law_row" "_law_row" sLrow)
    (a21 : FnAt K mg "_law_is_name" "_law_is_name" sLisname)
    (a22 : FnAt K mg "_law_value" "_law_value" sLvalue)
    (a23 : FnAt K mg "_law_model" "_law_model" sLmodel)
    (a24 : FnAt K mg "_law_shows" "_law_shows" sLshows)
    (a25 : FnAt K mg "_law_truth" "_law_truth" sLtruth)
    (a26 : FnAt K mg "_law_due" "_law_due" sLdue)
    (a27 : FnAt K mg "law" "law" slaw)
    (B : Bl mg) (tB : PySem.QX.OwnTxt l.prog K mg "BadPeople" "index" CB fB) (tW : PySem.QX.OwnTxt l.prog K mg "BadWishes" "person" CW fW) (tL : PySem.QX.OwnTxt l.prog K mg "BadNames" "person" CN fX) (hM : mg "MOST_PEOPLE" = some (.int 16 tk)) (g : GTxt K mg C) (mk : Mk K C fG) (FG : Fun K "__init__" "Group.__init__" sGroupinit fG fdG)
    (m0 : MAt K C "_has" "Group._has" sGrouphas)
    (m1 : MAt K C "_check_person" "Group._check_person" sGroupcheckperson)
    (m2 : MAt K C "people" "Group.people" sGrouppeople)
    (m3 : MAt K C "wishes" "Group.wishes" sGroupwishes)
    (m4 : MAt K C "_check_names" "Group._check_names" sGroupchecknames)
    (m5 : MAt K C "renamed" "Group.renamed" sGrouprenamed)
    (m6 : MAt K C "__eq__" "Group.__eq__" sGroupeq) (inst : ∀ (H : Hp) (a dx : Addr) (fs : List (Str × V)), H a = some (.ins C dx fs) → NotD K H (.ref a)) (ic : C8.InsC K C) (nc : NeC K C) :
    ∃ fd : FuncData, (∀ (s : Shared) (v : Value), BindsTo s fd ⟨[v], []⟩ [("_law_script", v)]) ∧ ∀ base : Heap, K.In base → base.Ns mainGlobals mg → FnOk l.prog w K mg base CX0 7 fa fd ["_law_script"] (spLaw K) := by
  obtain ⟨f, fd, F, hm⟩ := a27.ex
  have e := hfa.symm.trans hm
  cases e
  have F' := F
  obtain ⟨oc, od, kV, doc, pm, an, cdv, ct, osl, rfl, lk, hcd⟩ := F'.ex
  refine ⟨PySem.W.fnOf "law" "law" (defArgs slaw) (defBody slaw) (defScope slaw) .none kV doc pm an cdv ct, fun s v => .of_eq rfl, fun base _ _ => ?_⟩
  have c0 : CF l.prog w K mg base CX0 1 "is_name" ["value"] spIsName := a0.cf (fun f fd F => ok_isname F B) (fun _ _ _ _ _ _ us hl => match us, hl with | [_], _ => rfl)
  have c1 : CF l.prog w K mg base CX0 1 "bad_index" ["items", "names"] (spBad K) := a1.cf (fun f fd F => ok_bad F B) (fun _ _ _ _ _ _ us hl => match us, hl with | [_, _], _ => rfl)
  have c2 : CF l.prog w K mg base CX0 1 "has_keys" ["value", "names"] (spHas K) := a2.cf (fun f fd F => ok_has F B) (fun _ _ _ _ _ _ us hl => match us, hl with | [_, _], _ => rfl)
  have c3 : CF l.prog w K mg base CX0 2 "is_lot" ["value", "names"] (spLot K) := a3.cf (fun f fd F => ok_lot F B c1) (fun _ _ _ _ _ _ us hl => match us, hl with | [_, _], _ => rfl)
  have c4 : CF l.prog w K mg base (L2.CX l.prog w) 2 "_check_people" ["people"] (spCP CB) := a4.cf (fun f fd F => ok_cp F B tB hM c0 c1) (fun _ _ _ _ _ _ us hl => match us, hl with | [_], _ => rfl)
  have c5 : CF l.prog w K mg base (L2.CX l.prog w) 3 "_check_wishes" ["people", "wishes"] (spCW CW) := a5.cf (fun f fd F => ok_cw F B tW c2 c3) (fun _ _ _ _ _ _ us hl => match us, hl with | [_, _], _ => rfl)
  have c6 : CF l.prog w K mg base CX0 1 "_open_rows" ["wishes"] spOR := a6.cf (fun f fd F => ok_or F) (fun _ _ _ _ _ _ us hl => match us, hl with | [_], _ => rfl)
  have c7 : CF l.prog w K mg base CX0 1 "_rank_rows" ["rows"] spRR := a7.cf (fun f fd F => ok_rr F B) (fun _ _ _ _ _ _ us hl => match us, hl with | [_], _ => rfl)
  have d1 : CF l.prog w K mg base CX0 1 "_law_cell" ["_law_script", "_law_k"] (spCell K) := a8.cf (fun f fd F => ok_cell F B) (fun _ _ _ _ _ _ us hl => match us, hl with | [_, _], _ => rfl)
  have d2 : CF l.prog w K mg base CX0 1 "_law_take" ["_law_state", "_law_many"] spTake := a9.cf (fun f fd F => ok_take F B) (fun _ _ _ _ _ _ us hl => match us, hl with | [_, _], _ => rfl)
  have d3 : CF l.prog w K mg base CX0 2 "_law_name" ["_law_state", "_law_taken"] spName := a10.cf (fun f fd F => ok_name F B d2) (fun _ _ _ _ _ _ us hl => match us, hl with | [_, _], _ => rfl)
  have d4 : CF l.prog w K mg base CX0 3 "_law_names" ["_law_state", "_law_many"] spNames := a11.cf (fun f fd F => ok_names F B d3) (fun _ _ _ _ _ _ us hl => match us, hl with | [_, _], _ => rfl)
  have d5 : CF l.prog w K mg base CX0 2 "_law_mixed" ["_law_state", "_law_items"] spMixed := a12.cf (fun f fd F => ok_mixed F B d2) (fun _ _ _ _ _ _ us hl => match us, hl with | [_, _], _ => rfl)
  have d6 : CF l.prog w K mg base CX0 1 "_law_others" ["_law_names_here", "_law_a"] (spOthers K) := a13.cf (fun f fd F => ok_others F B) (fun _ _ _ _ _ _ us hl => match us, hl with | [_, _], _ => rfl)
  have d7 : CF l.prog w K mg base CX0 3 "_law_block_wishes" ["_law_state", "_law_names_here"] spWsh := a14.cf (fun f fd F => ok_block F B d2 d5 d6) (fun _ _ _ _ _ _ us hl => match us, hl with | [_, _], _ => rfl)
  have d8 : CF l.prog w K mg base CX0 3 "_law_side_wishes" ["_law_state", "_law_names_here"] spWsh := a15.cf (fun f fd F => ok_side F B d2 d5) (fun _ _ _ _ _ _ us hl => match us, hl with | [_, _], _ => rfl)
  have d9 : CF l.prog w K mg base CX0 3 "_law_plain_wishes" ["_law_state", "_law_names_here", "_law_mode"] spPlain := a16.cf (fun f fd F => ok_plain F B d2 d5) (fun _ _ _ _ _ _ us hl => match us, hl with | [_, _, _], _ => rfl)
  have e0 : CF l.prog w K mg base CX0 4 "_law_wishes" ["_law_state", "_law_names_here"] spWsh := a17.cf (fun f fd F => ok_wishes F B d2 d7 d8 d9) (fun _ _ _ _ _ _ us hl => match us, hl with | [_, _], _ => rfl)
  have e1 : CF l.prog w K mg base CX0 5 "_law_group" ["_law_state", "_law_top"] spGroup := a18.cf (fun f fd F => ok_group F B d2 d4 e0) (fun _ _ _ _ _ _ us hl => match us, hl with | [_, _], _ => rfl)
  have e2 : CF l.prog w K mg base CX0 1 "_law_copy" ["_law_wishes_here"] spCopy := a19.cf (fun f fd F => ok_copy F B) (fun _ _ _ _ _ _ us hl => match us, hl with | [_], _ => rfl)
  have e3 : CF l.prog w K mg base CX0 2 "_law_value" ["_law_state"] spVal := a22.cf (fun f fd F => ok_val F B d2) (fun _ _ _ _ _ _ us hl => match us, hl with | [_], _ => rfl)
  have e4 : CF l.prog w K mg base CX0 1 "_law_model" ["_law_names_here", "_law_wishes_here"] spModel := a23.cf (fun f fd F => ok_model F B) (fun _ _ _ _ _ _ us hl => match us, hl with | [_, _], _ => rfl)
  have e5 : CF l.prog w K mg base CX0 1 "_law_row" ["_law_actual", "_law_due_here"] (spRow K) := a20.cf (fun f fd F => ok_row F B) (fun _ _ _ _ _ _ us hl => match us, hl with | [_, _], _ => rfl)
  have e6 : CF l.prog w K mg base CX0 1 "_law_is_name" ["_law_value_here"] spIsName := a21.cf (fun f fd F => ok_lisname F B) (fun _ _ _ _ _ _ us hl => match us, hl with | [_], _ => rfl)
  have e7 : CF l.prog w K mg base CX0 2 "_law_due" ["_law_names_here", "_law_new"] (spDue K) := a26.cf (fun f fd F => ok_due F B e6) (fun _ _ _ _ _ _ us hl => match us, hl with | [_, _], _ => rfl)
  have e8 : CF l.prog w K mg base CX0 1 "_law_truth" ["_law_actual", "_law_due_here"] spTruth := a25.cf (fun f fd F => ok_truth F B) (fun _ _ _ _ _ _ us hl => match us, hl with | [_, _], _ => rfl)
  have n0 : MF l.prog w K mg base 1 C "_has" ["self", "value"] (spHasG C) := m0.mf (fun f fd F => ok_hasG F B g) (fun _ _ _ _ _ _ us hl => match us, hl with | [_, _], _ => rfl)
  have n1 : MF l.prog w K mg base 2 C "_check_person" ["self", "value"] (spChk C) := m1.mf (fun f fd F => ok_chk F B g n0) (fun _ _ _ _ _ _ us hl => match us, hl with | [_, _], _ => rfl)
  have n2 : MF l.prog w K mg base 3 C "wishes" ["self", "a"] (spWishM C) := m3.mf (fun f fd F => ok_wishM F B g n1) (fun _ _ _ _ _ _ us hl => match us, hl with | [_, _], _ => rfl)
  have n3 : MF l.prog w K mg base 1 C "people" ["self"] (spPeople C) := m2.mf (fun f fd F => ok_people F B g) (fun _ _ _ _ _ _ us hl => match us, hl with | [_], _ => rfl)
  have n4 : MF l.prog w K mg base 1 C "__eq__" ["self", "other"] (spEqG C) := m6.mf (fun f fd F => ok_eqg F B g ic) (fun _ _ _ _ _ _ us hl => match us, hl with | [_, _], _ => rfl)
  have f1 : CF l.prog w K mg base CX0 4 "_law_shows" ["_law_group_here"] (spShows C) := a24.cf (fun f fd F => ok_shows F B g n3 n2) (fun _ _ _ _ _ _ us hl => match us, hl with | [_], _ => rfl)
  have bG := FG.binds (ps := ["self", "people", "wishes"]) (fun _ _ _ _ _ _ us hl => match us, hl with | [_, _, _], _ => rfl)
  have n5 : MFX l.prog w K mg base 2 C "_check_names" ["self", "names"] (spCN K C CN) := m4.mfx (fun f fd F => ok_cn F B g tL c2 c0) (fun _ _ _ _ _ _ us hl => match us, hl with | [_, _], _ => rfl)
  have n6 : MFX l.prog w K mg base 6 C "renamed" ["self", "names"] (spRen K C CN) := m5.mfx (fun f fd F => ok_ren F B g mk (ok_gi FG B g c4 c5 c6 c7) bG n5) (fun _ _ _ _ _ _ us hl => match us, hl with | [_, _], _ => rfl)
  exact ok_law F B ⟨d1, d2, d3, d4, e3, e1, d5, e2, e7, f1, e4, e5, e8, n6, n4, tL, g, nc, mk, ⟨_, ok_gi FG B g c4 c5 c6 c7, bG⟩, inst⟩
end
theorem walk {l : PySem.W.OpenLaw} {q : Program} {loose : List Str} {XP : (Str → Option Value) → Heap → Prop} {YP : World → Heap → Prop} {d : DefRec} {K : Params → PySem.W.Frag} (hn : l.most = some 63) (hdf : d.params.defaults = [])
    (hY : ∀ (w : World) (h : Heap), YP w h → (K w.params).In h)
    (F : ∀ (w : World) (mg : Str → Option Value) (fa : Addr) (h : Heap), (K w.params).In h → h.Ns mainGlobals mg → mg d.name = some (.ref fa) →
      ∃ fd : FuncData, (∀ (s : Shared) (u : Value), BindsTo s fd ⟨[u], []⟩ [("_law_script", u)]) ∧ ∀ base : Heap, (K w.params).In base → base.Ns mainGlobals mg → FnOk l.prog w (K w.params) mg base CX0 7 fa fd ["_law_script"] (spLaw (K w.params))) :
    PySem.W.WalkO q loose XP YP l.row.toRowW d [] (fun f vs => PySem.call f vs) :=
  L2.walk_of (n := 63) (k := 7) (x := "_law_script") (CX := fun _ => CX0) (sp := fun w => spLaw (K w.params)) hn (by decide) hdf ⟨rfl, by decide, by decide⟩ hY F (fun _ _ a ns hl _ hS => ⟨a, ns, rfl, hS, hl, fun _ => rfl⟩) fun _ _ _ _ _ z => z
end Qp
open PySem PySem.W PyProof.Rows
set_option maxRecDepth 100000 in
set_option maxHeartbeats 0 in
theorem PySem.Challenge.cw_quietpairs_k09_other_names_holds : PySem.Challenge.rw_quietpairs_k09_other_names.Holds := by
  w_on; o_law; k_head; (case hw => w_witness2)
  k_fill
  refine Qp.walk (l := PySem.Challenge.rw_quietpairs_k09_other_names) rfl rfl (fun w h Y => PySem.W.kIn_of Y) ?F
  case F =>
    intro w mg fa h KX G hmg
    refine' Qp.all_mk KX G hmg (Qp.fnAt KX G ?a0 ?l0 ?c0 ?k0) (Qp.fnAt KX G ?a1 ?l1 ?c1 ?k1) (Qp.fnAt KX G ?a2 ?l2 ?c2 ?k2) (Qp.fnAt KX G ?a3 ?l3 ?c3 ?k3) (Qp.fnAt KX G ?a4 ?l4 ?c4 ?k4) (Qp.fnAt KX G ?a5 ?l5 ?c5 ?k5) (Qp.fnAt KX G ?a6 ?l6 ?c6 ?k6) (Qp.fnAt KX G ?a7 ?l7 ?c7 ?k7) (Qp.fnAt KX G ?a8 ?l8 ?c8 ?k8) (Qp.fnAt KX G ?a9 ?l9 ?c9 ?k9) (Qp.fnAt KX G ?a10 ?l10 ?c10 ?k10) (Qp.fnAt KX G ?a11 ?l11 ?c11 ?k11) (Qp.fnAt KX G ?a12 ?l12 ?c12 ?k12) (Qp.fnAt KX G ?a13 ?l13 ?c13 ?k13) (Qp.fnAt KX G ?a14 ?l14 ?c14 ?k14) (Qp.fnAt KX G ?a15 ?l15 ?c15 ?k15) (Qp.fnAt KX G ?a16 ?l16 ?c16 ?k16) (Qp.fnAt KX G ?a17 ?l17 ?c17 ?k17) (Qp.fnAt KX G ?a18 ?l18 ?c18 ?k18) (Qp.fnAt KX G ?a19 ?l19 ?c19 ?k19) (Qp.fnAt KX G ?a20 ?l20 ?c20 ?k20) (Qp.fnAt KX G ?a21 ?l21 ?c21 ?k21) (Qp.fnAt KX G ?a22 ?l22 ?c22 ?k22) (Qp.fnAt KX G ?a23 ?l23 ?c23 ?k23) (Qp.fnAt KX G ?a24 ?l24 ?c24 ?k24) (Qp.fnAt KX G ?a25 ?l25 ?c25 ?k25) (Qp.fnAt KX G ?a26 ?l26 ?c26 ?k26) (Qp.fnAt KX G ?a27 ?l27 ?c27 ?k27) ⟨mg_none_of KX G ?z0, mg_none_of KX G ?z1, mg_none_of KX G ?z2, mg_none_of KX G ?z3, mg_none_of KX G ?z4, mg_none_of KX G ?z5, mg_none_of KX G ?z6, mg_none_of KX G ?z7, mg_none_of KX G ?z8, mg_none_of KX G ?z9, mg_none_of KX G ?z10, mg_none_of KX G ?z11, mg_none_of KX G ?z12, mg_none_of KX G ?z13⟩ (Qp.ownAt KX G ?ugC ?ugS ?uxL ?uqL ?uqI ?usa ?uga ?ugg ?unoN ?uiC ?utC ?ukC ?uexC ?uveC ?uslC ?utyC ?uhdC ?ucC ?usC ?uop ?utop ?ulk ?ucd ?uhl ?ulc ?ulf ?uhf ?ulcc rfl rfl rfl rfl rfl (fun _ _ _ _ _ _ _ _ _ _ _ _ _ => .of_eq rfl) (fun _ _ => rfl) (fun _ _ => rfl)) (Qp.ownAt KX G ?vgC ?vgS ?vxL ?vqL ?vqI ?vsa ?vga ?vgg ?vnoN ?viC ?vtC ?vkC ?vexC ?vveC ?vslC ?vtyC ?vhdC ?vcC ?vsC ?vop ?vtop ?vlk ?vcd ?vhl ?vlc ?vlf ?vhf ?vlcc rfl rfl rfl rfl rfl (fun _ _ _ _ _ _ _ _ _ _ _ _ _ => .of_eq rfl) (fun _ _ => rfl) (fun _ _ => rfl)) (Qp.ownAt KX G ?ygC ?ygS ?yxL ?yqL ?yqI ?ysa ?yga ?ygg ?ynoN ?yiC ?ytC ?ykC ?yexC ?yveC ?yslC ?ytyC ?yhdC ?ycC ?ysC ?yop ?ytop ?ylk ?ycd ?yhl ?ylc ?ylf ?yhf ?ylcc rfl rfl rfl rfl rfl (fun _ _ _ _ _ _ _ _ _ _ _ _ _ => .of_eq rfl) (fun _ _ => rfl) (fun _ _ => rfl)) (mg_of KX G ?hM) (Qp.gAt KX G ?aC ?pg ?hd ?po ?sa ?n1 ?n2 ?n3 ?n4) ⟨?mk, ?i1, ?i2, ?kc⟩ (L2.fun_mk (st := Qp.sGroupinit) ?i3 ?i4 ?i5) (Qp.mAt ?ma0 ?mi0 ?ml0 ?mc0 ?mk0) (Qp.mAt ?ma1 ?mi1 ?ml1 ?mc1 ?mk1) (Qp.mAt ?ma2 ?mi2 ?ml2 ?mc2 ?mk2) (Qp.mAt ?ma3 ?mi3 ?ml3 ?mc3 ?mk3) (Qp.mAt ?ma4 ?mi4 ?ml4 ?mc4 ?mk4) (Qp.mAt ?ma5 ?mi5 ?ml5 ?mc5 ?mk5) (Qp.mAt ?ma6 ?mi6 ?ml6 ?mc6 ?mk6) (Qp.instN (Qp.gAt KX G ?aC2 ?pg2 ?hd2 ?po2 ?sa2 ?n12 ?n22 ?n32 ?n42) ?y1 ?y2 ?y3 ?y4 ?y5) (Qp.iscAt (Qp.gAt KX G ?aC3 ?pg3 ?hd3 ?po3 ?sa3 ?n13 ?n23 ?n33 ?n43) ?w1 ?w2 ?w3 ?w4) ⟨?nc1, ?nc2⟩
    (case a0 => k_is); (case l0 => k_is); (case c0 => k_is); (case k0 => k_is)
    (case a1 => k_is); (case l1 => k_is); (case c1 => k_is); (case k1 => k_is)
    (case a2 => k_is); (case l2 => k_is); (case c2 => k_is); (case k2 => k_is)
    (case a3 => k_is); (case l3 => k_is); (case c3 => k_is); (case k3 => k_is)
    (case a4 => k_is); (case l4 => k_is); (case c4 => k_is); (case k4 => k_is)
    (case a5 => k_is); (case l5 => k_is); (case c5 => k_is); (case k5 => k_is)
    (case a6 => k_is); (case l6 => k_is); (case c6 => k_is); (case k6 => k_is)
    (case a7 => k_is); (case l7 => k_is); (case c7 => k_is); (case k7 => k_is)
    (case a8 => k_is); (case l8 => k_is); (case c8 => k_is); (case k8 => k_is)
    (case a9 => k_is); (case l9 => k_is); (case c9 => k_is); (case k9 => k_is)
    (case a10 => k_is); (case l10 => k_is); (case c10 => k_is); (case k10 => k_is)
    (case a11 => k_is); (case l11 => k_is); (case c11 => k_is); (case k11 => k_is)
    (case a12 => k_is); (case l12 => k_is); (case c12 => k_is); (case k12 => k_is)
    (case a13 => k_is); (case l13 => k_is); (case c13 => k_is); (case k13 => k_is)
    (case a14 => k_is); (case l14 => k_is); (case c14 => k_is); (case k14 => k_is)
    (case a15 => k_is); (case l15 => k_is); (case c15 => k_is); (case k15 => k_is)
    (case a16 => k_is); (case l16 => k_is); (case c16 => k_is); (case k16 => k_is)
    (case a17 => k_is); (case l17 => k_is); (case c17 => k_is); (case k17 => k_is)
    (case a18 => k_is); (case l18 => k_is); (case c18 => k_is); (case k18 => k_is)
    (case a19 => k_is); (case l19 => k_is); (case c19 => k_is); (case k19 => k_is)
    (case a20 => k_is); (case l20 => k_is); (case c20 => k_is); (case k20 => k_is)
    (case a21 => k_is); (case l21 => k_is); (case c21 => k_is); (case k21 => k_is)
    (case a22 => k_is); (case l22 => k_is); (case c22 => k_is); (case k22 => k_is)
    (case a23 => k_is); (case l23 => k_is); (case c23 => k_is); (case k23 => k_is)
    (case a24 => k_is); (case l24 => k_is); (case c24 => k_is); (case k24 => k_is)
    (case a25 => k_is); (case l25 => k_is); (case c25 => k_is); (case k25 => k_is)
    (case a26 => k_is); (case l26 => k_is); (case c26 => k_is); (case k26 => k_is)
    (case a27 => k_is); (case l27 => k_is); (case c27 => k_is); (case k27 => k_is)
    (case z0 => k_is); (case z1 => k_is); (case z2 => k_is); (case z3 => k_is); (case z4 => k_is); (case z5 => k_is); (case z6 => k_is); (case z7 => k_is); (case z8 => k_is); (case z9 => k_is); (case z10 => k_is); (case z11 => k_is); (case z12 => k_is); (case z13 => k_is)
    (case ugC => k_is)
    (case ugS => k_is)
    (case uxL => k_is)
    (case uqL => k_is)
    (case uqI => k_is)
    (case usa => k_is)
    (case uga => k_is)
    (case ugg => k_is)
    (case unoN => k_is)
    (case uiC => k_is)
    (case utC => k_is)
    (case ukC => k_is)
    (case uexC => k_is)
    (case uveC => k_is)
    (case uslC => k_is)
    (case utyC => k_is)
    (case uhdC => k_is)
    (case ucC => first | rfl | k_is)
    (case usC => first | rfl | k_is)
    (case uop => k_is)
    (case utop => rfl)
    (case ulk => k_is)
    (case ucd => k_is)
    (case uhl => first | rfl | decide +kernel)
    (case ulc => k_is)
    (case ulf => first | rfl | k_is)
    (case uhf => first | rfl | decide +kernel)
    (case ulcc => k_is)
    (case vgC => k_is)
    (case vgS => k_is)
    (case vxL => k_is)
    (case vqL => k_is)
    (case vqI => k_is)
    (case vsa => k_is)
    (case vga => k_is)
    (case vgg => k_is)
    (case vnoN => k_is)
    (case viC => k_is)
    (case vtC => k_is)
    (case vkC => k_is)
    (case vexC => k_is)
    (case vveC => k_is)
    (case vslC => k_is)
    (case vtyC => k_is)
    (case vhdC => k_is)
    (case vcC => first | rfl | k_is)
    (case vsC => first | rfl | k_is)
    (case vop => k_is)
    (case vtop => rfl)
    (case vlk => k_is)
    (case vcd => k_is)
    (case vhl => first | rfl | decide +kernel)
    (case vlc => k_is)
    (case vlf => first | rfl | k_is)
    (case vhf => first | rfl | decide +kernel)
    (case vlcc => k_is)
    (case ygC => k_is)
    (case ygS => k_is)
    (case yxL => k_is)
    (case yqL => k_is)
    (case yqI => k_is)
    (case ysa => k_is)
    (case yga => k_is)
    (case ygg => k_is)
    (case ynoN => k_is)
    (case yiC => k_is)
    (case ytC => k_is)
    (case ykC => k_is)
    (case yexC => k_is)
    (case yveC => k_is)
    (case yslC => k_is)
    (case ytyC => k_is)
    (case yhdC => k_is)
    (case ycC => first | rfl | k_is)
    (case ysC => first | rfl | k_is)
    (case yop => k_is)
    (case ytop => rfl)
    (case ylk => k_is)
    (case ycd => k_is)
    (case yhl => first | rfl | decide +kernel)
    (case ylc => k_is)
    (case ylf => first | rfl | k_is)
    (case yhf => first | rfl | decide +kernel)
    (case ylcc => k_is)
    (case hM => k_is)
    (case aC => k_is)
    (case pg => k_is)
    (case hd => k_is)
    (case po => k_is)
    (case sa => k_is)
    (case n1 => k_is)
    (case n2 => k_is)
    (case n3 => k_is)
    (case n4 => k_is)
    (case mk => k_is)
    (case i1 => k_is)
    (case i2 => k_is)
    (case kc => k_is)
    (case i3 => k_is)
    (case i4 => k_is)
    (case i5 => k_is)
    (case ma0 => k_is); (case mi0 => k_is); (case ml0 => k_is); (case mc0 => k_is); (case mk0 => k_is)
    (case ma1 => k_is); (case mi1 => k_is); (case ml1 => k_is); (case mc1 => k_is); (case mk1 => k_is)
    (case ma2 => k_is); (case mi2 => k_is); (case ml2 => k_is); (case mc2 => k_is); (case mk2 => k_is)
    (case ma3 => k_is); (case mi3 => k_is); (case ml3 => k_is); (case mc3 => k_is); (case mk3 => k_is)
    (case ma4 => k_is); (case mi4 => k_is); (case ml4 => k_is); (case mc4 => k_is); (case mk4 => k_is)
    (case ma5 => k_is); (case mi5 => k_is); (case ml5 => k_is); (case mc5 => k_is); (case mk5 => k_is)
    (case ma6 => k_is); (case mi6 => k_is); (case ml6 => k_is); (case mc6 => k_is); (case mk6 => k_is)
    (case aC2 => k_is); (case pg2 => k_is); (case hd2 => k_is); (case po2 => k_is); (case sa2 => k_is); (case n12 => k_is); (case n22 => k_is); (case n32 => k_is); (case n42 => k_is)
    (case y1 => k_is); (case y2 => k_is); (case y3 => k_is); (case y4 => k_is); (case y5 => k_is)
    (case aC3 => k_is); (case pg3 => k_is); (case hd3 => k_is); (case po3 => k_is); (case sa3 => k_is); (case n13 => k_is); (case n23 => k_is); (case n33 => k_is); (case n43 => k_is)
    (case w1 => k_is); (case w2 => k_is); (case w3 => k_is); (case w4 => k_is)
    (case nc1 => k_is); (case nc2 => k_is)
