import PyProof.Rows.All
import Wide.All
import OpenK.AllK
import Wide.FinOn
import PyProof.EqAt
import PyProof.EqKinds
import PyProof.TupleCall
import KE.GoesEnum
import HandS.Base
import HandS.Call
import HandS.List
import HandS.Comp
import HandS.Dict
import HandS.Iter
import HandS.Walk
import HandS.Words
import KE.KEqDict
import HandS.More
import KE.KFromBytes
import KE.KExcSuper
import HandS.Ends
import HandS.Exc
import HandS.TryOnly
import HandS.ExcOwn
import HandS.WordsExc
import HandS.ForMost
import HandS.IsInst
import HandS.DictComp
import HandS.Deep
import HandS.TupAny
import HandS.Wide
import PyProof.InstEq
import HandS.Finally
import HandS.MakeKwOnly
import HandS.DeepEq
import HandS.Codes
import PySem.Challenge.RW_quietpairs_k68_scales
set_option Elab.async false
set_option linter.all false
set_option maxRecDepth 100000
set_option maxHeartbeats 8000000
/-! enumerate over a tuple -/
namespace L2
open PySem PySem.Spec PyProof.Rows

theorem q_enum_newT {t : Addr} {items : Array Value} :
    Meets (Builtin.«enumerate.__new__» ⟨[.type "enumerate", .ref t], []⟩) (fun _ R s => s.heap.IsTuple t items ∧
      R (.ok (.ret (.ref (s.heap.push { cls := .type "tuple_iterator", data := .fields #[.ref t, .int 0 0] }).objs.size))) { s with heap := (s.heap.push { cls := .type "tuple_iterator", data := .fields #[.ref t, .int 0 0] }).push { cls := .type "enumerate", data := .fields #[.none, .bool false, .ref s.heap.objs.size, rawInt 0, .none, .none] } }) :=
  .of_wp fun prog w A R s h => by
    obtain ⟨hp, g, d, tk, os⟩ := s; obtain ⟨h1, h⟩ := h
    have hsub := sub_enumerate
    have q1 : ∀ {A' : Around} {E : Value → Shared → Prop} {Q : Value → Shared → Prop}, Q (.ref hp.objs.size) ⟨hp.push { cls := .type "tuple_iterator", data := .fields #[.ref t, .int 0 0] }, g, d, tk, os⟩ → wpAny (model prog w) A' (pyIter (.ref t)) Q E ⟨hp, g, d, tk, os⟩ :=
      fun q => (begins_tuple t items).iter prog w _ _ ⟨hp, g, d, tk, os⟩ _ h1 q
    wp_walk using q1
    refine wpAny_stack_any fun st => wpAny_pure ?_
    split
    · rename_i c _ _ _ _ _
      cases (c == Value.type "enumerate")
      · wp_walk using q1
        exact ⟨_, rfl, h⟩
      · wp_walk using q1
        exact ⟨_, rfl, h⟩
    · wp_walk using q1
      exact ⟨_, rfl, h⟩
theorem q_call_enumT {prog : Program} {w : World} {A : Around} {E : Value → Shared → Prop} {s : Shared} {l : Addr} {items : Array Value} {Q : Value → Shared → Prop} (hL : s.heap.IsTuple l items)
    (h : ∀ h', IsEnum h' (s.heap.objs.size + 1) s.heap.objs.size 0 .none → h'.IsTupleIter s.heap.objs.size l 0 → h'.objs.size = s.heap.objs.size + 2 →
      (∀ b o, s.heap.get? b = some o → h'.get? b = some o) → Q (.ref (s.heap.objs.size + 1)) { s with heap := h' }) :
    wpAny (model prog w) A (call (.type "enumerate") [.ref l]) Q E s := by
  refine callType_new F.called_enumerate (by decide) (F.typeCall_enumerate_1 _) (F.newCall_enumerate_1 _) (fun obj => F.args_object_init_2 obj _) F.entry_enumerate_new
    (q_enum_newT (items := items)) ⟨hL, ?_⟩
  have hz : (s.heap.push { cls := .type "tuple_iterator", data := .fields #[.ref l, .int 0 0] }).objs.size = s.heap.objs.size + 1 := Heap.size_push ..
  show _ ∧ _
  rw [hz]
  have he : IsEnum ((s.heap.push { cls := .type "tuple_iterator", data := .fields #[.ref l, .int 0 0] }).push
      { cls := .type "enumerate", data := .fields #[.none, .bool false, .ref s.heap.objs.size, rawInt 0, .none, .none] }) (s.heap.objs.size + 1) s.heap.objs.size 0 .none := by
    have := Heap.get?_push_size (s.heap.push { cls := .type "tuple_iterator", data := .fields #[.ref l, .int 0 0] })
      (o := { cls := .type "enumerate", data := .fields #[.none, .bool false, .ref s.heap.objs.size, rawInt 0, .none, .none] }) rfl
    rw [hz] at this; exact this
  refine ⟨⟨_, he, rfl⟩, h _ he ⟨_, Heap.get?_push_of_some _ (Heap.get?_push_size _ rfl), rfl, rfl⟩ (by rw [Heap.size_push, hz]) fun b o x => Heap.get?_push_of_some _ (Heap.get?_push_of_some _ x)⟩

def IteT (K : PySem.W.Frag) (a : Addr) : It :=
  ⟨fun i H => ∃ (xs : List V) (x : V), SqT K H a xs ∧ xs[i]? = some x, fun i H v H' => ∃ T x, v = .ref T ∧ H T = none ∧ H' = upd H T (.tup [.int (i : Nat), x]) ∧ ∀ xs, SqT K H a xs → xs[i]? = some x, fun i H => ∃ xs : List V, SqT K H a xs ∧ xs.length ≤ i⟩
theorem tupIter_isTuple {h : Heap} {a : Addr} {its : Array Value} (p : IsTup h a its) : h.IsTuple a its := p
theorem turn_enumT {P : Program} {w : World} {K : PySem.W.Frag} {elts : List Expr} {kk : Nat} {tpos : Pos} (a e it : Addr) :
    Turn P w K (.Tuple elts kk tpos) (IteT K a) [e, it] e (fun i h => (∃ old, IsEnum h e it ((i : Nat) : Int) old) ∧ h.IsTupleIter it a i ∧ e ≠ it) where
  mem := by simp
  obj := fun i h st b hb => by
    obtain ⟨⟨old, he⟩, ⟨o, ho, hc, hd⟩, _⟩ := st
    have e' : b = e ∨ b = it := by simpa using hb
    rcases e' with z | z
    · rw [z]; exact ⟨_, he, fun v q => nomatch q⟩
    · rw [z]; exact ⟨o, ho, fun v q => by rw [hd] at q; cases q⟩
  keep := fun i h h' st k => let ⟨⟨old, he⟩, hi, hne⟩ := st; ⟨⟨old, k e (by simp) _ he⟩, hi.at fun o q => k it (by simp) o q, hne⟩
  item := by
    intro X hP hw hK hc i pins s σ H E I hf st hg
    subst hP hw hK
    obtain ⟨⟨old, he⟩, hit, hne⟩ := st
    obtain ⟨xs, x, hq, hx⟩ := hg
    obtain ⟨its, rv, p, hz⟩ := I.tuple hq
    obtain ⟨u, hu, ru⟩ := rv.get hx
    have hel : e < s.heap.objs.size := Heap.lt_size he
    have hil : it < s.heap.objs.size := by obtain ⟨_, q, _⟩ := hit; exact Heap.lt_size q
    have hilt : i < its.toArray.size := by
      have := (List.getElem?_eq_some_iff.mp hu).1
      simpa using this
    have hai : a ≠ it := by
      obtain ⟨o1, e1, _, n1, d1⟩ := p
      obtain ⟨o2, e2, _, d2⟩ := hit
      intro z; rw [z, e2] at e1; cases e1; rw [d2] at d1; cases d1
    have hae : a ≠ e := by
      obtain ⟨o1, e1, _, n1, d1⟩ := p
      intro z
      rw [z, he] at e1; cases e1; cases d1
    have D := Draws.tuple (prog := X.prog) (w := X.w) (A := X.A.in1) (by rw [show X.A.in1.handled = none from I.ok.hd hc]) it a hai its.toArray
    refine wpAny_pyNext_enum_itemD D he ⟨hit, p⟩ hilt hne (by
      intro z
      have z' : e = it ∨ e = a := by simpa using z
      rcases z' with z | z
      · exact hne z
      · exact hae z.symm) fun x' h' tk hx' ho hst' hT hsz hk => ?_
    have hxu : x' = u := by
      have e1 : its.toArray[i]? = some u := by simpa using hu
      rw [e1] at hx'; exact (Option.some.inj hx').symm
    subst hxu
    obtain ⟨hit', _⟩ := hst'
    refine ⟨_, rfl, wpAny_letOwnedTupleGo_enum (s := { s with heap := h', toks := tk + 1 }) ho fun h'' he' sb => ?_⟩
    have hT2 : h''.get? s.heap.objs.size = some { cls := .type "tuple", data := .seq #[.int i tk, x'] } := (sb.2 _ (Nat.ne_of_gt hel)).trans hT
    have new : ObjOk X.prog X.w (upd H s.heap.objs.size (.tup [.int (i : Nat), x])) h'' s.heap.objs.size (.tup [.int (i : Nat), x]) :=
      ⟨by show 2 ≤ sizeLine; decide, [.int i tk, x'], .cons ⟨_, rfl⟩ (.cons ru .nil), ⟨_, hT2, rfl, _, rfl⟩⟩
    have I1 : Inv X pins σ (upd H s.heap.objs.size (.tup [.int (i : Nat), x])) { s with heap := h'', toks := tk + 1 } :=
      I.turnedNew (ch := [e, it]) (fun b ob hb q => (sb.2 b (fun z => hb (by simp [z]))).trans (hk b ob (fun z => hb (by simp [z])) (fun z => hb (by simp [z])) q)) hf (Nat.le_refl _) new
    refine ⟨.ref s.heap.objs.size, _, I1, rfl, ⟨_, x, rfl, I.hok.fresh (Nat.le_refl _), rfl, fun ys hy => by rw [I.tuple_inj hy hq]; exact hx⟩, ⟨⟨x', ?_⟩, hit'.at fun o q => (sb.2 it (Ne.symm hne)).trans q, hne⟩, fun b hb => ?_⟩
    · have e1 : ((i + 1 : Nat) : Int) = (i : Int) + 1 := by omega
      rw [e1]; exact he'
    · have hb' : b < s.heap.objs.size := by
        have e' : b = e ∨ b = it := by simpa using hb
        rcases e' with z | z
        · rw [z]; exact hel
        · rw [z]; exact hil
      rw [upd_ne (Nat.ne_of_lt hb')]
      exact (hf b hb).1
  done := by
    intro X hP hw hK hc i pins s σ H E I hf st hg
    subst hP hw hK
    obtain ⟨⟨old, he⟩, hit, hne⟩ := st
    obtain ⟨xs, hq, hx⟩ := hg
    obtain ⟨its, rv, p, hz⟩ := I.tuple hq
    obtain ⟨f0, f1, f2, f3, f4, f5⟩ := hf it (by simp)
    have hl := rv.length
    have hai : a ≠ it := by
      obtain ⟨o1, e1, _, n1, d1⟩ := p
      obtain ⟨o2, e2, _, d2⟩ := hit
      intro z; rw [z, e2] at e1; cases e1; rw [d2] at d1; cases d1
    have hnone : its.toArray[i]? = none := by simp; omega
    unfold pyNext
    have hT : s.TypeIs (.ref e) "enumerate" := ⟨_, he, rfl⟩
    refine wpAny_bind (wpAny_attempt (wpAny_callSpecial?_slot (name := Str.ofString "__next__") hT F.slot_enumerate_next
      (wpAny_call_entry F.slot_enumerate_next hT F.entry_enumerate_next ?_ (F.args_enumerate_next_1 _))))
    show wpAny _ _ (field (.ref e) 2 >>= _) _ _ _
    refine wpAny_bind (wpAny_field he rfl (x := .ref it) rfl ?_)
    refine wpAny_bind (wpAny_nextOf_tuple_end (by rw [show X.A.in1.handled = none from I.ok.hd hc]) hit p hnone fun h' x he' hx' => ?_)
    obtain ⟨o, ho, hc'⟩ := hx'
    refine wpAny_bind (wpAny_isInstance (T := "StopIteration") (b := true) ⟨o, ho, hc'⟩ isSubtype_stop ?_)
    exact wpAny_pure ⟨rfl, I.turned (t' := s.toks) (fun b o hb q => he' b o hb q) f0 f1 f3 f4 f5⟩
  self := fun A i s Q E st h => let ⟨⟨_, he⟩, _⟩ := st; wpAny_pyIter_enum he h
theorem walk_enumT {K : PySem.W.Frag} {a : Addr} {xs : List V} : Walk (IteT K a) xs.length (fun H => SqT K H a xs) (YPair (fun i => some (.int (i : Nat))) (fun i => xs[i]?)) := by
  refine ⟨fun i _ hi q => ⟨xs, xs[i], q, by simp [hi]⟩, fun _ q => ⟨xs, q, Nat.le_refl _⟩, fun i H v H' _ q y => ?_⟩
  obtain ⟨T, x, h1, h2, h3, h4⟩ := y
  exact ⟨T, .int (i : Nat), x, h1, h2, h3, rfl, h4 xs q⟩
theorem enum_or {K : PySem.W.Frag} {H : Hp} {a : Addr} {xs : List V} {R : It → Hp → Prop} (hq : SqL K H a xs ∨ SqT K H a xs)
    (key : ∀ (J : It) (G : Hp → Prop), Walk J xs.length G (YPair (fun i => some (.int (i : Nat))) (fun i => xs[i]?)) → (∀ H', Same H H' → G H') → R J H) : (SqL K H a xs ∧ R (Ite K a) H) ∨ (SqT K H a xs ∧ R (IteT K a) H) := by
  rcases hq with hq | hq
  · exact .inl ⟨hq, key _ _ walk_enum fun H' s => s.seq hq⟩
  · exact .inr ⟨hq, key _ _ walk_enumT fun H' s => by
      rcases hq with (h | ⟨o, h⟩) | h
      · exact .inl (.inl (s _ _ h))
      · exact .inl (.inr ⟨o, s _ _ h⟩)
      · exact .inr h⟩
def iEnumT (K : PySem.W.Frag) (ta : TA) : TI := fun σ H R => ta σ H fun vs H1 => ∃ a xs, vs = [.ref a] ∧ (SqL K H1 a xs ∨ SqT K H1 a xs) ∧
  ∀ (J : It) (G : Hp → Prop), Walk J xs.length G (YPair (fun i => some (.int (i : Nat))) (fun i => xs[i]?)) → (∀ H', Same H1 H' → G H') → R J H1
theorem pi_enumT {X : Cx} {e : Expr} {ta : TA} {p pos tpos : Pos} {elts : List Expr} {kk : Nat} (hg : Gl X "enumerate") (hm : X.mg "enumerate" = none) (ha : PA X [e] ta) (hs : starEach [e] X.env = [(false, eval e X.env)] := by rfl) :
    PI X (.Tuple elts kk tpos) (.Call (.Name "enumerate" p) [e] [] pos) (iEnumT X.K ta) := by
  refine ⟨fun pins s σ H R I h => ?_⟩
  refine Call_ (ld_blt I hg hm boot_enumerate (PyProof.Rows.callWith_type1 (thn (ha.run pos pins s σ H _ I h) fun us s1 ⟨vs, H1, I1, r1, q1⟩ => ?_) hs rfl))
  obtain ⟨a, xs, ex, hq0, key⟩ := q1
  have hq := enum_or (R := R) hq0 key
  subst ex
  cases r1 with
  | cons r rr =>
    cases rr
    cases r
    rcases hq with ⟨hq, q⟩ | ⟨hq, q⟩
    · obtain ⟨its, rv, p', hz⟩ := I1.list hq
      refine call_enumerate_list p'.isList fun h' he hit hsz hk => wpAny_pyIter_enum he ?_
      have I2 : Inv X pins σ H1 { s1 with heap := h' } := I1.kept (t' := s1.toks) hk
      refine ⟨s1.heap.objs.size + 1, [s1.heap.objs.size + 1, s1.heap.objs.size], _, _, H1, rfl, I2, turn_enum a (s1.heap.objs.size + 1) s1.heap.objs.size, ⟨⟨.none, he⟩, hit, Nat.succ_ne_self _⟩, fun b hb => ?_, q⟩
      have e' : b = s1.heap.objs.size + 1 ∨ b = s1.heap.objs.size := by simpa using hb
      have hle : s1.heap.objs.size ≤ b := by
        rcases e' with z | z
        · rw [z]; exact Nat.le_add_right _ _
        · rw [z]; exact Nat.le_refl _
      exact I1.fpOk hle (I1.hok.fresh hle)
    · obtain ⟨its, rv, p', hz⟩ := I1.tuple hq
      refine q_call_enumT p' fun h' he hit hsz hk => wpAny_pyIter_enum he ?_
      have I2 : Inv X pins σ H1 { s1 with heap := h' } := I1.kept (t' := s1.toks) hk
      refine ⟨s1.heap.objs.size + 1, [s1.heap.objs.size + 1, s1.heap.objs.size], _, _, H1, rfl, I2, turn_enumT a (s1.heap.objs.size + 1) s1.heap.objs.size, ⟨⟨.none, he⟩, hit, Nat.succ_ne_self _⟩, fun b hb => ?_, q⟩
      have e' : b = s1.heap.objs.size + 1 ∨ b = s1.heap.objs.size := by simpa using hb
      have hle : s1.heap.objs.size ≤ b := by
        rcases e' with z | z
        · rw [z]; exact Nat.le_add_right _ _
        · rw [z]; exact Nat.le_refl _
      exact I1.fpOk hle (I1.hok.fresh hle)
end L2
/-! x in a list or tuple of texts, x of any kind -/
namespace L2
open PySem PySem.Spec PyProof.Rows
open AutoSeq1 (wpAny_loadPart')
open MeetsSeq MeetsSeq2 MeetsSeq3 SeqRoads2 SeqAt
theorem q_str_eq_dict (b : Str) (u : Tok) (l : Addr) (o : Obj) (hc : o.cls = .type "dict") (hd : ∃ es ep, o.data = .dict es ep) :
    Meets (Builtin.«str.__eq__» ⟨[.str b u, .ref l], []⟩) (fun _ R s => s.heap.get? l = some o ∧ R (.ok (.ret .notImplemented)) s) :=
  .of_wp fun prog w A R s h => by
    obtain ⟨hp, g, d, tk, os⟩ := s; obtain ⟨hl, h⟩ := h
    obtain ⟨c, dd, dt, sl⟩ := o
    obtain ⟨es, ep, hd⟩ := hd
    simp only at hc hd
    subst hc hd
    wp_walk using wpAny_loadPart' hl, wpAny_load hl; exact ⟨_, rfl, h⟩
theorem q_dict_eq_str (l : Addr) (o : Obj) (hc : o.cls = .type "dict") (b : Str) (u : Tok) :
    Meets (Builtin.«dict.__eq__» ⟨[.ref l, .str b u], []⟩) (fun _ R s => s.heap.get? l = some o ∧ R (.ok (.ret .notImplemented)) s) :=
  .of_wp fun prog w A R s h => by
    obtain ⟨hp, g, d, tk, os⟩ := s; obtain ⟨hl, h⟩ := h
    have f1 := F.sub_str_dict
    show wpAny _ _ (Builtin.Dict.dictSlotArgs "__eq__" ⟨[.ref l, .str b u], []⟩ >>= _) _ _ _
    refine wpAny_bind ?_
    unfold Builtin.Dict.dictSlotArgs
    refine wpAny_bind (wpAny_notOrdered_dict (show Shared.TypeIs ⟨hp, g, d, tk, os⟩ (.ref l) "dict" from ⟨_, hl, hc⟩) ?_)
    show wpAny _ _ (pure (Value.ref l, Value.str b u)) _ _ _
    refine wpAny_pure ?_
    wp_walk
    exact ⟨_, rfl, h⟩
theorem q_str_dict {A : Around} {s : Shared} {l : Addr} {o : Obj} (b : Str) (u : Tok) (hl : s.heap.get? l = some o) (hc : o.cls = .type "dict") (hd : ∃ es ep, o.data = .dict es ep) (hu : A.units < cLine) : EqAt A s (.str b u) (.ref l) false := fun prog w E Q h => by
  unfold eqBool
  refine wpAny_holding ?_
  refine wpAny_ite_split (fun hab => absurd (eq_of_beq hab) nofun) (fun _ => ?_)
  refine wpAny_bind ?_
  refine rc_eq_decline_or (k := false) (typeIs_str s b u) ⟨_, hl, hc⟩ (by decide) F.sub_dict_str F.slot_str_eq F.slot_dict_eq_refl
    (fun _ hq => call_meets F.slot_str_eq (typeIs_str s b u) F.entry_str_eq (F.args_str_eq_2 _ _) (q_str_eq_dict b u l o hc hd) ⟨hl, hq⟩)
    (fun _ hq => call_meets F.slot_dict_eq_refl ⟨_, hl, hc⟩ F.entry_dict_eq (F.args_dict_eq_2 _ _) (q_dict_eq_str l o hc b u) ⟨hl, hq⟩)
    (fun _ hq => wpAny_of_eq (rfl : isSame (.str b u) (.ref l) = pure false) hq) (.inr hu) (wpAny_truthy_bool h)
/-- a value that may stand where a name is asked -/
inductive EltV (H : Hp) : V → Prop where
  | flat {x : V} (h : flatV x = true) : EltV H x
  | lst {a : Addr} {xs : List V} (h : H a = some (.lst xs)) : EltV H (.ref a)
  | tup {a : Addr} {xs : List V} (h : H a = some (.tup xs)) : EltV H (.ref a)
  | dct {a : Addr} {kvs : List (Key × V)} (h : H a = some (.dK kvs)) : EltV H (.ref a)
theorem EltV.same {H H' : Hp} (s : Same H H') {x : V} (h : EltV H x) : EltV H' x := by
  cases h with
  | flat h => exact .flat h
  | lst h => exact .lst (s _ _ h)
  | tup h => exact .tup (s _ _ h)
  | dct h => exact .dct (s _ _ h)
def inS (x : V) (ss : List Str) : Bool := ss.any fun z => decide (x = .str z)
theorem inS_iff {x : V} {ss : List Str} : inS x ss = true ↔ ∃ z ∈ ss, x = .str z := by
  unfold inS
  rw [List.any_eq_true]
  simp
theorem inS_str {z : Str} {ss : List Str} : inS (.str z) ss = decide (z ∈ ss) := by
  by_cases h : z ∈ ss
  · rw [decide_eq_true h]
    exact inS_iff.mpr ⟨z, h, rfl⟩
  · rw [decide_eq_false h]
    cases e : inS (.str z) ss with
    | false => rfl
    | true =>
      obtain ⟨y, hy, e⟩ := inS_iff.mp e
      cases e
      exact absurd hy h
def eqS (x : V) (u : Value) : Bool := match u with
  | .str z _ => decide (x = .str z)
  | _ => false
theorem any_eqS {x : V} : ∀ {ss : List Str} {us : List Value}, Vals (ss.map V.str) us → us.any (eqS x) = inS x ss
  | [], _, .nil => rfl
  | z :: ss, u :: us, .cons r t => by
    obtain ⟨k, rfl⟩ := r
    have e := any_eqS (x := x) (ss := ss) (us := us) t
    show (eqS x (.str z k) || us.any (eqS x)) = (decide (x = .str z) || ss.any fun z => decide (x = .str z))
    rw [e]
    rfl
theorem eqAt_S {X : Cx} {pins : List (Addr × Obj)} {σ : St} {H : Hp} {s : Shared} {A : Around} (I : Inv X pins σ H s) (hu : A.units < cLine) {x : V} {v : Value} (rx : RelV x v) (ex : EltV H x) (z : Str) (k : Tok) : EqAt A s (.str z k) v (decide (x = .str z)) := by
  cases ex with
  | flat fx =>
    cases x with
    | non => cases rx; exact EqAt.str_none z k
    | bl b => cases rx; exact EqAt.str_bool z k b
    | int b => obtain ⟨t, rfl⟩ := rx; exact EqAt.str_int z k b t
    | str b =>
      obtain ⟨t, rfl⟩ := rx
      have e := EqAt.str_str (A := A) (s := s) z k b t
      have q : (z == b) = decide (V.str b = V.str z) := by
        by_cases h : z = b
        · subst h; simp
        · have h2 : ¬ V.str b = V.str z := fun y => h (V.str.inj y).symm
          rw [decide_eq_false h2]
          simpa using h
      rw [← q]
      exact e
    | _ => exact absurd (show false = true from fx) Bool.false_ne_true
  | @lst a xs h =>
    cases (show v = Value.ref a from rx)
    obtain ⟨_, its, n, _, h1⟩ := (show ObjOk X.prog X.w H s.heap a (.lst xs) from I.hok a _ h)
    exact EqAt.str_list z k (items := its.toArray) ⟨_, h1, rfl, n, rfl⟩ hu
  | @tup a xs h =>
    cases (show v = Value.ref a from rx)
    obtain ⟨_, its, _, h1⟩ := (show ObjOk X.prog X.w H s.heap a (.tup xs) from I.hok a _ h)
    exact EqAt.str_tuple z k h1 hu
  | @dct a kvs h =>
    cases (show v = Value.ref a from rx)
    obtain ⟨_, _, vs, _, o, es, ep, h1, h2, h3, _⟩ := (show ObjOk X.prog X.w H s.heap a (.dK kvs) from I.hok a _ h)
    exact q_str_dict z k h1 h2.1 ⟨_, _, h3⟩ hu
theorem mem_eqS {X : Cx} {pins : List (Addr × Obj)} {σ : St} {H : Hp} {s : Shared} {A : Around} (I : Inv X pins σ H s) (hu : A.units < cLine) {x : V} {v : Value} (rx : RelV x v) (ex : EltV H x) : ∀ {ss : List Str} {us : List Value}, Vals (ss.map V.str) us → ∀ u ∈ us, EqAt A s u v (eqS x u)
  | [], _, .nil => fun u hu => by cases hu
  | z :: ss, u :: us, .cons r t => fun u' hu' => by
    rcases List.mem_cons.mp hu' with rfl | hu'
    · obtain ⟨k, rfl⟩ := r
      exact eqAt_S I hu rx ex z k
    · exact mem_eqS I hu rx ex t u' hu'
def rInS (K : PySem.W.Frag) (neg : Bool) : R2 := fun x y H Q => ∃ p ss, y = .ref p ∧ (SqL K H p (ss.map V.str) ∨ SqT K H p (ss.map V.str)) ∧ EltV H x ∧ Q (.bl (if neg then !inS x ss else inS x ss)) H
theorem op_inS {X : Cx} (hu : X.A.units + 64 < cLine) : OpR X (compareOp .In) (rInS X.K false) := by
  intro pins s σ H x y v u Q I rx ry h
  obtain ⟨p, ss, rfl, hq, ex, q⟩ := h
  cases ry
  rcases hq with hq | hq
  · obtain ⟨its, r, pl, hz⟩ := I.list hq
    refine SeqAt.in_listAt (eqS x) pl.isList (fun w hw => mem_eqS I (by first | exact Nat.lt_of_le_of_lt (Nat.le_add_right _ 64) hu | exact Nat.lt_of_le_of_lt (Nat.add_le_add_left (by decide) _) hu) rx ex r w (by simpa using hw)) ⟨.bl _, H, I, rfl, ?_⟩
    rw [show its.toArray.any (eqS x) = its.any (eqS x) by simp, any_eqS r]
    exact q
  · obtain ⟨its, r, pl, hz⟩ := I.tuple hq
    refine SeqAt.in_tupleAt (eqS x) pl (fun w hw => mem_eqS I (by first | exact Nat.lt_of_le_of_lt (Nat.le_add_right _ 64) hu | exact Nat.lt_of_le_of_lt (Nat.add_le_add_left (by decide) _) hu) rx ex r w (by simpa using hw)) ⟨.bl _, H, I, rfl, ?_⟩
    rw [show its.toArray.any (eqS x) = its.any (eqS x) by simp, any_eqS r]
    exact q
theorem op_notInS {X : Cx} (hu : X.A.units + 64 < cLine) : OpR X (compareOp .NotIn) (rInS X.K true) := by
  intro pins s σ H x y v u Q I rx ry h
  obtain ⟨p, ss, rfl, hq, ex, q⟩ := h
  cases ry
  rcases hq with hq | hq
  · obtain ⟨its, r, pl, hz⟩ := I.list hq
    refine SeqAt.notIn_listAt (eqS x) pl.isList (fun w hw => mem_eqS I (by first | exact Nat.lt_of_le_of_lt (Nat.le_add_right _ 64) hu | exact Nat.lt_of_le_of_lt (Nat.add_le_add_left (by decide) _) hu) rx ex r w (by simpa using hw)) ⟨.bl _, H, I, rfl, ?_⟩
    rw [show its.toArray.any (eqS x) = its.any (eqS x) by simp, any_eqS r]
    exact q
  · obtain ⟨its, r, pl, hz⟩ := I.tuple hq
    refine SeqAt.notIn_tupleAt (eqS x) pl (fun w hw => mem_eqS I (by first | exact Nat.lt_of_le_of_lt (Nat.le_add_right _ 64) hu | exact Nat.lt_of_le_of_lt (Nat.add_le_add_left (by decide) _) hu) rx ex r w (by simpa using hw)) ⟨.bl _, H, I, rfl, ?_⟩
    rw [show its.toArray.any (eqS x) = its.any (eqS x) by simp, any_eqS r]
    exact q
end L2
/-! sorted(t), t a tuple of texts -/
namespace L2
open PySem PySem.Spec PyProof.Rows
theorem q_collectT {prog : Program} {w : World} {A : Around} {E : Value → Shared → Prop} {s : Shared} {l : Addr} {vs : List Value} {Q : List Value → Shared → Prop} (hl : IsTup s.heap l vs.toArray)
    (h : ∀ h', (∀ b o, s.heap.get? b = some o → h'.get? b = some o) → Q vs { s with heap := h' }) (hsz : vs.length ≤ sizeLine) :
    wpAny (model prog w) A (collect (.ref l)) Q E s := by
  obtain ⟨o, ho, hc, n, hd⟩ := id hl
  have F := h ((s.heap.push (seqObj "list" #[] 0)).update s.heap.objs.size (Obj.mapSeq (· ++ vs.toArray))) (fun b u e => by
    rw [Heap.get?_update_ne _ _ _ _ (Nat.ne_of_lt (Heap.lt_size e))]
    exact Heap.get?_push_of_some _ e)
  unfold collect
  refine wpAny_bind (wpAny_runValue (codeAny_builtin entry_proto_collect' ?_))
  show wpAny _ _ (do again (.builtin "list.__iadd__" ⟨[← newList [], .ref l], []⟩)) _ _ s
  refine wpAny_bind (wpAny_newList (wpAny_pure ⟨Code.quiet_builtin _ (by decide +kernel), codeAny_builtin entry_list_iadd' ?_⟩))
  show wpAny _ _ (Builtin.List.listExtendWith (.ref s.heap.objs.size) (.ref l) (.ref s.heap.objs.size)) _ _ { s with heap := s.heap.push (seqObj "list" #[] 0) }
  unfold Builtin.List.listExtendWith
  have ho' : (s.heap.push (seqObj "list" #[] 0)).get? l = some o := Heap.get?_push_of_some _ ho
  refine wpAny_bind (wpAny_typeOf (T := "tuple") ⟨o, ho', hc⟩ ?_)
  rw [if_pos (by rw [show (Value.type "tuple" == Value.type "tuple") = true by rfl]; simp)]
  refine wpAny_bind (listItems_at ho' hd ?_)
  refine wpAny_bind (listItems_at (xs := #[]) (n := 0) (Heap.get?_push_size _ rfl) rfl ?_)
  rw [if_neg (by simp)]
  refine wpAny_bind (listUpdate_at (xs := #[]) (n := 0) (Heap.get?_push_size _ rfl) rfl ?_ (Nat.zero_le _) (by show (#[] ++ vs.toArray).size ≤ sizeLine + 1; simp only [Array.size_append, List.size_toArray, List.length_nil]; omega))
  refine wpAny_pure ?_
  show wpAny (model prog w) A (do
      let o ← load s.heap.objs.size
      match o.data with
      | .seq xs _ => pure xs.toList
      | _ => unsupported "internal:collect") Q E { s with heap := (s.heap.push (seqObj "list" #[] 0)).update s.heap.objs.size (Obj.mapSeq (· ++ vs.toArray)) }
  refine wpAny_bind (wpAny_load (get?_update_seq (Heap.get?_push_size _ rfl) _) ?_)
  show wpAny _ _ (pure ((#[] : Array Value) ++ vs.toArray).toList) Q E _
  rw [show ((#[] : Array Value) ++ vs.toArray).toList = vs by simp]
  exact wpAny_pure F
section
variable {X : Cx}
def rSortedST (K : PySem.W.Frag) : List V → Hp → VK → Prop := fun vs H Q => ∃ (a : Addr) (xs : List Str), vs = [V.ref a] ∧ SqT K H a (xs.map V.str) ∧ xs.length < 64 ∧
  ∀ (ys : List Str) (p : Addr), ys.Perm xs → sortedS ys = true → H p = none → Q (.ref p) (upd H p (.lst (ys.map V.str)))
theorem cr_sortedST : CallR X (.builtin "sorted") (rSortedST X.K) := by
  intro pins s σ H xs us Q I r q
  obtain ⟨a, ks, ex, hd, h64, q⟩ := q
  subst ex
  obtain ⟨u, eu, rx⟩ := vals1 r
  subst eu
  cases rx
  obtain ⟨its, rv, ht, hz⟩ := I.tuple hd
  have hal : its.length = ks.length := by
    have e := rv.length
    rw [List.length_map] at e
    exact e.symm
  have hS : StrsAre its ks := rv.strs
  refine Calls.call_function_entry PyProof.Rows.kind_sorted PyProof.Rows.plain_sorted PyProof.Rows.entry_sorted (PyProof.Rows.args_sorted1 _) ?_
  unfold Builtin.«sorted»
  refine wpAny_bind (m := checkCount "sorted" 1 1 _) (wpAny_pure ?_)
  refine wpAny_bind (q_collectT ht (fun h' hk => ?_) (by rw [hal, sizeLine_eq]; omega))
  have I1 : Inv X pins σ H { s with heap := h' } := I.kept (t' := s.toks) hk
  refine wpAny_bind (wpAny_newList ?_ (by rw [hal, sizeLine_eq]; omega))
  have hoL : (h'.push (seqObj "list" its.toArray 0)).get? h'.objs.size = some (seqObj "list" its.toArray 0) := Heap.get?_push_size _ rfl
  show wpAny _ _ _ _ _ { s with heap := h'.push (seqObj "list" its.toArray 0) }
  refine wpAny_bind (wpAny_holding (wpAny_call_entry PyProof.Rows.slot_list_sort ⟨_, hoL, rfl⟩ PyProof.Rows.entry_list_sort
    (list_sort_treeK strKind_oneLt (s := { s with heap := h'.push (seqObj "list" its.toArray 0) }) hoL hS.keysOf (fun v₁ v₂ rest e => keyKind_strs (by rw [← e]; exact hS)) (by rw [hal]; exact h64) fun st' hp hs => ⟨_, rfl, ?_⟩)
    (PyProof.Rows.args_list_sort _)))
  obtain ⟨ys, g1, g2, g3⟩ := sorted_out_str hS hp hs
  obtain ⟨e', he'⟩ := PyProof.Rows.sortedHeap_at (vs := its) (out := (arrOf st').map (·.2)) hoL
  have hlen : (ys.map V.str).length ≤ sizeLine := by
    rw [List.length_map, g2.length_eq]
    exact Nat.le_trans (Nat.le_of_lt h64) (by decide)
  refine wpAny_pure ⟨_, rfl, .ref h'.objs.size, upd H h'.objs.size (.lst (ys.map V.str)), I1.laid (t' := s.toks) (fun b u e => ?_) (Nat.le_refl _)
    (show ObjOk X.prog X.w _ _ _ (.lst (ys.map V.str)) from ⟨hlen, ((arrOf st').map (·.2)).toList, e', vals_of_strs g1, by rw [Array.toArray_toList]; exact he'⟩), rfl, q ys _ g2 g3 (I1.hok.fresh (Nat.le_refl _))⟩
  have hb : b < h'.objs.size := Heap.lt_size e
  rw [PyProof.Rows.sortedHeap_old (Nat.ne_of_lt hb) (by rw [size_push']; exact Nat.lt_succ_of_lt hb)]
  exact Heap.get?_push_of_some _ e
end
end L2
/-! an own error over ValueError whose __init__ says super().__init__('..') and then self.f = f -/
namespace PySem
namespace QX
open PySem.W PySem.Calls PyProof.Rows PySem.HandSPX
def iA (f : Str) (p1 p2 : Pos) : Arguments := { posonlyargs := [], args := [{ arg := "self", annotation := none, pos := p1 }, { arg := f, annotation := none, pos := p2 }], vararg := none, kwonlyargs := [], kw_defaults := [], kwarg := none, defaults := [] }
def iB (f t : Str) (k : Nat) (q1 q2 q3 q4 q5 q6 q7 q8 q9 q10 : Pos) : List Stmt :=
  [.Expr (.Call (.Attribute (.Call (.Name "super" q1) [] [] q2) "__init__" q3) [.Constant (.str t) k q4] [] q5) q6, .Assign [.Attribute (.Name "self" q7) f q8] (.Name f q9) q10]
def iS (f : Str) : Scope := { kind := .function, names := [("self", .local), (f, .local), ("__class__", .free), ("super", .globalImplicit)], isGenerator := false, isCoroutine := false, more := [] }
/-- what the written part says of the class at C (its __init__ at fI, the cell of __class__ at cc, the code at cda) -/
structure OwnTxt (P : Program) (K : Frag) (mg : Str → Option Value) (cn f : Str) (C fI : Addr) : Prop where
  gC : mg cn = some (.ref C)
  gS : mg "super" = none
  cls : ∃ nm q N bs bm sn sub ab col dd k0 k1 k2 k3 k5, K.lookup C = some (excClassObj nm q C N bs bm true sn sub ab col dd k0 k1 k2 k3 k5 "ValueError.__new__") ∧ refsVE bm = true ∧ alongIn K "__init__" bm = some (some (.builtin "ValueError.__init__"))
  sa : findIn K (.ref C) "__setattr__" = some (some (.builtin "object.__setattr__"))
  ga : findIn K (.ref C) "__getattribute__" = some (some (.builtin "BaseException.__getattribute__"))
  gg : findIn K (.ref C) "__getattr__" = some none
  noN : findIn K (.ref C) f = some none
  iC : findIn K (.ref C) "__init__" = some (some (.ref fI))
  tC : typeIn K (.ref fI) = some (.type "function")
  kC : keepIn K (.ref C) = true
  exC : subIn K (.ref C) (.type "BaseException") = some true
  veC : subIn K (.ref C) (.type "ValueError") = some true
  slC : mroIn K C (.ref C) = some true
  tyC : typeIn K (.ref C) = some (.type "type")
  hdC : hasDictIn K C = true
  te : exmOne K (.ref C) (.ref C) = some true
  op : nsIn K cStatics "thirdparty.any" = some none
  top : (P.main.scope.names.lookup ("super" : Str)).isSome = false
  fn : ∃ (qual t : Str) (kk : Nat) (oc : Value) (od : Option Addr) (doc pm : Value) (an : Option Addr) (cda cc : Addr) (ct : Value) (osl : Array (Option Value)) (p1 p2 q1 q2 q3 q4 q5 q6 q7 q8 q9 q10 : Pos),
    K.lookup fI = some ⟨oc, od, .func (ksFn "__init__" qual (iA f p1 p2) (iB f t kk q1 q2 q3 q4 q5 q6 q7 q8 q9 q10) (iS f) .none .none doc pm an (.ref cda) ct cc), osl⟩ ∧ codeIn K (.ref cda) qual = true ∧ (q3.endLine == q5.line) = true ∧
    (∃ ccl cdd vs ccs file tf, K.lookup cda = some ⟨ccl, cdd, .fields vs, ccs⟩ ∧ vs[2]? = some (.str file tf) ∧ ((P.main.file : Str) == file) = true) ∧
    ∃ cl cld csl, K.lookup cc = some ⟨cl, cld, .cell (some (.ref C)), csl⟩
  sc1 : (iS f).names.lookup f = some .local
  sc2 : (iS f).names.lookup ("super" : Str) = some .globalImplicit
  sc3 : (iS f).names.lookup ("__class__" : Str) = some .free
  sc4 : (iS f).names.lookup ("self" : Str) = some .local
  dbg : (f == ("__debug__" : Str)) = false
  bnd : ∀ (qual : Str) (p1 p2 : Pos) (b : List Stmt) (doc pm : Value) (an : Option Addr) (cdv ct : Value) (cc : Addr) (s : Shared) (u v : Value), BindsTo s (ksFn "__init__" qual (iA f p1 p2) b (iS f) .none .none doc pm an cdv ct cc) ⟨[u, v], []⟩ [("self", u), (f, v)]
  lk1 : ∀ (u v : Value), ([("self", u), (f, v)] : List (Str × Value)).reverse.lookup ("self" : Str) = some u
  lk2 : ∀ (u v : Value), ([("self", u), (f, v)] : List (Str × Value)).reverse.lookup f = some v
/-- what __init__ leaves of a fresh exception at x -/
structure InitEnd (f : Str) (h h' : Heap) (x C dx t1 : Addr) (v : Value) : Prop where
  keep : ∀ b o, b ≠ x → h.get? b = some o → h'.get? b = some o
  obj : h'.get? x = some { cls := .ref C, dict := some dx, data := .fields #[.ref t1, .none, .none, .none, .bool false, .none] }
  dbig : h.objs.size ≤ dx
  dne : dx ≠ x
  ns : h'.Ns1 dx (fun y => if y = f then some v else none)
section
variable {prog : Program} {w : World} {A : Around} {E : Value → Shared → Prop} {h : Heap} {g : Array GenState} {d : Drawn} {t : Nat} {os : OsState}
variable {nm q : Str} {C N : Addr} {bs bm : List Value} {hdct : Bool} {sn : List Str} {sub : List Value} {ab : Bool} {col : Option Bool} {dd : Option Addr} {k0 k1 k2 k3 k5 : Option Value}
/-- the bound ValueError.__init__, called -/
theorem q_call_bw {u e t0 : Addr} {rest : List Value} {Q : Value → Shared → Prop}
    (hC : h.get? C = some (excClassObj nm q C N bs bm hdct sn sub ab col dd k0 k1 k2 k3 k5 "ValueError.__new__")) (he : h.get? e = some (excO C t0)) (hu : h.get? u = some (kxs_mw "ValueError.__init__" e)) (hrest : rest.length ≤ sizeLine)
    (hq : ∀ h' t1, (∀ b o, b ≠ e → h.get? b = some o → h'.get? b = some o) → h'.get? e = some (excO C t1) → Q .none ⟨h', g, d, t, os⟩) :
    wpAny (model prog w) A (call (.ref u) rest) Q E ⟨h, g, d, t, os⟩ := by
  have F := F.excBase_ValueError
  refine wpAny_call (codeAny_of_tree ?_)
  show wpAny _ A.in1 (callAny (.ref u) ⟨rest, []⟩) _ _ _
  simp only [callAny]
  refine wpAny_bind (wpAny_load hu ?_)
  simp only [kxs_mw, show (Value.type "method-wrapper" == Value.type "method" || Value.type "method-wrapper" == Value.type "builtin_function_or_method" || Value.type "method-wrapper" == Value.type "method-wrapper") = true by decide, if_true]
  refine KFB.if_so (by decide) ?_
  refine wpAny_bind (check_bound_init F.toExcCallFacts hC he rfl ?_)
  refine wpAny_bind (wpAny_pure (wpAny_pure ?_))
  refine ⟨plainId_quiet F.init.plain _, codeAny_builtin F.initEntry ?_⟩
  rw [Around.under_plainId F.init.plain _]
  wp_walk
  refine hq _ h.objs.size (fun b o hb ho => ?_) ?_
  · rw [Heap.get?_update_other _ _ (Ne.symm hb)]
    exact Heap.get?_push_of_some _ ho
  · rw [Heap.get?_update_self _ (Heap.get?_push_of_some _ he) rfl]
    rfl
end
section
variable {prog : Program} {w : World} {A : Around} {E : Value → Shared → Prop} {R : Result → Shared → Prop} {s : Shared} {K : Frag} {mg : Str → Option Value} {C fI : Addr} {cn f : Str}
theorem one_size (v : Value) : [v].length ≤ sizeLine := by
  rw [sizeLine_eq]
  exact (by decide : 1 ≤ 16777216)
theorem ldX {M : Model} {s : Shared} {env : Env} {m : Str → Option Value} {x : Str} {pos : Pos} {v : Value} {Q : Value → Shared → Prop} {A : Around} {E : Value → Shared → Prop} (hn : s.heap.Ns env.locals m) (hv : m x = some v) (h : Q v s)
    (hk : env.scope.kind = .function) (hl : env.kindOf x = some .local) (hd : (x == ("__debug__" : Str)) = false) : wpAny M A (eval (.Name x pos) env) Q E s := wpAny_Name (wpAny_loadName_local hk hl hn hv h) hd
theorem own_init (T : OwnTxt prog K mg cn f C fI) {x t0 : Addr} {v : Value} (X : K.In s.heap) (hlim : s.heap.NoLimit) (hgl : s.heap.Ns mainGlobals mg) (hbl : ∃ mb, s.heap.Ns builtinsNs mb ∧ ∀ x : Str, x ≠ "__name__" → mb x = bootBuiltins x)
    (hx : s.heap.get? x = some (excO C t0)) (hnx : K.lookup x = none) (hroom : A.depth < recursionLimit)
    (hq : ∀ h' tk dx t1, InitEnd f s.heap h' x C dx t1 v → R (.ok (.ret .none)) { s with heap := h', toks := tk }) :
    codeAny (model prog w) A (.call (.ref fI) ⟨[.ref x, v], []⟩) R s := by
  obtain ⟨qual, tx, kk, oc, od, doc, pm, an, cda, cc, ct, osl, p1, p2, q1, q2, q3, q4, q5, q6, q7, q8, q9, q10, ho, hcd, hl, ⟨ccl, cdd, vs, ccs, file, tf, hcda, hvs, hfile⟩, ⟨cl, cld, csl, hcell⟩⟩ := T.fn
  obtain ⟨nm, q, N, bs, bm, sn, sub, ab, col, dd, k0, k1, k2, k3, k5, hC, hbm, hal⟩ := T.cls
  obtain ⟨mb, hmb, hmb2⟩ := hbl
  have hcl : clsIn K C = some { name := nm, bases := bs, mro := .ref C :: bm, ns := N, qualname := q, hasDict := true, slotNames := sn, subclasses := sub, abstract := ab, collection := col, hasDel := false } := by unfold clsIn; rw [hC] <;> rfl
  refine ks_codeAny_call_defAt (binds := [("self", .ref x), (f, v)]) hroom (X _ _ ho) rfl hlim (PySem.W.codeRec_of X hcd) rfl (T.bnd _ _ _ _ _ _ _ _ _ _ _ _ _) ?hcell ?hloc (fun h₁ hns k => ?_) rfl rfl rfl
  case hcell =>
    intro y hy
    have hy' : y = (("self" : Str), NameKind.local) ∨ y = (f, NameKind.local) ∨ y = (("__class__" : Str), NameKind.free) ∨ y = (("super" : Str), NameKind.globalImplicit) := by
      have z : y ∈ (iS f).names := hy
      simpa [iS] using z
    rcases hy' with e | e | e | e <;> (rw [e]; intro z; cases z)
  case hloc =>
    intro y hy
    have hy' : y = (("self" : Str), Value.ref x) ∨ y = (f, v) := by simpa using hy
    rcases hy' with e | e
    · rw [e]; rfl
    · rw [e]; exact T.sc1
  have hxL : s.heap.objs.size ≠ x := Nat.ne_of_gt (Heap.lt_size hx)
  have X₁ : K.In h₁ := X.keeps k
  have hx₁ := k _ _ hx
  have hC₁ := X₁ _ _ hC
  have lt₁ : s.heap.objs.size < h₁.objs.size := hns.lt
  have hgl₁ : h₁.Ns mainGlobals mg := hgl.keeps k
  have hmb₁ : h₁.Ns builtinsNs mb := hmb.keeps k
  have hsn : mb "super" = some (.type "super") := (hmb2 "super" (by decide)).trans (by first | boot_by_name | rfl | kernel_rfl)
  refine ks_wpAt_execs_cons (ks_wpAt_Expr_any (ks_wpAt_MethodCall (pl := (do return (← importBound (.Call (.Name "super" q1) [] [] q2) (callEnv (ksFn "__init__" qual (iA f p1 p2) (iB f tx kk q1 q2 q3 q4 q5 q6 q7 q8 q9 q10) (iS f) .none .none doc pm an (.ref cda) ct cc) s.heap.objs.size fI)).getD true)) ?_ (by
    rw [arm_eval_Call]
    unfold methodCall methodCallPos
    simp only [hl, Bool.or_true, if_true]
    rfl)) (by rfl) (by rfl))
  refine ks_wpAt_super_base T.sc2 T.sc3 (by decide) rfl (X₁ _ _ ho) rfl (by rfl) rfl (X₁ _ _ hcda) rfl hvs hfile T.top ?_
  refine ks_loadName_global rfl T.sc2 (Calls.loadGlobal_builtin hgl₁ T.gS hmb₁ hsn ⟨rfl, ?_⟩)
  refine wpAny_loadName_free rfl T.sc3 (by rfl) ⟨_, X₁ _ _ hcell, rfl⟩ ?_
  refine wpAny_loadName_local rfl T.sc4 hns (T.lk1 _ _) ?_
  refine ks_wpAny_isType_cls hC₁ rfl ⟨rfl, ?_⟩
  refine ks_wpAny_call_super hC₁ rfl hx₁ rfl (fun c e => by cases e) (looks_mroIn X₁ T.slC) (fun h₂ eso k₂ => ?_)
  have X₂ : K.In h₂ := X₁.keeps k₂
  have I₂ : PySem.W.InstAt h₂ x (excO C t0) C none := ⟨k₂ _ _ hx₁, rfl, rfl, trivial⟩
  have hxC : x ≠ C := fun z => by rw [z, hC] at hnx; cases hnx
  refine kxs_getMethod kxs_ValueError eso (looks_opaque X₂ T.op) (l₀ := .ref C :: bm) (l := bm) (fun A' Q' E' s' k' q' => wpAny_bind ((looks_clsIn X₂ hcl) A' _ E' s' k' (wpAny_pure q'))) (by simp [List.dropWhile_cons]) X₂ hal (I₂.type.andThen (looks_subIn X₂ T.veC)) hxC (by decide) ?_
  refine kxs_callWith (i := "ValueError.__init__") (x := x) (by rfl) ?_
  refine evalArgs_plain (Calls.spliced_cons (Calls.Constant_str (k := kk) (pos := q4) (Calls.spliced_nil ?_)))
  refine ⟨Heap.get?_push_at rfl rfl, ?_⟩
  have hC₃ : (h₂.push (kxs_mw "ValueError.__init__" x)).get? C = some (excClassObj nm q C N bs bm true sn sub ab col dd k0 k1 k2 k3 k5 "ValueError.__new__") := Heap.get?_push_of_some _ (k₂ _ _ hC₁)
  have hx₃ : (h₂.push (kxs_mw "ValueError.__init__" x)).get? x = some (excO C t0) := Heap.get?_push_of_some _ (k₂ _ _ hx₁)
  refine q_call_bw hC₃ hx₃ (Heap.get?_push_at rfl rfl) (one_size _) (fun h₄ t1 k₄ hx₄ => ?_)
  have kall : ∀ b o, b ≠ x → s.heap.get? b = some o → h₄.get? b = some o := fun b o hb e => k₄ b o hb (Heap.get?_push_of_some _ (k₂ _ _ (k _ _ e)))
  have k14 : ∀ b o, b ≠ x → h₁.get? b = some o → h₄.get? b = some o := fun b o hb e => k₄ b o hb (Heap.get?_push_of_some _ (k₂ _ _ e))
  have X₄ : K.In h₄ := fun a o e => by
    by_cases ha : a = x
    · rw [ha, hnx] at e; cases e
    · exact kall a o ha (X a o e)
  have hLx : s.heap.objs.size ≠ x := hxL
  have hns₄ : h₄.Ns s.heap.objs.size fun y => ([(("self" : Str), Value.ref x), (f, v)] : List (Str × Value)).reverse.lookup y := by
    obtain ⟨o, es, ep, e1, r⟩ := hns
    exact ⟨o, es, ep, k14 _ _ hLx e1, r⟩
  have sz₄ : s.heap.objs.size ≤ h₄.objs.size := Nat.le_of_lt hns₄.lt
  refine wpAt_of_wpAny ?_
  refine wpAny_execs_cons (plainObj_wpAny_Assign_Attribute ?_ (by rfl))
  refine ldX hns₄ (T.lk2 _ _) (ldX hns₄ (T.lk1 _ _) ?_ rfl T.sc4 (by decide)) rfl T.sc1 T.dbg
  refine set_plain X₄ (ox := excO C t1) (od := none) ⟨hx₄, rfl, rfl, trivial⟩ T.sa ?_
  refine exc_osa X₄ hx₄ hcl (show refsVE (.ref C :: bm) = true from hbm) rfl T.noN (fun h₅ tk₅ dx k₅ dn dne hx₅ hn₅ => ?_)
  show wpAny _ _ (execs _ _) _ _ _
  exact wpAny_execs_nil (hq h₅ tk₅ dx t1 ⟨fun b o hb e => k₅ b o hb (kall b o hb e), hx₅, Nat.le_trans sz₄ dn, dne, hn₅⟩)
end
/-- a made error -/
structure OwnMade (f : Str) (h h' : Heap) (e C d : Addr) (v : Value) : Prop where
  keep : ∀ b o, h.get? b = some o → h'.get? b = some o
  new : h.objs.size ≤ e
  obj : ∃ oe vs, h'.get? e = some oe ∧ oe.cls = .ref C ∧ oe.dict = some d ∧ oe.data = .fields vs ∧ vs[1]? = some .none
  dbig : h.objs.size ≤ d
  dne : d ≠ e
  ns : h'.Ns1 d (fun y => if y = f then some v else none)
section
variable {prog : Program} {w : World} {A : Around} {R : Result → Shared → Prop} {s : Shared} {K : Frag} {mg : Str → Option Value} {C fI : Addr} {cn f : Str}
theorem own_made (T : OwnTxt prog K mg cn f C fI) {v : Value} (X : K.In s.heap) (hlim : s.heap.NoLimit) (hgl : s.heap.Ns mainGlobals mg) (hbl : ∃ mb, s.heap.Ns builtinsNs mb ∧ ∀ x : Str, x ≠ "__name__" → mb x = bootBuiltins x)
    (hroom : A.depth + 1 < recursionLimit)
    (hq : ∀ h' tk e d, OwnMade f s.heap h' e C d v → R (.ok (.ret (.ref e))) { s with heap := h', toks := tk }) :
    codeAny (model prog w) A (.call (.ref C) ⟨[v], []⟩) R s := by
  obtain ⟨nm, q, N, bs, bm, sn, sub, ab, col, dd, k0, k1, k2, k3, k5, hC, hbm, _⟩ := T.cls
  obtain ⟨mb, hmb, hmb2⟩ := hbl
  obtain ⟨hp, g, dr, tk, os⟩ := s
  have k : ∀ b o, hp.get? b = some o → ((hp.push (kdv_tup [v])).push (excO C hp.objs.size)).get? b = some o := fun b o e => Heap.get?_push_of_some _ (Heap.get?_push_of_some _ e)
  have hget : ((hp.push (kdv_tup [v])).push (excO C hp.objs.size)).get? (hp.objs.size + 1) = some (excO C hp.objs.size) := by heap_get
  have hnx : K.lookup (hp.objs.size + 1) = none := by
    cases e : K.lookup (hp.objs.size + 1) with
    | none => rfl
    | some o =>
      have z : hp.get? (hp.objs.size + 1) = some o := X _ _ e
      exact absurd (Nat.lt_of_succ_lt (Heap.lt_size z)) (Nat.lt_irrefl _)
  refine call_own F.excBase_ValueError (fun X => refsVE_contains X bm hbm) (X _ _ hC) (looks_findIn X T.iC) (fun self => bind_fn X self T.tC) (one_size v) ?_
  refine own_init (s := ⟨(hp.push (kdv_tup [v])).push (excO C hp.objs.size), g, dr, tk, os⟩) T (X.keeps k) (hlim.keeps k) (hgl.keeps k) ⟨mb, hmb.keeps k, hmb2⟩ hget hnx ?_ fun h' tk' dx t1 ⟨k', hx, dn, dne, hns⟩ => ?_
  · show A.depth + 1 < recursionLimit
    exact hroom
  · have old : ∀ b o, hp.get? b = some o → h'.get? b = some o := fun b o e => k' b o (Nat.ne_of_lt (Nat.lt_succ_of_lt (Heap.lt_size e))) (k b o e)
    have z : hp.objs.size + 1 + 1 ≤ dx := by
      first
        | (simpa only [Heap.size_push] using dn)
        | exact dn
        | (have q := dn; rw [Heap.size_push, Heap.size_push] at q; exact q)
    exact ⟨rfl, hq h' tk' (hp.objs.size + 1) dx ⟨old, Nat.le_succ _, ⟨_, _, hx, rfl, rfl, rfl, rfl⟩, Nat.le_trans (Nat.le_trans (Nat.le_succ _) (Nat.le_succ _)) z, dne, hns⟩⟩
end
end QX
end PySem
namespace L2
open PySem PySem.Spec PyProof.Rows
theorem relO_one {f : Str} {v : V} {v' : Value} (r : RelV v v') (g : Str) : RelO (List.lookup g [(f, v)]) (if g = f then some v' else none) := by
  by_cases hw : g = f
  · subst hw
    rw [if_pos rfl]
    have q : List.lookup g [(g, v)] = some v := by simp [List.lookup]
    rw [q]
    exact r
  · rw [if_neg hw]
    have qw : (g == f) = false := by simpa using hw
    have q2 : List.lookup g [(f, v)] = none := by simp [List.lookup, qw]
    rw [q2]
    trivial
section
variable {X : Cx} {C fI : Addr} {cn f : Str}
/-- C(e) -/
def tMkOwn (C : Addr) (f : Str) (ta : TA) : St → Hp → XK → Prop := fun σ H Q => ta σ H fun vs H1 => ∃ v, vs = [v] ∧ ∀ d, H1 d = none → Q (.ref C) (some d) (upd H1 d (.xd [(f, v)]))
theorem pmk_ownS {a : Expr} {ta : TA} {p pos : Pos} {k : Nat} (T : PySem.QX.OwnTxt X.prog X.K X.mg cn f C fI) (hr : Room k X.A) (ha : PA X [a] ta) (hg : Gl X cn) (hdb : (cn == ("__debug__" : Str)) = false := by decide)
    (he : starEach (a :: []) X.env = (false, eval a X.env) :: starEach [] X.env := by rfl) (hpl : (backTo pos (starEach [] X.env)).any (·.1) = false := by rfl) :
    PMk X (.Call (.Name cn p) [a] [] pos) (tMkOwn C f ta) := by
  intro pins s σ H Q I h
  refine wpAny_Call_Name_kw (ld_glob I hg T.gC ?_ hdb)
  refine PySem.W.callWith_K (h₀ := X.base) I.ok.mod.kin T.kC (thn (ha.run pos pins s σ H _ I h) fun us s1 hh => ?_) he hpl
  obtain ⟨vs, H1, I1, r1, v, ev, q1⟩ := hh
  subst ev
  refine ⟨I1.kIn, ?_⟩
  cases r1 with
  | cons rv rn =>
    rename_i v' us'
    cases rn
    show wpAny _ _ (call (.ref C) [v']) _ _ _
    have hlim := I1.nolimit
    have hgl := I1.mod.glob.keeps I1.bk
    have hbl : ∃ mb, s1.heap.Ns builtinsNs mb ∧ ∀ x : Str, x ≠ "__name__" → mb x = bootBuiltins x := by
      obtain ⟨mb, h1, h2⟩ := I1.mod.blt
      exact ⟨mb, h1.keeps I1.bk, h2⟩
    obtain ⟨hp, g, dr, tk, os⟩ := s1
    refine wpAny_call (PySem.QX.own_made T I1.kIn hlim hgl hbl (by have := hr.dp; omega) fun h' tk' e d M => ?_)
    show MkP X pins σ Q (.ref e) ⟨h', g, dr, tk', os⟩
    obtain ⟨oe, fv, hoe, hc, hd, hdat, h1⟩ := M.obj
    have hns := M.ns
    obtain ⟨G', g1, g2⟩ := restrict h' fun b => decide (b ≠ e)
    have gk : ∀ b, b ≠ e → G'.get? b = h'.get? b := fun b hb => g1 b (decide_eq_true hb)
    have ge : G'.get? e = none := g2 e (by simp)
    have old : ∀ b o, hp.get? b = some o → G'.get? b = some o := fun b o q => (gk b (Nat.ne_of_lt (Nat.lt_of_lt_of_le (Heap.lt_size q) M.new))).trans (M.keep b o q)
    have ob : ObjOk X.prog X.w (upd H1 d (.xd [(f, v)])) G' d (.xd [(f, v)]) :=
      ⟨_, hns.at (fun o q => (gk d M.dne).trans q), fun g => relO_one rv g⟩
    have J : Inv X pins σ (upd H1 d (.xd [(f, v)])) ⟨G', g, dr, tk', os⟩ := I1.laid (t' := tk') old M.dbig ob
    refine ⟨e, oe, fv, ⟨G', g, dr, tk', os⟩, _, .ref C, some d, rfl, J, fun b o q => ?_, ge, hoe, ⟨hc, hd⟩, hdat, h1, ?_, rfl, I1.bare, raises_own T.exC T.tyC, q1 d (I1.hok.fresh M.dbig)⟩
    · by_cases hb : b = e
      · have q' : G'.get? b = some o := q
        rw [hb, ge] at q'; cases q'
      · exact (gk b hb).symm.trans q
    · rw [upd_ne (Ne.symm M.dne)]
      exact I1.hok.fresh M.new
/-- raise C(e) -/
def tRaiseS (C : Addr) (f : Str) (W : WX) (ta : TA) : TS := fun _ σ H => tMkOwn C f ta σ H fun cls d H' => W cls d σ H'
theorem ps_raiseS {a : Expr} {ta : TA} {W : WX} {p pos pos2 : Pos} {k : Nat} (hc : X.calm = true) (T : PySem.QX.OwnTxt X.prog X.K X.mg cn f C fI) (hr : Room k X.A) (tk : Takes X W) (ha : PA X [a] ta) (hg : Gl X cn) (hdb : (cn == ("__debug__" : Str)) = false := by decide)
    (he : starEach (a :: []) X.env = (false, eval a X.env) :: starEach [] X.env := by rfl) (hpl : (backTo pos (starEach [] X.env)).any (·.1) = false := by rfl) :
    PS X (.Raise (some (.Call (.Name cn p) [a] [] pos)) none pos2) (tRaiseS C f W ta) := ps_raise hc tk (pmk_ownS T hr ha hg hdb he hpl)
/-- e.f, e the exception that the suite holds (at a; its class cls, its dict d) -/
def tByOwn (C : Addr) (f : Str) (a : Addr) (cls : Value) (d : Option Addr) (te : TE) : TE := fun σ H Q => te σ H fun x H1 => x = .ref a ∧ cls = .ref C ∧ ∃ (dd : Addr) (v : V), d = some dd ∧ H1 dd = some (.xd [(f, v)]) ∧ Q v H1
theorem pe_byOwn {a : Addr} {oe : Obj} {cls : Value} {d : Option Addr} {pn : List (Addr × Obj)} {e : Expr} {te : TE} {pos : Pos} (T : PySem.QX.OwnTxt X.prog X.K X.mg cn f C fI) (hz : Zc cls d oe) (hf : ∃ vs, oe.data = .fields vs) (he : PE (X.suite a ((a, oe) :: pn)) e te)
    (hb : attributeBase e f X.env (eval e X.env) = eval e X.env := by rfl) :
    PE (X.suite a ((a, oe) :: pn)) (.Attribute e f pos) (tByOwn C f a cls d te) := by
  refine ⟨fun pins s σ H Q I h => ?_⟩
  refine attr_of hb (thn (he.run pins s σ H _ I h) fun u s1 hh => ?_)
  obtain ⟨x, H1, I1, rx, ex, ec, dd, v, ed, ea, q⟩ := hh
  subst ex
  obtain rfl : u = Value.ref a := rx
  subst ec
  subst ed
  obtain ⟨ha, _⟩ := I1.pin (a, oe) (List.mem_append_left _ List.mem_cons_self)
  obtain ⟨vs, hd⟩ := hf
  have hx : ObjOk X.prog X.w H1 s1.heap dd (.xd [(f, v)]) := I1.hok dd _ ea
  obtain ⟨mA, hns, hr⟩ := hx
  obtain ⟨od, ho, hl⟩ := lookIn_ns hns
  have l : List.lookup f [(f, v)] = some v := by simp [List.lookup]
  obtain ⟨u, hu, ru⟩ := RelO.some_of (v := v) (o := mA f) (by rw [← l]; exact hr f)
  have J : PySem.W.InstAt s1.heap a oe C (some od) := ⟨ha, hz.1, by unfold PySem.W.notCls; rw [hd] <;> rfl, by rw [hz.2]; exact ho⟩
  exact HandSPX.exc_get I1.kIn J T.ga T.gg T.exC (PySem.W.findObj_own T.hdC T.noN rfl (by rw [hl, hu])) (handed_of ru) ⟨v, H1, I1.tok _, ru, q⟩
end
end L2
namespace L2
open PySem PySem.Spec PyProof.Rows
/-! ### a def that is called -/
structure CF (P : Program) (w : World) (K : PySem.W.Frag) (mg : Str → Option Value) (base : Heap) (CX : CXT) (k : Nat) (x : Str) (ps : List Str) (sp : Sp) : Prop where
  ex : ∃ f fd, FnOk P w K mg base CX k f fd ps sp ∧ mg x = some (.ref f) ∧ PySem.W.keepIn K (.ref f) = true ∧ Binds K fd ps []
section
variable {X : Cx} {CX : CXT} {k : Nat} {ps : List Str} {sp : Sp} {E : XK} {x : Str} {p pos : Pos} {e : Expr} {es : List Expr} {ta : TE} {t : TA}
theorem pe_cf (c : CF X.prog X.w X.K X.mg X.base CX k x ps sp) (hr : Room k X.A) (hx : Passes CX X E) (ha : PA X (e :: es) t) (hg : Gl X x := by rfl)
    (hdb : (x == ("__debug__" : Str)) = false := by decide) (he : starEach (e :: es) X.env = (false, eval e X.env) :: starEach es X.env := by rfl) (hpl : (backTo pos (starEach es X.env)).any (·.1) = false := by rfl) :
    PE X (.Call (.Name x p) (e :: es) [] pos) (tCall sp [] E t) := by
  obtain ⟨f, fd, F, hm, hk, hb⟩ := c.ex
  exact pe_call F hr hg hm hk hb .nil hx ha hdb he hpl
theorem pe_cfS {E : St → XK} (c : CF X.prog X.w X.K X.mg X.base CX k x ps sp) (hr : Room k X.A) (hx : ∀ σ, PassesAt CX X σ (E σ)) (ha : PA X (e :: es) t) (hg : Gl X x := by rfl)
    (hdb : (x == ("__debug__" : Str)) = false := by decide) (he : starEach (e :: es) X.env = (false, eval e X.env) :: starEach es X.env := by rfl) (hpl : (backTo pos (starEach es X.env)).any (·.1) = false := by rfl) :
    PE X (.Call (.Name x p) (e :: es) [] pos) (tCallS sp E t) := by
  obtain ⟨f, fd, F, hm, hk, hb⟩ := c.ex
  exact pe_callS F hr hg hm hk hb hx ha hdb he hpl
end
/-! ### kinds -/
inductive Kd where | non | bl | int | str | lst | tup | dct
  deriving DecidableEq
def Kd.ty : Kd → String
  | .non => "NoneType" | .bl => "bool" | .int => "int" | .str => "str" | .lst => "list" | .tup => "tuple" | .dct => "dict"
/-- x is of that kind -/
inductive IsK (H : Hp) : V → Kd → Prop where
  | non : IsK H .non .non
  | bl (b : Bool) : IsK H (.bl b) .bl
  | int (i : Int) : IsK H (.int i) .int
  | str (z : Str) : IsK H (.str z) .str
  | lst {a : Addr} {xs : List V} (h : H a = some (.lst xs)) : IsK H (.ref a) .lst
  | tup {a : Addr} {xs : List V} (h : H a = some (.tup xs)) : IsK H (.ref a) .tup
  | dct {a : Addr} {kvs : List (Key × V)} (h : H a = some (.dK kvs)) : IsK H (.ref a) .dct
theorem IsK.same {H H' : Hp} (s : Same H H') {x : V} {k : Kd} (h : IsK H x k) : IsK H' x k := by
  cases h with
  | non => exact .non
  | bl b => exact .bl b
  | int i => exact .int i
  | str z => exact .str z
  | lst h => exact .lst (s _ _ h)
  | tup h => exact .tup (s _ _ h)
  | dct h => exact .dct (s _ _ h)
theorem IsK.elt {H : Hp} {x : V} {k : Kd} (h : IsK H x k) : EltV H x := by
  cases h with
  | non => exact .flat rfl
  | bl b => exact .flat rfl
  | int i => exact .flat rfl
  | str z => exact .flat rfl
  | lst h => exact .lst h
  | tup h => exact .tup h
  | dct h => exact .dct h
theorem IsK.tyX {K : PySem.W.Frag} {H : Hp} {x : V} {k : Kd} (h : IsK H x k) : TyX K H x (.type k.ty) := by
  cases h with
  | non => exact .base .non
  | bl b => exact .base (.bl b)
  | int i => exact .base (.int i)
  | str z => exact .base (.str z)
  | lst h => exact .base (.lst h)
  | tup h => exact .base (.tup h)
  | dct h => exact .base (.dK h)
/-- isinstance of a kind -/
def isaB (k : Kd) (T : String) : Bool := match k with
  | .bl => T == "bool" || T == "int"
  | k => T == k.ty
theorem kit_str (k : Kd) : kitB k.ty "str" = some (isaB k "str") := by cases k <;> decide +kernel
theorem kit_tuple (k : Kd) : kitB k.ty "tuple" = some (isaB k "tuple") := by cases k <;> decide +kernel
theorem kit_list (k : Kd) : kitB k.ty "list" = some (isaB k "list") := by cases k <;> decide +kernel
theorem kit_dict (k : Kd) : kitB k.ty "dict" = some (isaB k "dict") := by cases k <;> decide +kernel
theorem kit_int (k : Kd) : kitB k.ty "int" = some (isaB k "int") := by cases k <;> decide +kernel
theorem kit_bool (k : Kd) : kitB k.ty "bool" = some (isaB k "bool") := by cases k <;> decide +kernel
def rIs (T : String) : List V → Hp → VK → Prop := fun xs H Q => ∃ (x : V) (k : Kd), xs = [x, .ty T] ∧ IsK H x k ∧ Q (.bl (isaB k T)) H
section
variable {X : Cx} {p p2 pos : Pos} {e : Expr} {te : TE}
theorem call_is {T : String} (hk : ∀ k : Kd, kitB k.ty T = some (isaB k T)) : CallR X (.builtin "isinstance") (rIs T) := fun pins s σ H xs us Q I r ⟨x, k, ex, ik, q⟩ =>
  call_isi pins s σ H xs us Q I r ⟨x, .ty T, .type k.ty, .type T, isaB k T, ex, .ty T, ik.tyX, kit_ty (hk k), q⟩
theorem pe_isi {T : String} (hk : ∀ k : Kd, kitB k.ty T = some (isaB k T)) (hm : X.mg "isinstance" = none) (hT : X.mg T = none) (he : PE X e te) (hb : bootBuiltins T = some (.type T) := by decide +kernel) (hg : Gl X "isinstance" := by rfl) (hgT : Gl X T := by rfl)
    (hn : (PySem.Str.ofString T) ≠ "__name__" := by decide +kernel) (hd : ((PySem.Str.ofString T) == ("__debug__" : Str)) = false := by decide +kernel)
    (hs : starEach [e, .Name T p2] X.env = (false, eval e X.env) :: starEach [.Name T p2] X.env := by rfl) (hs2 : starEach [.Name T p2] X.env = (false, eval (.Name T p2) X.env) :: starEach [] X.env := by rfl) (hpl : (backTo pos (starEach [.Name T p2] X.env)).any (·.1) = false := by rfl) :
    PE X (.Call (.Name "isinstance" p) [e, .Name T p2] [] pos) (tCB (rIs T) (tCons te (tCons (tC (.ty T)) tNil))) :=
  pe_callB (X := X) (p := p) (pos := pos) (call_is hk) hg hm (by decide +kernel) (pa_cons he (pa_cons (pe_bltn (v := .ty T) hgT hT hb rfl hn hd) pa_nil hs2) hs) (by decide) (by decide) hs hpl
end
/-! ### slices of a list or a tuple -/
def rSlQ (K : PySem.W.Frag) : V → Option Int → Option Int → Hp → VK → Prop := fun x lo hi H Q => ∃ a xs, x = .ref a ∧ ((SqL K H a xs ∧ ∀ p, H p = none → Q (.ref p) (upd H p (.lst (cutV xs lo hi)))) ∨
  (SqT K H a xs ∧ (HT.sIx xs.length 0 lo = 0 ∧ HT.sIx xs.length xs.length hi = xs.length → Q (.ref a) H) ∧ (¬ (HT.sIx xs.length 0 lo = 0 ∧ HT.sIx xs.length xs.length hi = xs.length) → ∀ p, H p = none → Q (.ref p) (upd H p (.tup (cutV xs lo hi))))))
theorem Same.new {H : Hp} {p : Addr} {o : HO} (h : H p = none) : Same H (upd H p o) := fun b u e => by rw [upd_ne (ne_of_none e h)]; exact e
theorem sl_both {X : Cx} : SlR X (fun x lo hi H Q => rSlL X.K x lo hi H Q ∨ rSlA X.K x lo hi H Q) := sl_list.or sl_tupA
theorem cut_take (xs : List V) (i : Nat) (h : i ≤ xs.length) : cutV xs none (some (i : Int)) = xs.take i := by
  unfold cutV
  rw [HT.sIx_none, HT.sIx_nat, List.drop_zero, Nat.sub_zero, Nat.min_eq_left h]
/-- xs[:i], xs a list or a tuple -/
theorem take_both {K : PySem.W.Frag} {H : Hp} {a : Addr} {xs : List V} {i : Nat} {Q : VK} (hq : SqL K H a xs ∨ SqT K H a xs) (hi : i < xs.length) (h : ∀ p H', Same H H' → (SqL K H' p (xs.take i) ∨ SqT K H' p (xs.take i)) → Q (.ref p) H') :
    rSlL K (.ref a) none (some (i : Int)) H Q ∨ rSlA K (.ref a) none (some (i : Int)) H Q := by
  rcases hq with hq | hq
  · refine .inl ⟨a, xs, rfl, hq, fun p hp => h p _ (Same.new hp) (.inl (SqL.of ?_))⟩
    rw [upd_same, cut_take xs i (Nat.le_of_lt hi)]
  · refine .inr ⟨a, xs, rfl, hq, fun z => ?_, fun _ p hp => h p _ (Same.new hp) (.inr (SqT.of ?_))⟩
    · rw [HT.sIx_nat] at z
      have := z.2
      omega
    · rw [upd_same, cut_take xs i (Nat.le_of_lt hi)]
/-! ### names -/
def lowC (c : Nat) : Bool := decide (97 ≤ c) && decide (c ≤ 122)
def nameS (z : Str) : Bool := decide (1 ≤ z.length) && decide (z.length ≤ 8) && z.cps.toList.all lowC
def nameV : V → Bool
  | .str z => nameS z
  | _ => false
/-- the first place of an item that is not right or stands ahead; pre: what stands ahead of the rest -/
def badFrom (ok : V → Bool) : List V → List V → Option Nat
  | _, [] => none
  | pre, x :: r => if ok x && !pre.contains x then badFrom ok (pre ++ [x]) r else some pre.length
theorem badFrom_cons {ok : V → Bool} {pre r : List V} {x : V} : badFrom ok pre (x :: r) = if ok x && !pre.contains x then badFrom ok (pre ++ [x]) r else some pre.length := rfl
theorem badFrom_congr {ok ok' : V → Bool} : ∀ {pre l : List V}, (∀ x ∈ l, ok x = ok' x) → badFrom ok pre l = badFrom ok' pre l
  | _, [], _ => rfl
  | pre, x :: r, h => by
    unfold badFrom
    rw [h x List.mem_cons_self, badFrom_congr (pre := pre ++ [x]) (l := r) fun y hy => h y (List.mem_cons_of_mem _ hy)]
def vOpt : Option Nat → V
  | none => .non
  | some k => .int k
theorem badFrom_none {ok : V → Bool} : ∀ {pre l : List V}, pre.Nodup → badFrom ok pre l = none → (∀ x ∈ l, ok x = true) ∧ (pre ++ l).Nodup
  | pre, [], hn, _ => ⟨fun _ h => (by cases h), by simpa using hn⟩
  | pre, x :: r, hn, h => by
    unfold badFrom at h
    by_cases c : (ok x && !pre.contains x) = true
    · rw [if_pos c] at h
      rw [Bool.and_eq_true] at c
      have hx : x ∉ pre := by
        intro z
        have e : pre.contains x = true := by simpa using z
        rw [e] at c
        exact absurd c.2 (by decide)
      have hn' : (pre ++ [x]).Nodup := by
        rw [List.nodup_append]
        refine ⟨hn, by simp, fun a ha b hb => ?_⟩
        have : b = x := by simpa using hb
        subst this
        intro e
        subst e
        exact hx ha
      have ih := badFrom_none (pre := pre ++ [x]) (l := r) hn' h
      refine ⟨fun y hy => ?_, by simpa using ih.2⟩
      rcases List.mem_cons.mp hy with e | hy
      · rw [e]; exact c.1
      · exact ih.1 y hy
    · rw [if_neg c] at h
      cases h
theorem badFrom_lt {ok : V → Bool} : ∀ {pre l : List V} {k : Nat}, badFrom ok pre l = some k → k < pre.length + l.length
  | pre, [], _, h => by cases h
  | pre, x :: r, k, h => by
    unfold badFrom at h
    by_cases c : (ok x && !pre.contains x) = true
    · rw [if_pos c] at h
      have ih := badFrom_lt h
      simp only [List.length_append, List.length_cons, List.length_nil] at ih ⊢
      omega
    · rw [if_neg c] at h
      cases h
      simp only [List.length_cons]
      omega
theorem strs_of : ∀ {l : List V}, (∀ x ∈ l, nameV x = true) → ∃ zs : List Str, l = zs.map V.str ∧ ∀ z ∈ zs, nameS z = true
  | [], _ => ⟨[], rfl, fun _ h => by cases h⟩
  | x :: r, h => by
    obtain ⟨zs, e, hz⟩ := strs_of (l := r) fun y hy => h y (List.mem_cons_of_mem _ hy)
    have hx := h x List.mem_cons_self
    cases x with
    | str z => exact ⟨z :: zs, by rw [e]; rfl, fun y hy => by
        rcases List.mem_cons.mp hy with q | hy
        · rw [q]; exact hx
        · exact hz y hy⟩
    | _ => cases hx
theorem cmp_low1 (c : Nat) : (!decide (([c] : List Nat) < [97])) = decide (97 ≤ c) := by
  by_cases h : 97 ≤ c
  · have q : ¬ (([c] : List Nat) < [97]) := by
      intro z
      cases z with
      | cons z => cases z
      | rel z => exact absurd z (by omega)
    rw [decide_eq_true h, decide_eq_false q]
    rfl
  · have q : (([c] : List Nat) < [97]) := List.Lex.rel (by omega)
    rw [decide_eq_false h, decide_eq_true q]
    rfl
theorem cmp_low2 (c : Nat) : (!decide (([122] : List Nat) < [c])) = decide (c ≤ 122) := by
  by_cases h : c ≤ 122
  · have q : ¬ (([122] : List Nat) < [c]) := by
      intro z
      cases z with
      | cons z => cases z
      | rel z => exact absurd z (by omega)
    rw [decide_eq_true h, decide_eq_false q]
    rfl
  · have q : (([122] : List Nat) < [c]) := List.Lex.rel (by omega)
    rw [decide_eq_false h, decide_eq_true q]
    rfl
/-- a comprehension's turn that keeps its item -/
theorem lcTurn {te : TE} {σ : St} {H : Hp} {R : VK} {N : Hp → Prop} (h : te σ H R) : tYes σ H (fun b H3 => if b = true then te σ H3 R else N H3) := h
/-! ### heaps -/
/-- all but st as it was -/
def SameBut (st : Addr) (H H' : Hp) : Prop := ∀ b o, b ≠ st → H b = some o → H' b = some o
theorem SameBut.refl (st : Addr) (H : Hp) : SameBut st H H := fun _ _ _ h => h
theorem SameBut.trans {st : Addr} {H H1 H2 : Hp} (a : SameBut st H H1) (b : SameBut st H1 H2) : SameBut st H H2 := fun c o n h => b c o n (a c o n h)
theorem Same.but {H H' : Hp} (s : Same H H') (st : Addr) : SameBut st H H' := fun b o _ h => s b o h
theorem Same.seqT {K : PySem.W.Frag} {H H' : Hp} {a : Addr} {xs : List V} (e : Same H H') (h : SqT K H a xs) : SqT K H' a xs := by
  rcases h with (h | ⟨o, h⟩) | h
  · exact .inl (.inl (e _ _ h))
  · exact .inl (.inr ⟨o, e _ _ h⟩)
  · exact .inr h
/-- a drawing state: a list of two ints -/
def StAt (H : Hp) (st : Addr) : Prop := ∃ n s : Int, H st = some (.lst [.int n, .int s]) ∧ 0 ≤ n ∧ 0 ≤ s ∧ s < 2147483629
theorem SameBut.set {st : Addr} {H : Hp} {o : HO} : SameBut st H (upd H st o) := fun b u n e => by rw [upd_ne n]; exact e
theorem StAt.same {H H' : Hp} {st : Addr} (s : Same H H') (h : StAt H st) : StAt H' st := by
  obtain ⟨n, z, e, r⟩ := h
  exact ⟨n, z, s _ _ e, r⟩
/-! ### names are unlike each other -/
theorem nodup_sub_length {α : Type} [DecidableEq α] : ∀ {l m : List α}, l.Nodup → (∀ x ∈ l, x ∈ m) → l.length ≤ m.length
  | [], _, _, _ => Nat.zero_le _
  | x :: l, m, hn, h => by
    obtain ⟨hx, hl⟩ := List.nodup_cons.mp hn
    have hm : x ∈ m := h x List.mem_cons_self
    have ih := nodup_sub_length (l := l) (m := m.erase x) hl fun y hy => by
      have hne : y ≠ x := fun e => hx (e ▸ hy)
      exact (List.mem_erase_of_ne hne).mpr (h y (List.mem_cons_of_mem _ hy))
    rw [List.length_erase_of_mem hm] at ih
    have : 0 < m.length := List.length_pos_of_mem hm
    simp only [List.length_cons]
    omega
/-! ### for x in xs, xs a list or a tuple -/
def iSeq (K : PySem.W.Frag) (i : Nat) : TI := fun σ H R => ∃ (a : Addr) (xs : List V), σ[i]? = some (some (.ref a)) ∧ (SqL K H a xs ∨ SqT K H a xs) ∧ ∀ (J : It) (G : Hp → Prop), Walk J xs.length G (YAt xs) → (∀ H', Same H H' → G H') → R J H
theorem pi_seq {X : Cx} {tg : Expr} (i : Nat) {x : Str} {pos : Pos} (hN : X.N[i]? = some x := by rfl) (hv : Vis X.env.scope x := by first | exact Or.inl rfl | exact Or.inr (Or.inl rfl) | exact Or.inr (Or.inr rfl)) (hd : (x == ("__debug__" : Str)) = false := by decide)
    (hcd : (x == ("__classdict__" : Str)) = false := by decide) : PI X tg (.Name x pos) (iSeq X.K i) := by
  refine ⟨fun pins s σ H R I h => ?_⟩
  obtain ⟨a, xs, e, hq, key⟩ := h
  rcases hq with hq | hq
  · exact (pi_list (pe_var hN hv hd hcd)).run pins s σ H R I ⟨_, e, a, rfl, ⟨xs, hq⟩, key _ _ walk_list fun H' s => s.seq hq⟩
  · exact (pi_tup (pe_var hN hv hd hcd)).run pins s σ H R I ⟨_, e, a, rfl, ⟨xs, hq⟩, key _ _ walk_tup fun H' s => s.seqT hq⟩
def hasB (kvs : List (Key × V)) (ss : List Str) : Bool := decide (kvs.length = ss.length) && ss.all fun z => (valV kvs (Sum.inr z)).isSome
/-- an item of a list or tuple that is asked -/
def GoodE (H : Hp) (x : V) : Prop := (∃ k, IsK H x k) ∧ ∀ z, x = .str z → z.length ≤ 1000
theorem GoodE.same {H H' : Hp} (s : Same H H') {x : V} (h : GoodE H x) : GoodE H' x := ⟨h.1.imp fun _ q => q.same s, h.2⟩
theorem GoodE.elt {H : Hp} {x : V} (h : GoodE H x) : EltV H x := by
  obtain ⟨⟨k, q⟩, _⟩ := h
  exact q.elt
theorem GoodE.str {H : Hp} {z : Str} (h : z.length ≤ 1000) : GoodE H (.str z) := ⟨⟨_, .str z⟩, fun y e => by
  cases e
  exact h⟩
end L2
namespace L2
open PySem PySem.Spec PyProof.Rows
/-- a dict comprehension over it -/
theorem dc_it {J : It} {n : Nat} {G : Hp → Prop} {Y : Nat → Hp → V → Hp → Prop} (w : Walk J n G Y) {g : TG} {tt : TT} {tk tv : TE} {vs : List Nat} {σ : St} {H1 : Hp} {D : Addr} {Qd : Hp → Prop} (Pv : Nat → Hp → Prop) (h0 : Pv 0 (upd H1 D (.dK []))) (hG : ∀ i H, i ≤ n → Pv i H → G H)
    (hs : ∀ i x H H', i < n → Pv i H → Y i H x H' → g x (wipe σ vs) H' fun σ2 H2 => wipe σ2 vs = wipe σ vs ∧ tt σ2 H2 fun b H3 =>
      if b = true then tk σ2 H3 fun y H4 => tv σ2 H4 fun z H5 => ∃ kvs k, y = kV k ∧ H5 D = some (.dK kvs) ∧ kvs.length < sizeLine ∧ Pv (i + 1) (upd H5 D (.dK (putK kvs k z))) else Pv (i + 1) H3) (hd : ∀ H, Pv n H → Qd H) :
    ∃ W : Nat → Nat → Hp → Prop, (∃ m, W 0 m (upd H1 D (.dK []))) ∧ ∀ i m H, W i m H →
      (J.stop i H ∧ Qd H) ∨ (J.go i H ∧ ∃ Nx : Hp → Prop, (∀ H', Nx H' → ∃ m', m' < m ∧ W (i + 1) m' H') ∧ ∀ x H', J.yld i H x H' → g x (wipe σ vs) H' fun σ2 H2 => wipe σ2 vs = wipe σ vs ∧ tt σ2 H2 fun b H3 =>
        if b = true then tk σ2 H3 fun y H4 => tv σ2 H4 fun z H5 => ∃ kvs k, y = kV k ∧ H5 D = some (.dK kvs) ∧ kvs.length < sizeLine ∧ Nx (upd H5 D (.dK (putK kvs k z))) else Nx H3) := by
  refine ⟨fun i m H => m = n - i ∧ i ≤ n ∧ Pv i H, ⟨n, by simp, Nat.zero_le _, h0⟩, ?_⟩
  rintro i m H ⟨rfl, hi, p⟩
  have q := hG i H hi p
  by_cases hlt : i < n
  · exact .inr ⟨w.goes i H hlt q, Pv (i + 1), fun H' p' => ⟨n - (i + 1), by omega, rfl, hlt, p'⟩, fun x H' y => hs i x H H' hlt p (w.yields i H x H' hlt q y)⟩
  · have e : i = n := by omega
    subst e
    exact .inl ⟨w.stops H q, hd H p⟩
theorem dcTurn {tk tv : TE} {σ : St} {H : Hp} {R : V → VK} {N : Hp → Prop} (h : tk σ H fun y H4 => tv σ H4 (R y)) : tYes σ H (fun b H3 => if b = true then tk σ H3 (fun y H4 => tv σ H4 (R y)) else N H3) := h
/-- a dict from names to objects -/
def RowsG (H : Hp) (d : Addr) (ps : List Str) (cnt : Str → HO) : Prop := ∃ ad : Str → Addr, H d = some (.dK (ps.map fun a => (Sum.inr a, V.ref (ad a)))) ∧ ∀ a ∈ ps, H (ad a) = some (cnt a) ∧ ad a ≠ d
theorem RowsG.same {H H' : Hp} (s : Same H H') {d : Addr} {ps : List Str} {cnt : Str → HO} (h : RowsG H d ps cnt) : RowsG H' d ps cnt := by
  obtain ⟨ad, e, q⟩ := h
  exact ⟨ad, s _ _ e, fun a ha => ⟨s _ _ (q a ha).1, (q a ha).2⟩⟩
theorem RowsG.nil {H : Hp} {d : Addr} {cnt : Str → HO} (h : H d = some (.dK [])) : RowsG H d [] cnt := ⟨fun _ => 0, h, fun _ h => by cases h⟩
theorem valV_rows {ad : Str → Addr} : ∀ {ps : List Str} {a : Str}, a ∈ ps → valV (ps.map fun a => ((Sum.inr a : Key), V.ref (ad a))) (Sum.inr a) = some (.ref (ad a))
  | [], _, h => by cases h
  | b :: ps, a, h => by
    rw [List.map_cons]
    by_cases e : b = a
    · rw [valV_pos (by rw [e]), e]
    · rw [valV_neg (fun q => e (Sum.inr.inj q))]
      refine valV_rows ?_
      rcases List.mem_cons.mp h with q | q
      · exact absurd q.symm e
      · exact q
theorem valV_rows_none {ad : Str → Addr} : ∀ {ps : List Str} {a : Str}, a ∉ ps → valV (ps.map fun a => ((Sum.inr a : Key), V.ref (ad a))) (Sum.inr a) = none
  | [], _, _ => rfl
  | b :: ps, a, h => by
    rw [List.map_cons, valV_neg (fun q => h (by rw [Sum.inr.inj q]; exact List.mem_cons_self))]
    exact valV_rows_none fun q => h (List.mem_cons_of_mem _ q)
theorem RowsG.snoc {H H1 : Hp} {D p : Addr} {qs : List Str} {cnt : Str → HO} {a : Str} (R : RowsG H D qs cnt) (s : Same H H1) (ha : a ∉ qs) (hp : H1 p = some (cnt a)) (hpd : p ≠ D) :
    ∃ kvs, H1 D = some (.dK kvs) ∧ kvs.length = qs.length ∧ RowsG (upd H1 D (.dK (putK kvs (Sum.inr a) (.ref p)))) D (qs ++ [a]) cnt := by
  obtain ⟨ad, e, q⟩ := R
  refine ⟨_, s _ _ e, by rw [List.length_map], fun x => if x = a then p else ad x, ?_, fun x hx => ?_⟩
  · rw [upd_same, putK_new _ (valV_rows_none ha), List.map_append]
    have e1 : (qs.map fun x => ((Sum.inr x : Key), V.ref (if x = a then p else ad x))) = qs.map fun x => (Sum.inr x, V.ref (ad x)) := by
      refine List.map_congr_left fun x hx => ?_
      rw [if_neg (fun z : x = a => ha (z ▸ hx))]
    rw [e1]
    simp
  · by_cases hxa : x = a
    · subst hxa
      show upd H1 D _ (if x = x then p else ad x) = some (cnt x) ∧ (if x = x then p else ad x) ≠ D
      rw [if_pos rfl, upd_ne hpd]
      exact ⟨hp, hpd⟩
    · show upd H1 D _ (if x = a then p else ad x) = some (cnt x) ∧ (if x = a then p else ad x) ≠ D
      rw [if_neg hxa]
      have hx' : x ∈ qs := by
        rcases List.mem_append.mp hx with h | h
        · exact h
        · exact absurd (by simpa using h) hxa
      rw [upd_ne (q x hx').2]
      exact ⟨s _ _ (q x hx').1, (q x hx').2⟩
/-- a list of texts, as it stands -/
def lstO (ss : List Str) : HO := .lst (ss.map V.str)
/-- a dict of indexes -/
def rnkO (ss : List Str) : HO := .dK (ss.zipIdx.map fun q => (Sum.inr q.1, V.int (q.2 : Nat)))
def opn (ws : Str → List Str) (a : Str) : List Str := (ws a).filter fun b => decide (a ∈ ws b)
theorem take_snoc {α : Type} {l : List α} {i : Nat} {x : α} (h : l[i]? = some x) : l.take (i + 1) = l.take i ++ [x] := by
  rw [List.take_add_one, h]
  rfl
theorem not_mem_take {α : Type} {l : List α} (hn : l.Nodup) {i : Nat} {x : α} (h : l[i]? = some x) : x ∉ l.take i := by
  intro hm
  obtain ⟨j, hj⟩ := List.mem_iff_getElem?.mp hm
  have hji : j < i := by
    have := (List.getElem?_eq_some_iff.mp hj).1
    rw [List.length_take] at this
    omega
  rw [List.getElem?_take_of_lt hji] at hj
  have := nd_ix hn hj h
  omega
/-! ### the scope of a comprehension -/
def cScope (e : Expr) : Scope := match e with
  | .DictComp _ _ _ sc _ => sc
  | .ListComp _ _ sc _ => sc
  | _ => { kind := .function, names := [], isGenerator := false, isCoroutine := false }
def retE (b : List Stmt) (i : Nat) : Expr := match b.getD i (.Pass ⟨0, 0, 0, 0⟩) with
  | .Return (some e) _ => e
  | .Assign _ e _ => e
  | .Expr e _ => e
  | _ => .Constant .none 0 ⟨0, 0, 0, 0⟩
theorem lookup_rel {env : Env} : ∀ {names : List (Str × NameKind)} {x : Str}, names.lookup x = some .cell ∨ names.lookup x = some .free →
    (names.map fun (n, k) => if (k == NameKind.free && env.scope.kind == .function && env.kindOf n == some .cell) then (n, NameKind.cell) else (n, k)).lookup x = some .cell ∨
    (names.map fun (n, k) => if (k == NameKind.free && env.scope.kind == .function && env.kindOf n == some .cell) then (n, NameKind.cell) else (n, k)).lookup x = some .free
  | [], _, h => by simp at h
  | (n, k) :: r, x, h => by
    have ih := @lookup_rel env r x
    rw [List.map_cons]
    by_cases e : x = n
    · subst e
      have hk : k = .cell ∨ k = .free := by simpa [List.lookup] using h
      by_cases c : (k == NameKind.free && env.scope.kind == .function && env.kindOf x == some .cell) = true
      · refine .inl ?_
        simp only [if_pos c]
        simp [List.lookup]
      · simp only [if_neg c]
        rcases hk with hk | hk
        · exact .inl (by simp [List.lookup, hk])
        · exact .inr (by simp [List.lookup, hk])
    · have e' : (x == n) = false := by simpa using e
      have h' : r.lookup x = some .cell ∨ r.lookup x = some .free := by simpa [List.lookup, e'] using h
      have q := ih h'
      by_cases c : (k == NameKind.free && env.scope.kind == .function && env.kindOf n == some .cell) = true
      · simp only [if_pos c]
        simpa [List.lookup, e'] using q
      · simp only [if_neg c]
        simpa [List.lookup, e'] using q
/-- a comprehension within a comprehension -/
theorem BlkOk.rel {N : List Str} {sc scope : Scope} {own : List (Str × Nat)} {env : Env} (h : BlkOk N sc scope own) : BlkOk N (relabel sc env) scope own :=
  ⟨h.kind, h.uniq, h.ix, fun y hy e => lookup_rel (h.free y hy e), h.own⟩
/-! ### rules that name the written part, for a block within a block -/
section
variable {X : Cx} {K : PySem.W.Frag}
theorem pi_listK {tg e : Expr} {te : TE} (hK : X.K = K) (he : PE X e te) : PI X tg e (iList K te) := by
  subst hK
  exact pi_list he
theorem op_inSK (hK : X.K = K) (hu : X.A.units + 64 < cLine) : OpR X (compareOp .In) (rInS K false) := by
  subst hK
  exact op_inS hu
theorem pi_enumK {e : Expr} {ta : TA} {p pos tpos : Pos} {elts : List Expr} {kk : Nat} (hK : X.K = K) (hg : Gl X "enumerate") (hm : X.mg "enumerate" = none) (ha : PA X [e] ta) (hs : starEach [e] X.env = [(false, eval e X.env)] := by rfl) :
    PI X (.Tuple elts kk tpos) (.Call (.Name "enumerate" p) [e] [] pos) (iEnumT K ta) := by
  subst hK
  exact pi_enumT hg hm ha hs
theorem pg_tupK {es : List Expr} {k : Nat} {t : TGs} {n : Nat} {pos : Pos} (hK : X.K = K) (hc : X.calm = true) (h : PGs X es t)
    (hn : (assignEach es X.env).length = n := by rfl) (hst : (assignEach es X.env).findIdx? (·.1) = none := by rfl) : PG X (.Tuple es k pos) (gTup K n t) := by
  subst hK
  exact pg_tup hc h hn hst
end
theorem valV_rnk_none : ∀ {ss : List Str} {k : Nat} {a : Str}, a ∉ ss → valV ((ss.zipIdx k).map fun q => ((Sum.inr q.1 : Key), V.int (q.2 : Nat))) (Sum.inr a) = none
  | [], _, _, _ => rfl
  | b :: ss, k, a, h => by
    rw [List.zipIdx_cons, List.map_cons, valV_neg (fun q => h (by
      have e : b = a := Sum.inr.inj q
      rw [e]; exact List.mem_cons_self))]
    exact valV_rnk_none fun q => h (List.mem_cons_of_mem _ q)
theorem zip_snoc {ss : List Str} {b : Str} : ((ss ++ [b]).zipIdx.map fun q => ((Sum.inr q.1 : Key), V.int (q.2 : Nat))) = (ss.zipIdx.map fun q => ((Sum.inr q.1 : Key), V.int (q.2 : Nat))) ++ [(Sum.inr b, V.int (ss.length : Nat))] := by
  rw [List.zipIdx_append, List.map_append]
  simp
theorem call_listK {X : Cx} {K : PySem.W.Frag} (hK : X.K = K) : CallR X (.type "list") (fun xs H Q => ∃ p ys, xs = [.ref p] ∧ (SqL K H p ys ∨ SqT K H p ys) ∧ ∀ l, H l = none → Q (.ref l) (upd H l (.lst ys))) := by
  subst hK
  exact call_list_of
end L2
namespace Qp
open PySem L2
def topS (i : Nat) : Stmt := PySem.Challenge.pw_quietpairs_k68_scales.main.body.getD i (.Pass ⟨0, 0, 0, 0⟩)
abbrev sNoDealinginit : Stmt := inClass (topS 2) 0
abbrev sBadWeightsinit : Stmt := inClass (topS 3) 0
abbrev sisname : Stmt := topS 5
abbrev sisfromzero : Stmt := topS 6
abbrev shaskeys : Stmt := topS 7
abbrev sisdealing : Stmt := topS 9
abbrev sfits : Stmt := topS 10
abbrev scheckdealing : Stmt := topS 11
abbrev scheckweights : Stmt := topS 13
abbrev sScaleinit : Stmt := inClass (topS 14) 0
abbrev sScaleweight : Stmt := inClass (topS 14) 1
abbrev sScaleadd : Stmt := inClass (topS 14) 2
abbrev sScaleeq : Stmt := inClass (topS 14) 3
abbrev sScalecall : Stmt := inClass (topS 14) 4
abbrev sLisinteger : Stmt := topS 16
abbrev sLcell : Stmt := topS 17
abbrev sLtake : Stmt := topS 18
abbrev sLname : Stmt := topS 19
abbrev sLnames : Stmt := topS 20
abbrev sLmixed : Stmt := topS 21
abbrev sLturned : Stmt := topS 22
abbrev sLsame : Stmt := topS 23
abbrev sLbig : Stmt := topS 24
abbrev sLweights : Stmt := topS 25
abbrev sLweight : Stmt := topS 26
abbrev sLmade : Stmt := topS 27
abbrev sLscalefits : Stmt := topS 28
abbrev slaw : Stmt := topS 29
theorem scisname : FnScope ["value", "letter"] ["value"] (defScope sisname) := ⟨rfl, rfl, rfl, by decide +kernel, rfl, by decide +kernel, by decide +kernel⟩
theorem scisfromzero : FnScope ["value"] ["value"] (defScope sisfromzero) := ⟨rfl, rfl, rfl, by decide +kernel, rfl, by decide +kernel, by decide +kernel⟩
theorem schaskeys : FnScope ["value", "names", "name"] ["value", "names"] (defScope shaskeys) := ⟨rfl, rfl, rfl, by decide +kernel, rfl, by decide +kernel, by decide +kernel⟩
theorem scisdealing : FnScope ["group", "x", "a"] ["group", "x"] (defScope sisdealing) := ⟨rfl, rfl, rfl, by decide +kernel, rfl, by decide +kernel, by decide +kernel⟩
theorem scfits : FnScope ["group", "x", "a", "b"] ["group", "x", "a"] (defScope sfits) := ⟨rfl, rfl, rfl, by decide +kernel, rfl, by decide +kernel, by decide +kernel⟩
theorem sccheckdealing : FnScope ["group", "x"] ["group", "x"] (defScope scheckdealing) := ⟨rfl, rfl, rfl, by decide +kernel, rfl, by decide +kernel, by decide +kernel⟩
theorem sccheckweights : FnScope ["weights", "rest", "name"] ["weights", "rest"] (defScope scheckweights) := ⟨rfl, rfl, rfl, by decide +kernel, rfl, by decide +kernel, by decide +kernel⟩
theorem scScaleinit : FnScope ["self", "weights", "rest", "name"] ["self", "weights", "rest"] (defScope sScaleinit) := ⟨rfl, rfl, rfl, by decide +kernel, rfl, by decide +kernel, by decide +kernel⟩
theorem scScaleweight : FnScope ["self", "name"] ["self", "name"] (defScope sScaleweight) := ⟨rfl, rfl, rfl, by decide +kernel, rfl, by decide +kernel, by decide +kernel⟩
theorem scScaleadd : FnScope ["self", "other", "names", "name"] ["self", "other"] (defScope sScaleadd) := ⟨rfl, rfl, rfl, by decide +kernel, rfl, by decide +kernel, by decide +kernel⟩
theorem scScaleeq : FnScope ["self", "other"] ["self", "other"] (defScope sScaleeq) := ⟨rfl, rfl, rfl, by decide +kernel, rfl, by decide +kernel, by decide +kernel⟩
theorem scScalecall : FnScope ["self", "group", "x", "a"] ["self", "group", "x"] (defScope sScalecall) := ⟨rfl, rfl, rfl, by decide +kernel, rfl, by decide +kernel, by decide +kernel⟩
theorem scLisinteger : FnScope ["_law_actual"] ["_law_actual"] (defScope sLisinteger) := ⟨rfl, rfl, rfl, by decide +kernel, rfl, by decide +kernel, by decide +kernel⟩
theorem scLcell : FnScope ["_law_script", "_law_k", "_law_number", "_law_seed"] ["_law_script", "_law_k"] (defScope sLcell) := ⟨rfl, rfl, rfl, by decide +kernel, rfl, by decide +kernel, by decide +kernel⟩
theorem scLtake : FnScope ["_law_state", "_law_many", "_law_digit", "_law_mixed_here"] ["_law_state", "_law_many"] (defScope sLtake) := ⟨rfl, rfl, rfl, by decide +kernel, rfl, by decide +kernel, by decide +kernel⟩
theorem scLname : FnScope ["_law_state", "_law_taken", "_law_letters", "_law_size", "_law_k", "_law_name_here", "_law_last", "_law_other"] ["_law_state", "_law_taken"] (defScope sLname) := ⟨rfl, rfl, rfl, by decide +kernel, rfl, by decide +kernel, by decide +kernel⟩
theorem scLnames : FnScope ["_law_state", "_law_many", "_law_names_here", "_law_k"] ["_law_state", "_law_many"] (defScope sLnames) := ⟨rfl, rfl, rfl, by decide +kernel, rfl, by decide +kernel, by decide +kernel⟩
theorem scLmixed : FnScope ["_law_state", "_law_items", "_law_pool", "_law_row", "_law_k"] ["_law_state", "_law_items"] (defScope sLmixed) := ⟨rfl, rfl, rfl, by decide +kernel, rfl, by decide +kernel, by decide +kernel⟩
theorem scLturned : FnScope ["_law_x", "_law_turned_here", "_law_a"] ["_law_x"] (defScope sLturned) := ⟨rfl, rfl, rfl, by decide +kernel, rfl, by decide +kernel, by decide +kernel⟩
theorem scLsame : FnScope ["_law_actual", "_law_due", "_law_k", "_law_key"] ["_law_actual", "_law_due"] (defScope sLsame) := ⟨rfl, rfl, rfl, by decide +kernel, rfl, by decide +kernel, by decide +kernel⟩
theorem scLbig : FnScope ["_law_state", "_law_kind", "_law_number"] ["_law_state"] (defScope sLbig) := ⟨rfl, rfl, rfl, by decide +kernel, rfl, by decide +kernel, by decide +kernel⟩
theorem scLweights : FnScope ["_law_state", "_law_names_here", "_law_weights_here", "_law_a"] ["_law_state", "_law_names_here"] (defScope sLweights) := ⟨rfl, rfl, rfl, by decide +kernel, rfl, by decide +kernel, by decide +kernel⟩
theorem scLweight : FnScope ["_law_weights_here", "_law_other", "_law_name_here"] ["_law_weights_here", "_law_other", "_law_name_here"] (defScope sLweight) := ⟨rfl, rfl, rfl, by decide +kernel, rfl, by decide +kernel, by decide +kernel⟩
theorem scLmade : FnScope ["_law_weights_here", "_law_other", "_law_left_out", "_law_passed", "_law_scale"] ["_law_weights_here", "_law_other", "_law_left_out"] (defScope sLmade) := ⟨rfl, rfl, rfl, by decide +kernel, rfl, by decide +kernel, by decide +kernel⟩
theorem scLscalefits : FnScope ["_law_scale", "_law_names_here", "_law_weights_here", "_law_other", "_law_name_here"] ["_law_scale", "_law_names_here", "_law_weights_here", "_law_other"] (defScope sLscalefits) := ⟨rfl, rfl, rfl, by decide +kernel, rfl, by decide +kernel, by decide +kernel⟩
theorem sclaw : FnScope ["_law_script", "_law_state", "_law_names_here", "_law_one", "_law_one_other", "_law_kind", "_law_two", "_law_two_other", "_law_place", "_law_left", "_law_right", "_law_total", "_law_equal", "_law_name_here", "_law_both", "_law_other"] ["_law_script"] (defScope slaw) := ⟨rfl, rfl, rfl, by decide +kernel, rfl, by decide +kernel, by decide +kernel⟩
/-- built-in names that the module does not bind -/
structure Bl (mg : Str → Option Value) : Prop where
  len : mg "len" = none
  isi : mg "isinstance" = none
  all : mg "all" = none
  enum : mg "enumerate" = none
  str : mg "str" = none
  tup : mg "tuple" = none
  lst : mg "list" = none
  dct : mg "dict" = none
  srt : mg "sorted" = none
  rng : mg "range" = none
  abs : mg "abs" = none
  int : mg "int" = none
  min : mg "min" = none
  bool : mg "bool" = none
  rev : mg "reversed" = none
  iter : mg "iter" = none
end Qp
namespace Qp
open PySem L2
section
variable {P : Program} {w : World} {K : PySem.W.Frag} {mg : Str → Option Value} {base : Heap}
/-- is_name(value) -/
def spIsName : Sp := fun vs H Q _ => ∃ (x : V) (k : Kd), vs = [x] ∧ IsK H x k ∧ (∀ z, x = .str z → z.length ≤ 1000) ∧ ∀ H', Same H H' → Q (.bl (nameV x)) H'
theorem ok_isname {f : Addr} {fd : FuncData} (F : Fun K "is_name" "is_name" sisname f fd) (B : Bl mg) : FnOk P w K mg base CX0 1 f fd ["value"] spIsName := by
  refine F.ok scisname (fun vs H Q E h => ?_) (fun cdv A outer s H vs Q E hr h => ?_)
  · obtain ⟨x, k, rfl, _⟩ := h
    rfl
  · obtain ⟨x, k, rfl, ik, hz, kq⟩ := h
    refine ⟨_, pss_one (ps_ret (pe_and (pe_isi kit_str B.isi B.str (pv 0)) (pe_and (pe_chain op_le op_le pe_int (pe_callB call_len (by rfl) B.len PySem.boot_len (pa_cons (pv 0) pa_nil)) pe_int)
      (pe_one (pe_callB (cr_all rfl) (by rfl) B.all (by decide +kernel) (pa_cons (pe_lc (own := [("letter", 1)]) (g := gName 1) (tt := tYes) rfl scisname.nd (pi_str (pv 0)) (blkOk_by (own := [("letter", 1)]) (N := ["value", "letter"]) (sc := defScope sisname) (by decide +kernel))
        (fun _ _ _ _ _ => pg_name (i := 1) scisname.nd rfl (Or.inl rfl)) (fun _ _ _ _ _ => pts_nil) (fun _ _ _ _ _ => pe_chain op_le_str op_le_str pe_str (pv 1) pe_str)) pa_nil)))))), ?_⟩
    refine ⟨_, rfl, x, k, rfl, ik, ?_⟩
    cases ik with
    | str z =>
      refine ⟨true, rfl, iteT ?_⟩
      have hl := hz z rfl
      have e2 : sizeLine = 16777216 := sizeLine_eq
      refine ⟨_, rfl, .str z, z.length, rfl, ⟨by omega, rfl⟩, _, _, rfl, rfl, _, rfl, ?_⟩
      have nf : ∀ {b : Bool}, nameS z = b → nameV (V.str z) = b := fun e => e
      refine ite2 (fun h1 => ?_) (fun h1 => ?_)
      · refine ⟨_, _, rfl, rfl, _, rfl, ite2 (fun h2 => ?_) (fun h2 => ?_)⟩
        · refine ⟨_, rfl, z, rfl, fun D hD => lc_it walk_str (fun i H' => H' = upd H D (.lst (((z.cps.toList.take i).map lowC).map V.bl))) rfl (fun _ _ _ _ => True.intro) ?_ ?_⟩
          · rintro i y H1 H' hi rfl ⟨rfl, c, hc, rfl⟩
            have ea : ("a" : Str).cps.toList = [97] := by decide +kernel
            have ez : ("z" : Str).cps.toList = [122] := by decide +kernel
            have k1 : (!decide (((⟨#[c]⟩ : Str).cps.toList) < ("a" : Str).cps.toList)) = decide (97 ≤ c) := by rw [ea]; exact cmp_low1 c
            have k2 : (!decide (("z" : Str).cps.toList < ((⟨#[c]⟩ : Str).cps.toList))) = decide (c ≤ 122) := by rw [ez]; exact cmp_low2 c
            have hc' : z.cps.toList[i]? = some c := by rw [Array.getElem?_toList]; exact hc
            have tk : (((z.cps.toList.take (i + 1)).map lowC).map V.bl) = (((z.cps.toList.take i).map lowC).map V.bl) ++ [V.bl (lowC c)] := by
              rw [List.take_add_one, hc']
              simp
            have sz : z.cps.toList.length = z.length := by simp [Str.length]
            have fin : ∀ b, b = lowC c → ∃ acc, (upd H D (.lst (((z.cps.toList.take i).map lowC).map V.bl))) D = some (.lst acc) ∧ acc.length < sizeLine ∧
                upd (upd H D (.lst (((z.cps.toList.take i).map lowC).map V.bl))) D (.lst (acc ++ [V.bl b])) = upd H D (.lst (((z.cps.toList.take (i + 1)).map lowC).map V.bl)) := by
              intro b eb
              refine ⟨_, upd_same, ?_, ?_⟩
              · rw [List.length_map, List.length_map, List.length_take]
                omega
              · rw [upd_upd, eb, tk]
            refine ⟨rfl, lcTurn ⟨_, rfl, _, _, rfl, rfl, _, rfl, ite2 (fun h3 => ?_) (fun h3 => ?_)⟩⟩
            · refine ⟨_, _, rfl, rfl, fin _ ?_⟩
              rw [k1] at h3
              rw [k2]
              unfold lowC
              rw [h3, Bool.true_and]
            · refine fin _ ?_
              rw [k1] at h3
              unfold lowC
              cases e : decide (97 ≤ c) with
              | true => exact absurd e h3
              | false => rw [Bool.false_and]
          · rintro H' rfl
            refine ⟨D, z.cps.toList.map lowC, rfl, SqL.of ?_, ?_⟩
            · rw [upd_same, List.take_of_length_le (by simp)]
            · have e : nameV (V.str z) = ((z.cps.toList.map lowC).all id) := by
                refine nf ?_
                have h1' : decide (1 ≤ z.length) = true := by
                  have := of_decide_eq_true h1
                  exact decide_eq_true (by omega)
                have h2' : decide (z.length ≤ 8) = true := by
                  have := of_decide_eq_true h2
                  exact decide_eq_true (by omega)
                unfold nameS
                rw [h1', h2', List.all_map]
                rfl
              rw [← e]
              exact kq _ (Same.new hD)
        · have e : nameV (V.str z) = false := by
            refine nf ?_
            have h2' : decide (z.length ≤ 8) = false := decide_eq_false fun q => h2 (decide_eq_true (by omega))
            unfold nameS
            rw [h2', Bool.and_false, Bool.false_and]
          have q := kq H (Same.refl H)
          rw [e] at q
          exact q
      · have e : nameV (V.str z) = false := by
          refine nf ?_
          have h1' : decide (1 ≤ z.length) = false := decide_eq_false fun q => h1 (decide_eq_true (by omega))
          unfold nameS
          rw [h1', Bool.false_and, Bool.false_and]
        have q := kq H (Same.refl H)
        rw [e] at q
        exact ⟨false, rfl, iteF q⟩
    | _ => exact ⟨false, rfl, iteF (kq H (Same.refl H))⟩
end
end Qp
namespace Qp
open PySem L2
section
variable {P : Program} {w : World} {K : PySem.W.Frag} {mg : Str → Option Value} {base : Heap}
/-- _law_take(state, many) -/
def spTake : Sp := fun vs H Q _ => ∃ (st : Addr) (m : Int), vs = [.ref st, .int m] ∧ 0 < m ∧ m < 1606938044258990275541962092341162602522202993782792835301376 ∧ StAt H st ∧ ∀ (d n s : Int), 0 ≤ d → d < m → 0 ≤ n → 0 ≤ s → s < 2147483629 → Q (.int d) (upd H st (.lst [.int n, .int s]))
theorem ok_take {f : Addr} {fd : FuncData} (F : Fun K "_law_take" "_law_take" sLtake f fd) (B : Bl mg) : FnOk P w K mg base CX0 1 f fd ["_law_state", "_law_many"] spTake := by
  refine F.ok scLtake (fun vs H Q E h => ?_) (fun cdv A outer s H vs Q E hr h => ?_)
  · obtain ⟨st, m, rfl, _⟩ := h
    rfl
  · obtain ⟨st, m, rfl, hm0, hm1, ⟨n, z, hst, hn, hz0, hz1⟩, kq⟩ := h
    have it0 : PE (cxOf CX0 P w K mg base ["_law_state", "_law_many", "_law_digit", "_law_mixed_here"] "_law_take" (defScope sLtake) f cdv A outer s H E).nox (.Name "_law_state" ⟨0, 0, 0, 0⟩) (tVar 0) := pv 0
    refine ⟨_, pss_cons (ps_if (pt_cmpR op_gt (pe_ix ix_list (pv 0) pe_int (fun _ _ => rfl)) pe_int (nomark _))
        (pss_cons (ps_set (i := 2) scLtake.nd rfl (Or.inl rfl) (pe_op op_modN (pe_callTy call_int1 (by rfl) B.int (by decide +kernel) (pa_cons (pe_ix ix_list (pv 0) pe_int (fun _ _ => rfl)) pa_nil)) (pv 1)))
        (pss_cons (ps_asg (pe_op op_fdivW (pe_callTy call_int1 (by rfl) B.int (by decide +kernel) (pa_cons (pe_ix ix_list (pv 0) pe_int (fun _ _ => rfl)) pa_nil)) (pv 1)) (pg_sub (pv 0) pe_int set_list))
        (pss_one (ps_ret (pv 2))))) pss_nil)
      (pss_cons (ps_asg (pe_op op_modN (pe_callTy call_int1 (by rfl) B.int (by decide +kernel) (pa_cons (pe_op op_add (pe_op op_mul (pe_ix ix_list (pv 0) pe_int (fun _ _ => rfl)) pe_int) pe_int) pa_nil)) pe_int) (pg_sub (pv 0) pe_int set_list))
      (pss_cons (ps_set (i := 3) scLtake.nd rfl (Or.inl rfl) (pe_op op_modN (pe_callTy call_int1 (by rfl) B.int (by decide +kernel) (pa_cons (pe_op op_mul (pe_ix ix_list (pv 0) pe_int (fun _ _ => rfl))
        (pe_op op_add (pe_op op_fdivN (pe_ix ix_list (pv 0) pe_int (fun _ _ => rfl)) pe_int) pe_int)) pa_nil)) pe_int))
      (pss_one (ps_ret (pe_op op_modN (pe_callTy call_int1 (by rfl) B.int (by decide +kernel) (pa_cons (pe_op op_fdivN (pv 3) pe_int) pa_nil)) (pv 1)))))), ?_⟩
    have a0 : atI [V.int n, V.int z] 0 = some (.int n) := atI_nat (j := 0) rfl
    have a1 : atI [V.int n, V.int z] 1 = some (.int z) := atI_nat (j := 1) rfl
    refine ⟨_, rfl, st, _, 0, _, rfl, rfl, SqL.of hst, a0, _, _, rfl, rfl, _, rfl, ?_⟩
    refine ite2 (fun h1 => ?_) (fun h1 => ?_)
    · have h2 : 0 < n := of_decide_eq_true h1
      refine ⟨_, rfl, st, _, 0, _, rfl, rfl, SqL.of hst, a0, .inl ⟨_, rfl, _, rfl, _, _, rfl, rfl, by omega, ?_⟩⟩
      refine ⟨_, rfl, st, _, 0, _, rfl, rfl, SqL.of hst, a0, .inl ⟨_, rfl, _, rfl, _, _, rfl, rfl, wide_div (b := 200) hm0 (by omega) (by decide) (by decide), ?_⟩⟩
      refine ⟨_, rfl, st, [.int n, .int z], 0, 0, rfl, rfl, hst, by rfl, _, rfl, ?_⟩
      refine kq (n.fmod m) (n / m) z ?_ ?_ ?_ hz0 hz1
      · exact Int.fmod_nonneg_of_pos _ hm0
      · exact Int.fmod_lt_of_pos _ hm0
      · exact Int.ediv_nonneg hn (by omega)
    · refine ⟨_, rfl, st, _, 1, _, rfl, rfl, SqL.of hst, a1, _, _, rfl, rfl, .inl ⟨by omega, by omega⟩, _, _, rfl, rfl, .inl ⟨_, rfl, _, _, rfl, rfl, (by show (2147483629 : Int) ≠ 0; decide), ?_⟩⟩
      have f0 : 0 ≤ (z * 48271 + 30103).fmod 2147483629 := Int.fmod_nonneg_of_pos _ (by decide)
      have f1 : (z * 48271 + 30103).fmod 2147483629 < 2147483629 := Int.fmod_lt_of_pos _ (by decide)
      generalize hz2 : (z * 48271 + 30103).fmod 2147483629 = z2 at f0 f1
      refine ⟨_, rfl, st, [.int n, .int z], 1, 1, rfl, rfl, hst, by rfl, ?_⟩
      have b1 : atI ([V.int n, V.int z].set 1 (V.int ((z * 48271 + 30103).fmod 2147483629))) 1 = some (V.int ((z * 48271 + 30103).fmod 2147483629)) := atI_nat (j := 1) rfl
      refine ⟨_, rfl, st, _, 1, _, rfl, rfl, SqL.of upd_same, b1, _, rfl, st, _, 1, _, rfl, rfl, SqL.of upd_same, b1, _, _, rfl, rfl, ⟨by decide, by decide⟩, _, _, rfl, rfl, _, _, rfl, rfl, .inl ⟨?_, ?_⟩, .inl ⟨_, rfl, _, _, rfl, rfl, (by show (2147483647 : Int) ≠ 0; decide), ?_⟩⟩
      · rw [hz2]
        omega
      · rw [hz2]
        omega
      · refine ⟨_, rfl, _, _, rfl, rfl, ⟨by decide, by decide⟩, .inl ⟨_, rfl, _, rfl, _, _, rfl, rfl, by omega, ?_⟩⟩
        have e : (upd H st (.lst ([V.int n, V.int z].set 1 (V.int ((z * 48271 + 30103).fmod 2147483629))))) = upd H st (.lst [.int n, .int z2]) := by rw [hz2]; rfl
        show Q _ (upd H st (.lst ([V.int n, V.int z].set 1 (V.int ((z * 48271 + 30103).fmod 2147483629)))))
        rw [e]
        exact kq _ n z2 (Int.fmod_nonneg_of_pos _ hm0) (Int.fmod_lt_of_pos _ hm0) hn f0 f1
/-- _law_cell(script, k) -/
def spCell (K : PySem.W.Frag) : Sp := fun vs H Q _ => ∃ (a : Addr) (ns : List Int) (k : Nat), vs = [.ref a, .int k] ∧ (k : Int) ≤ 1000 ∧ SqL K H a (ns.map V.int) ∧ ns.length ≤ 63 ∧ ∀ (p : Addr) (n s : Int), H p = none → 0 ≤ n → 0 ≤ s → s < 2147483629 → Q (.ref p) (upd H p (.lst [.int n, .int s]))
theorem ok_cell {f : Addr} {fd : FuncData} (F : Fun K "_law_cell" "_law_cell" sLcell f fd) (B : Bl mg) : FnOk P w K mg base CX0 1 f fd ["_law_script", "_law_k"] (spCell K) := by
  refine F.ok scLcell (fun vs H Q E h => ?_) (fun cdv A outer s H vs Q E hr h => ?_)
  · obtain ⟨a, ns, k, rfl, _⟩ := h
    rfl
  · obtain ⟨a, ns, k, rfl, hk, ha, hl, kq⟩ := h
    have rest : ∀ num : Int, 0 ≤ num → ∃ t, PSs (cxOf CX0 P w K mg base ["_law_script", "_law_k", "_law_number", "_law_seed"] "_law_cell" (defScope sLcell) f cdv A outer s H E).nox ((defBody sLcell).drop 2) t ∧
        t { nx := fun _ H' => Q .non H', rt := Q } [some (.ref a), some (.int k), some (.int num), none] H := fun num hnum => by
      refine ⟨_, pss_cons (ps_set (i := 3) scLcell.nd rfl (Or.inl rfl) (pe_op op_modN (pe_callTy call_int1 (by rfl) B.int (by decide +kernel) (pa_cons (pe_op op_add (pe_op op_add (pe_op op_add (pv 2) (pe_op op_mul pe_int (pv 1)))
            (pe_op op_mul pe_int (pe_callB (call_min2 rfl) (by rfl) B.min (by decide +kernel) (pa_cons (pe_callB call_len_seq (by rfl) B.len PySem.boot_len (pa_cons (pv 0) pa_nil)) (pa_cons pe_int pa_nil))))) pe_int) pa_nil)) pe_int))
        (pss_cons (ps_set (i := 3) scLcell.nd rfl (Or.inl rfl) (pe_op op_modN (pe_callTy call_int1 (by rfl) B.int (by decide +kernel) (pa_cons (pe_op op_add (pe_op op_add (pe_op op_mul (pe_op op_mul (pv 3) (pv 3)) (pv 3)) (pe_op op_mul pe_int (pv 3))) pe_int) pa_nil)) pe_int))
        (pss_cons (ps_if (pt_cmpR op_lt (pv 2) (pe_op op_pow pe_int pe_int) (nomark _)) (pss_one (ps_ret (pe_lst (pa_cons pe_int (pa_cons (pv 3) pa_nil))))) pss_nil)
        (pss_one (ps_ret (pe_lst (pa_cons (pv 2) (pa_cons (pv 3) pa_nil))))))), ?_⟩
      refine ⟨_, rfl, _, rfl, _, _, rfl, rfl, .inl ⟨by decide, by decide⟩, _, _, rfl, rfl, _, rfl, a, _, rfl, .inl ha, _, _, rfl, _, _, rfl, rfl, .inl ⟨by decide, by decide⟩, _, _, rfl, rfl, _, _, rfl, rfl, .inl ⟨_, rfl, _, _, rfl, rfl, (by show (2147483629 : Int) ≠ 0; decide), ?_⟩⟩
      generalize (num + 7919 * (k : Int) + 104729 * (if (63 : Int) < (((ns.map V.int).length : Nat) : Int) then (63 : Int) else (((ns.map V.int).length : Nat) : Int)) + 17) = y
      have f0 : 0 ≤ y.fmod 2147483629 := Int.fmod_nonneg_of_pos _ (by decide)
      have f1 : y.fmod 2147483629 < 2147483629 := Int.fmod_lt_of_pos _ (by decide)
      have m0 : 0 ≤ y.fmod 2147483629 * y.fmod 2147483629 := Int.mul_nonneg f0 f0
      have m1 : y.fmod 2147483629 * y.fmod 2147483629 < 2 ^ 64 := by
        have q : y.fmod 2147483629 * y.fmod 2147483629 ≤ 2147483629 * 2147483629 := Int.mul_le_mul (by omega) (by omega) f0 (by decide)
        omega
      refine ⟨_, rfl, _, rfl, _, _, rfl, rfl, .inl ⟨by omega, by omega⟩, _, rfl, _, _, rfl, rfl, .inl ⟨by omega, by omega⟩, _, rfl, _, _, rfl, rfl, .inl ⟨by decide, by decide⟩, _, _, rfl, rfl, _, _, rfl, rfl, .inl ⟨_, rfl, _, _, rfl, rfl, (by show (2147483629 : Int) ≠ 0; decide), ?_⟩⟩
      have g0 : 0 ≤ (y.fmod 2147483629 * y.fmod 2147483629 * y.fmod 2147483629 + 69621 * y.fmod 2147483629 + 11).fmod 2147483629 := Int.fmod_nonneg_of_pos _ (by decide)
      have g1 : (y.fmod 2147483629 * y.fmod 2147483629 * y.fmod 2147483629 + 69621 * y.fmod 2147483629 + 11).fmod 2147483629 < 2147483629 := Int.fmod_lt_of_pos _ (by decide)
      refine ⟨_, rfl, _, _, rfl, rfl, ⟨by decide, by decide, by decide⟩, _, _, rfl, rfl, _, rfl, ite2 (fun _ => ?_) (fun _ => ?_)⟩
      · exact ⟨_, rfl, by show 2 ≤ sizeLine; decide, fun p hp => kq p 0 _ hp (by decide) g0 g1⟩
      · exact ⟨_, rfl, _, rfl, by show 2 ≤ sizeLine; decide, fun p hp => kq p num _ hp hnum g0 g1⟩
    have hnum : ∀ num : Int, 0 ≤ (if num < 0 then -num else num) := fun num => by
      by_cases h : num < 0
      · rw [if_pos h]
        omega
      · rw [if_neg h]
        omega
    by_cases h0 : k < ns.length
    · obtain ⟨n0, e0⟩ : ∃ n0, ns[k]? = some n0 := ⟨ns[k], by simp [h0]⟩
      obtain ⟨t, ht, hq⟩ := rest _ (hnum n0)
      refine ⟨_, pss_cons (ps_set (i := 2) scLcell.nd rfl (Or.inl rfl) pe_int)
        (pss_cons (ps_if (pt_cmpR op_lt (pv 1) (pe_callB call_len_seq (by rfl) B.len PySem.boot_len (pa_cons (pv 0) pa_nil)) (nomark _))
          (pss_one (ps_set (i := 2) scLcell.nd rfl (Or.inl rfl) (pe_callB call_abs (by rfl) B.abs (by decide +kernel) (pa_cons (pe_ix ix_list (pv 0) (pv 1) (fun _ _ => rfl)) pa_nil)))) pss_nil) ht), ?_⟩
      refine ⟨_, rfl, _, rfl, a, _, rfl, .inl ha, _, _, rfl, rfl, _, rfl, ?_⟩
      rw [decide_eq_true (show (k : Int) < (((ns.map V.int).length : Nat) : Int) by rw [List.length_map]; omega)]
      refine iteT ⟨_, rfl, _, rfl, a, _, (k : Int), .int n0, rfl, rfl, ha, atI_nat (j := k) (by rw [List.getElem?_map, e0]; rfl), _, rfl, hq⟩
    · obtain ⟨t, ht, hq⟩ := rest 0 (Int.le_refl 0)
      refine ⟨_, pss_cons (ps_set (i := 2) scLcell.nd rfl (Or.inl rfl) pe_int)
        (pss_cons (ps_if (pt_cmpR op_lt (pv 1) (pe_callB call_len_seq (by rfl) B.len PySem.boot_len (pa_cons (pv 0) pa_nil)) (nomark _))
          (pss_one (ps_set (i := 2) scLcell.nd rfl (Or.inl rfl) (pe_callB call_abs (by rfl) B.abs (by decide +kernel) (pa_cons (pe_ix ix_list (pv 0) (pv 1) (fun _ _ => rfl)) pa_nil)))) pss_nil) ht), ?_⟩
      refine ⟨_, rfl, _, rfl, a, _, rfl, .inl ha, _, _, rfl, rfl, _, rfl, ?_⟩
      rw [decide_eq_false (show ¬ (k : Int) < (((ns.map V.int).length : Nat) : Int) by rw [List.length_map]; omega)]
      exact iteF hq
end
end Qp
namespace Qp
open PySem L2 TL
theorem abc_at (d : Nat) (h : d < 26) : ("abcdefghijklmnopqrstuvwxyz" : Str).cps.toList[d]? = some (97 + d) := by
  have e : ("abcdefghijklmnopqrstuvwxyz" : Str).cps.toList = List.range' 97 26 := by decide +kernel
  rw [e, List.getElem?_range' h]
  simp
theorem abc_len : ("abcdefghijklmnopqrstuvwxyz" : Str).length = 26 := by decide +kernel
theorem joinL_one : ∀ cs : List Nat, joinL [] (cs.map fun c => [c]) = cs
  | [] => rfl
  | [c] => rfl
  | c :: d :: r => by
    have ih := joinL_one (d :: r)
    show [c] ++ ([] ++ joinL [] ((d :: r).map fun c => [c])) = c :: d :: r
    rw [ih]
    rfl
theorem str_ext {y z : Str} (h : y.cps.toList = z.cps.toList) : y = z := by
  cases y with
  | mk a =>
    cases z with
    | mk b =>
      have : a = b := by
        apply Array.toList_inj.mp
        exact h
      rw [this]
theorem join_one (cs : List Nat) : Txt.join ("" : Str) (cs.map fun c => (⟨#[c]⟩ : Str)) = ⟨cs.toArray⟩ := by
  apply str_ext
  rw [join_eq]
  have e := tl_join ("" : Str) (cs.map fun c => (⟨#[c]⟩ : Str))
  have e0 : tl ("" : Str) = [] := by decide +kernel
  have e1 : (cs.map fun c => (⟨#[c]⟩ : Str)).map tl = cs.map fun c => [c] := by
    rw [List.map_map]
    rfl
  rw [e0, e1, joinL_one] at e
  show tl (Str.join ("" : Str) (cs.map fun c => (⟨#[c]⟩ : Str))) = cs.toArray.toList
  rw [e]
theorem name_of {cs : List Nat} (h1 : 1 ≤ cs.length) (h2 : cs.length ≤ 8) (h : ∀ c ∈ cs, lowC c = true) : nameS ⟨cs.toArray⟩ = true := by
  unfold nameS
  have e : (⟨cs.toArray⟩ : Str).length = cs.length := by simp [Str.length]
  rw [e, decide_eq_true h1, decide_eq_true h2, Bool.true_and, Bool.true_and]
  show cs.toArray.toList.all lowC = true
  rw [List.all_eq_true]
  intro c hc
  exact h c (by simpa using hc)
theorem lst_ne_st (ts : List Str) (n s : Int) : (HO.lst (ts.map V.str)) ≠ .lst [.int n, .int s] := by
  intro z
  have e : ts.map V.str = [.int n, .int s] := HO.lst.inj z
  cases ts with
  | nil => cases e
  | cons a r => cases e
theorem low_of (d : Nat) (h : d < 26) : lowC (97 + d) = true := by
  unfold lowC
  rw [Bool.and_eq_true]
  exact ⟨decide_eq_true (by omega), decide_eq_true (by omega)⟩
theorem sum_one : ∀ cs : List Nat, ((cs.map fun c => (⟨#[c]⟩ : Str)).map (·.length)).sum = cs.length
  | [] => rfl
  | c :: cs => by
    have ih := sum_one cs
    rw [List.map_cons, List.map_cons, List.sum_cons, ih, List.length_cons]
    show 1 + cs.length = cs.length + 1
    omega
/-- the k-th further name -/
def other (cs : List Nat) (l : Int) (k : Nat) : Str := ⟨((cs.take 7) ++ [97 + ((l + (0 + (k : Int))).fmod 26).toNat]).toArray⟩
theorem other_inj {cs : List Nat} {l : Int} {j k : Nat} (h0 : 0 ≤ l) (hj : j < 26) (hk : k < 26) (h : other cs l j = other cs l k) : j = k := by
  unfold other at h
  have e := congrArg (fun z : Str => z.cps.toList) h
  simp only [List.toList_toArray] at e
  have e2 := List.append_cancel_left e
  have e3 : 97 + ((l + (0 + (j : Int))).fmod 26).toNat = 97 + ((l + (0 + (k : Int))).fmod 26).toNat := (List.cons.inj e2).1
  rw [Int.fmod_eq_emod_of_nonneg _ (by decide), Int.fmod_eq_emod_of_nonneg _ (by decide)] at e3
  omega
theorem other_name {cs : List Nat} {l : Int} {k : Nat} (h2 : cs.length ≤ 8) (h : ∀ c ∈ cs, lowC c = true) : nameS (other cs l k) = true := by
  refine name_of ?_ ?_ fun c hc => ?_
  · rw [List.length_append]
    exact Nat.le_add_left _ _
  · rw [List.length_append, List.length_take]
    show min 7 cs.length + 1 ≤ 8
    omega
  · rcases List.mem_append.mp hc with q | q
    · exact h c (List.mem_of_mem_take q)
    · have e : c = 97 + ((l + (0 + (k : Int))).fmod 26).toNat := by simpa using q
      have f0 : 0 ≤ (l + (0 + (k : Int))).fmod 26 := Int.fmod_nonneg_of_pos _ (by decide)
      have f1 : (l + (0 + (k : Int))).fmod 26 < 26 := Int.fmod_lt_of_pos _ (by decide)
      rw [e]
      exact low_of _ (by omega)
theorem SameBut.stay {st : Addr} {H H' : Hp} {b : Addr} {o : HO} (s : SameBut st H H') (n : b ≠ st) (h : H b = some o) : H' b = some o := s b o n h
section
variable {P : Program} {w : World} {K : PySem.W.Frag} {mg : Str → Option Value} {base : Heap}
/-- _law_name(state, taken) -/
def spName : Sp := fun vs H Q _ => ∃ (st tk : Addr) (ts : List Str), vs = [.ref st, .ref tk] ∧ StAt H st ∧ H tk = some (lstO ts) ∧ ts.length ≤ 25 ∧ ∀ (z : Str) (H' : Hp), SameBut st H H' → StAt H' st → nameS z = true → z ∉ ts → Q (.str z) H'
theorem ok_name {f : Addr} {fd : FuncData} (F : Fun K "_law_name" "_law_name" sLname f fd) (B : Bl mg) (cT : CF P w K mg base CX0 1 "_law_take" ["_law_state", "_law_many"] spTake) : FnOk P w K mg base CX0 2 f fd ["_law_state", "_law_taken"] spName := by
  refine F.ok scLname (fun vs H Q E h => ?_) (fun cdv A outer s H vs Q E hr h => ?_)
  · obtain ⟨st, tk, ts, rfl, _⟩ := h
    rfl
  · obtain ⟨st, tk, ts, rfl, hst, htk, htl, kq⟩ := h
    have esz : sizeLine = 16777216 := sizeLine_eq
    have nts : tk ≠ st := by
      obtain ⟨n, s, e, _⟩ := hst
      exact ne_of htk e (lst_ne_st ts n s)
    refine ⟨_, pss_cons (ps_set (i := 2) scLname.nd rfl (Or.inr rfl) pe_str)
      (pss_cons (ps_set (i := 3) scLname.nd rfl (Or.inl rfl) (pe_op op_add pe_int (pe_cf cT hr pass0 (pa_cons (pv 0) (pa_cons pe_int pa_nil)))))
      (pss_cons (ps_set (i := 5) scLname.nd rfl (Or.inl rfl) (pe_join pe_str (pe_lc (own := [("_law_k", 4)]) (g := gName 4) (tt := tYes) rfl scLname.nd (pi_range1 (by rfl) B.rng (pa_cons (pv 3) pa_nil))
          (blkOk_by (own := [("_law_k", 4)]) (N := ["_law_state", "_law_taken", "_law_letters", "_law_size", "_law_k", "_law_name_here", "_law_last", "_law_other"]) (sc := defScope sLname) (by decide +kernel))
          (fun _ _ _ _ _ => pg_name (i := 4) scLname.nd rfl (Or.inl rfl)) (fun _ _ _ _ _ => pts_nil) (fun _ _ _ _ _ => pe_ix ix_str (pv 2) (pe_cf cT hr pass0 (pa_cons (pv 0) (pa_cons pe_int pa_nil))) (fun _ _ => rfl)))))
      (pss_cons (ps_if (pt_cmpR (op_notInS hr.units) (pv 5) (pv 1) (by rfl)) (pss_one (ps_ret (pv 5))) pss_nil)
      (pss_cons (ps_set (i := 6) scLname.nd rfl (Or.inl rfl) (pe_cf cT hr pass0 (pa_cons (pv 0) (pa_cons pe_int pa_nil))))
      (pss_cons (ps_for PassesOwn.never rfl (pi_range1 (by rfl) B.rng (pa_cons pe_int pa_nil)) (pg_name (i := 4) scLname.nd rfl (Or.inl rfl))
        (pss_cons (ps_set (i := 7) scLname.nd rfl (Or.inl rfl) (pe_op op_add_str (pe_slice sl_str (pv 5) po_none (po_some pe_int))
            (pe_ix ix_str (pv 2) (pe_op op_modN (pe_callTy call_int1 (by rfl) B.int (by decide +kernel) (pa_cons (pe_op op_add (pv 6) (pv 4)) pa_nil)) pe_int) (fun _ _ => rfl))))
        (pss_one (ps_if (pt_cmpR (op_notInS hr.units) (pv 7) (pv 1) (by rfl)) (pss_one (ps_ret (pv 7))) pss_nil))))
      (pss_one (ps_ret pe_str))))))), ?_⟩
    refine ⟨_, rfl, st, 8, rfl, by decide, by decide, hst, fun d n0 s0 hd0 hd1 hn0 hs0 hs1 => ?_⟩
    generalize hH1 : upd H st (.lst [.int n0, .int s0]) = H1
    have s1 : SameBut st H H1 := by rw [← hH1]; exact SameBut.set
    have st1 : StAt H1 st := ⟨n0, s0, by rw [← hH1]; exact upd_same, hn0, hs0, hs1⟩
    refine ⟨_, _, rfl, rfl, ?_⟩
    refine ⟨⟨_, rfl⟩, _, rfl, (1 + d), rfl, by omega, by omega, fun D hD => lc_it (walk_range (lo := 0) (n := (1 + d).toNat)) (fun i H' => SameBut st H1 H' ∧ StAt H' st ∧ ∃ cs : List Nat, cs.length = i ∧ (∀ c ∈ cs, lowC c = true) ∧ H' D = some (.lst (cs.map fun c => V.str ⟨#[c]⟩))) ?_ (fun _ _ _ _ => True.intro) ?_ ?_⟩
    · exact ⟨(Same.new hD).but st, st1.same (Same.new hD), [], rfl, (fun _ h => by cases h), upd_same⟩
    · rintro i x Hx H2 hi ⟨sb, sa, cs, hlen, hlow, hD1⟩ ⟨rfl, rfl⟩
      have hDst : D ≠ st := by
        obtain ⟨n, s, e, _⟩ := st1
        intro z
        rw [z, e] at hD
        cases hD
      refine ⟨rfl, lcTurn ⟨_, rfl, _, rfl, st, 26, rfl, by decide, by decide, sa, fun e n2 s2 he0 he1 hn2 hs2 hs3 => ?_⟩⟩
      have hat : atI ("abcdefghijklmnopqrstuvwxyz" : Str).cps.toList e = some (97 + e.toNat) := by
        have q := atI_nat (abc_at e.toNat (by omega))
        rw [show ((e.toNat : Nat) : Int) = e by omega] at q
        exact q
      refine ⟨_, e, 97 + e.toNat, rfl, rfl, by rw [abc_len, esz]; decide, hat, _, by rw [upd_ne hDst]; exact hD1, by rw [List.length_map]; omega, ?_, ?_, cs ++ [97 + e.toNat], by rw [List.length_append, hlen]; rfl, fun c hc => ?_, ?_⟩
      · intro b o hb hbo
        by_cases hbD : b = D
        · subst hbD
          rw [hD] at hbo
          cases hbo
        · rw [upd_ne hbD, upd_ne hb]
          exact sb b o hb hbo
      · exact ⟨n2, s2, by rw [upd_ne (Ne.symm hDst)]; exact upd_same, hn2, hs2, hs3⟩
      · rcases List.mem_append.mp hc with q | q
        · exact hlow c q
        · have : c = 97 + e.toNat := by simpa using q
          rw [this]
          exact low_of _ (by omega)
      · rw [upd_same, List.map_append]
        rfl
    · rintro H2 ⟨sb, sa, cs, hlen, hlow, hD1⟩
      have ek : cs.map (fun c => V.str ⟨#[c]⟩) = (cs.map fun c => (⟨#[c]⟩ : Str)).map V.str := by
        rw [List.map_map]
        rfl
      have hc1 : 1 ≤ cs.length := by omega
      have hc8 : cs.length ≤ 8 := by omega
      have sB := s1.trans sb
      have hn := name_of hc1 hc8 hlow
      refine ⟨_, D, cs.map fun c => (⟨#[c]⟩ : Str), rfl, rfl, .inl (SqL.of (by rw [hD1, ek])), ?_, ?_⟩
      · rw [sum_one, List.length_map, show ("" : Str).length = 0 from rfl, Nat.mul_zero]
        omega
      rw [join_one]
      refine ⟨_, rfl, _, rfl, tk, ts, rfl, .inl (SqL.of (sB _ _ nts htk)), .flat rfl, _, rfl, ?_⟩
      rw [if_pos rfl, inS_str]
      by_cases hm : (⟨cs.toArray⟩ : Str) ∈ ts
      · rw [decide_eq_true hm]
        refine iteF ⟨_, rfl, st, 26, rfl, by decide, by decide, sa, fun l n2 s2 hl0 hl1 hn2 hs2 hs3 => ?_⟩
        generalize hH3 : upd H2 st (.lst [.int n2, .int s2]) = H3
        have s3 : SameBut st H2 H3 := by rw [← hH3]; exact SameBut.set
        have st3 : StAt H3 st := ⟨n2, s2, by rw [← hH3]; exact upd_same, hn2, hs2, hs3⟩
        have sC := sB.trans s3
        refine ⟨26, rfl, by decide, by decide, for_it (walk_range (lo := 0) (n := (26 : Int).toNat)) (fun i σ H' => ∃ v4 v7 : Option V, σ = [some (.ref st), some (.ref tk), some (.str "abcdefghijklmnopqrstuvwxyz"), some (.int (1 + d)), v4, some (.str ⟨cs.toArray⟩), some (.int l), v7] ∧ H' = H3 ∧ ∀ j, j < i → other cs l j ∈ ts)
          ⟨_, _, rfl, rfl, fun j hj => absurd hj (Nat.not_lt_zero j)⟩ (fun _ _ _ _ _ => True.intro) ?_ ?_⟩
        · rintro i x σ Hx H4 hi ⟨v4, v7, rfl, rfl, hall⟩ ⟨rfl, rfl⟩
          have f0 : 0 ≤ (l + (0 + (i : Int))).fmod 26 := Int.fmod_nonneg_of_pos _ (by decide)
          have f1 : (l + (0 + (i : Int))).fmod 26 < 26 := Int.fmod_lt_of_pos _ (by decide)
          have hat : atI ("abcdefghijklmnopqrstuvwxyz" : Str).cps.toList ((l + (0 + (i : Int))).fmod 26) = some (97 + ((l + (0 + (i : Int))).fmod 26).toNat) := by
            have q := atI_nat (abc_at ((l + (0 + (i : Int))).fmod 26).toNat (by omega))
            rw [show ((((l + (0 + (i : Int))).fmod 26).toNat : Nat) : Int) = (l + (0 + (i : Int))).fmod 26 by omega] at q
            exact q
          have ecut : cutS ⟨cs.toArray⟩ none (some 7) = ⟨(cs.take 7).toArray⟩ := by
            apply str_ext
            show (((cs.toArray.toList.drop 0).take (HT.sIx cs.toArray.size cs.toArray.size (some ((7 : Nat) : Int)) - 0)).toArray).toList = (cs.take 7).toArray.toList
            rw [HT.sIx_nat]
            simp [List.take_eq_take_iff]
          refine ⟨_, rfl, _, rfl, _, rfl, by show cs.toArray.size ≤ sizeLine; rw [List.size_toArray]; omega, ?_⟩
          refine ⟨_, rfl, _, rfl, _, rfl, _, _, rfl, rfl, .inl ⟨_, rfl, _, _, rfl, rfl, (by show (26 : Int) ≠ 0; decide), _, _, _, rfl, rfl, by rw [abc_len, esz]; decide, hat, ?_⟩⟩
          have eo : (cutS ⟨cs.toArray⟩ none (some 7) ++ (⟨#[97 + ((l + (0 + (i : Int))).fmod 26).toNat]⟩ : Str)) = other cs l i := by
            rw [ecut]
            unfold other
            apply str_ext
            rw [show ((⟨(cs.take 7).toArray⟩ : Str) ++ (⟨#[97 + ((l + (0 + (i : Int))).fmod 26).toNat]⟩ : Str)).cps.toList = tl ((⟨(cs.take 7).toArray⟩ : Str) ++ (⟨#[97 + ((l + (0 + (i : Int))).fmod 26).toNat]⟩ : Str)) from rfl, tl_append]
          refine ⟨_, _, rfl, rfl, ?_, ?_⟩
          · have := cutS_length (⟨cs.toArray⟩ : Str) none (some 7)
            have e9 : (⟨cs.toArray⟩ : Str).length = cs.length := by simp [Str.length]
            show (cutS ⟨cs.toArray⟩ none (some 7)).length + 1 ≤ sizeLine
            omega
          · refine ⟨_, rfl, _, rfl, tk, ts, rfl, .inl (SqL.of (sC _ _ nts htk)), .flat rfl, _, rfl, ?_⟩
            rw [if_pos rfl, inS_str]
            by_cases hm2 : other cs l i ∈ ts
            · have e9 : decide ((cutS ⟨cs.toArray⟩ none (some 7) ++ (⟨#[97 + ((l + (0 + (i : Int))).fmod 26).toNat]⟩ : Str)) ∈ ts) = true := by
                rw [eo]
                exact decide_eq_true hm2
              have e10 : (!decide ((cutS ⟨cs.toArray⟩ none (some 7) ++ (⟨#[97 + ((l + (0 + (i : Int))).fmod 26).toNat]⟩ : Str)) ∈ ts)) = false := by rw [e9]; rfl
              refine (if_neg (by rw [e10]; decide)).mpr ?_
              refine ⟨_, _, rfl, rfl, fun j hj => ?_⟩
              by_cases hji : j < i
              · exact hall j hji
              · have : j = i := by omega
                rw [this]
                exact hm2
            · have e9 : decide ((cutS ⟨cs.toArray⟩ none (some 7) ++ (⟨#[97 + ((l + (0 + (i : Int))).fmod 26).toNat]⟩ : Str)) ∈ ts) = false := by
                rw [eo]
                exact decide_eq_false hm2
              have e10 : (!decide ((cutS ⟨cs.toArray⟩ none (some 7) ++ (⟨#[97 + ((l + (0 + (i : Int))).fmod 26).toNat]⟩ : Str)) ∈ ts)) = true := by rw [e9]; rfl
              refine (if_pos e10).mpr ⟨_, rfl, ?_⟩
              have q := kq (other cs l i) _ sC st3 (other_name hc8 hlow) hm2
              rw [← eo] at q
              exact q
        · rintro σ H4 ⟨v4, v7, rfl, rfl, hall⟩
          exfalso
          have hnd : ((List.range 26).map fun j => other cs l j).Nodup := by
            refine List.Pairwise.map _ (fun a b h e => ?_) (List.Pairwise.and_mem.mp (List.nodup_range (n := 26)))
            obtain ⟨ha, hb, hab⟩ := h
            exact hab (other_inj hl0 (List.mem_range.mp ha) (List.mem_range.mp hb) e)
          have q := nodup_sub_length (m := ts) hnd fun z hz => by
            obtain ⟨j, hj, rfl⟩ := List.mem_map.mp hz
            exact hall j (List.mem_range.mp hj)
          rw [List.length_map, List.length_range] at q
          omega
      · rw [decide_eq_false hm]
        exact iteT ⟨_, rfl, kq _ _ sB sa hn hm⟩
end
end Qp
namespace Qp
open PySem L2
section
variable {P : Program} {w : World} {K : PySem.W.Frag} {mg : Str → Option Value} {base : Heap}
/-- _law_names(state, many) -/
def spNames : Sp := fun vs H Q _ => ∃ (st : Addr) (m : Nat), vs = [.ref st, .int m] ∧ m ≤ 25 ∧ StAt H st ∧ ∀ (p : Addr) (ps : List Str) (H' : Hp), ps.length = m → ps.Nodup → (∀ z ∈ ps, nameS z = true) → SameBut st H H' → StAt H' st → H p = none → p ≠ st → H' p = some (lstO ps) → Q (.ref p) H'
theorem ok_names {f : Addr} {fd : FuncData} (F : Fun K "_law_names" "_law_names" sLnames f fd) (B : Bl mg) (cN : CF P w K mg base CX0 2 "_law_name" ["_law_state", "_law_taken"] spName) : FnOk P w K mg base CX0 3 f fd ["_law_state", "_law_many"] spNames := by
  refine F.ok scLnames (fun vs H Q E h => ?_) (fun cdv A outer s H vs Q E hr h => ?_)
  · obtain ⟨st, m, rfl, _⟩ := h
    rfl
  · obtain ⟨st, m, rfl, hm, hst, kq⟩ := h
    have esz : sizeLine = 16777216 := sizeLine_eq
    refine ⟨_, pss_cons (ps_set (i := 2) scLnames.nd rfl (Or.inl rfl) (pe_lst pa_nil))
      (pss_cons (ps_for PassesOwn.never rfl (pi_range1 (by rfl) B.rng (pa_cons (pv 1) pa_nil)) (pg_name (i := 3) scLnames.nd rfl (Or.inl rfl))
        (pss_one (ps_expr (pe_bm PySem.F.plainAttrs_list PySem.F.slot_list_append PySem.F.type_list_append mt_append (pv 2) (pa_cons (pe_cf cN hr pass0 (pa_cons (pv 0) (pa_cons (pv 2) pa_nil))) pa_nil)))))
      (pss_one (ps_ret (pv 2)))), ?_⟩
    refine ⟨by show 0 ≤ sizeLine; exact Nat.zero_le _, fun p hp => ?_⟩
    have nps : p ≠ st := by
      obtain ⟨n, s, e, _⟩ := hst
      intro z
      rw [z, e] at hp
      cases hp
    refine ⟨_, rfl, m, rfl, by omega, by omega, for_it (walk_range (lo := 0) (n := ((m : Nat) : Int).toNat)) (fun i σ H' => ∃ (v : Option V) (ps : List Str), σ = [some (.ref st), some (.int m), some (.ref p), v] ∧ ps.length = i ∧ ps.Nodup ∧ (∀ z ∈ ps, nameS z = true) ∧ SameBut st H H' ∧ StAt H' st ∧ H' p = some (lstO ps))
      ⟨none, [], rfl, rfl, List.nodup_nil, (fun _ h => by cases h), (Same.new hp).but st, hst.same (Same.new hp), upd_same⟩ (fun _ _ _ _ _ => True.intro) ?_ ?_⟩
    · rintro i x σ Hx H1 hi ⟨v, ps, rfl, hlen, hnd, hnm, sb, sa, hp1⟩ ⟨rfl, rfl⟩
      refine ⟨_, rfl, .inl ⟨rfl, _, SqL.of hp1⟩, _, rfl, _, rfl, st, p, ps, rfl, sa, hp1, by omega, fun z H2 sb2 sa2 hz hnz => ?_⟩
      have hp2 : H2 p = some (lstO ps) := sb2 _ _ nps hp1
      refine ⟨p, ps.map V.str, .str z, rfl, rfl, hp2, by rw [List.length_map]; omega, _, ps ++ [z], rfl, by rw [List.length_append, hlen]; rfl, ?_, fun y hy => ?_, fun b o hb e => ?_, ?_, ?_⟩
      · rw [List.nodup_append]
        refine ⟨hnd, by simp, fun a ha b hb => ?_⟩
        have : b = z := by simpa using hb
        subst this
        intro e
        subst e
        exact hnz ha
      · rcases List.mem_append.mp hy with q | q
        · exact hnm y q
        · have : y = z := by simpa using q
          rw [this]
          exact hz
      · rw [upd_ne (ne_of_none e hp)]
        exact sb2 _ _ hb (sb _ _ hb e)
      · obtain ⟨n, s, e, r⟩ := sa2
        exact ⟨n, s, by rw [upd_ne (Ne.symm nps)]; exact e, r⟩
      · rw [upd_same]
        unfold lstO
        rw [List.map_append]
        rfl
    · rintro σ H1 ⟨v, ps, rfl, hlen, hnd, hnm, sb, sa, hp1⟩
      exact ⟨_, rfl, kq p ps H1 (by omega) hnd hnm sb sa hp nps hp1⟩
end
end Qp
namespace Qp
open PySem L2
theorem seqIx_of {n : Nat} {d : Int} (h0 : 0 ≤ d) (h1 : d < n) : seqIndex? d n = some d.toNat := by
  unfold seqIndex?
  simp [show ¬ d < 0 by omega, h0, h1]
theorem perm_step {α : Type} {pool row zs : List α} {k : Nat} {y : α} (hp : (pool ++ row).Perm zs) (hy : pool[k]? = some y) : ((pool.eraseIdx k) ++ (row ++ [y])).Perm zs := by
  have h1 : pool.Perm (y :: pool.eraseIdx k) := by
    obtain ⟨hk, e⟩ := List.getElem?_eq_some_iff.mp hy
    rw [List.eraseIdx_eq_take_drop_succ]
    have e2 : pool = pool.take k ++ y :: pool.drop (k + 1) := by
      rw [← e, List.getElem_cons_drop, List.take_append_drop]
    exact (List.Perm.of_eq e2).trans List.perm_middle
  refine List.Perm.trans ?_ hp
  refine List.Perm.trans ?_ (List.Perm.append_right row h1.symm)
  rw [← List.append_assoc]
  refine List.Perm.trans (List.perm_append_comm) ?_
  rfl
section
variable {P : Program} {w : World} {K : PySem.W.Frag} {mg : Str → Option Value} {base : Heap}
/-- _law_mixed(state, items) -/
def spMixed : Sp := fun vs H Q _ => ∃ (st it : Addr) (zs : List Str), vs = [.ref st, .ref it] ∧ StAt H st ∧ H it = some (lstO zs) ∧ zs.length ≤ 500 ∧
  ∀ (p : Addr) (ps : List Str) (H' : Hp), ps.Perm zs → SameBut st H H' → StAt H' st → H p = none → H' p = some (lstO ps) → Q (.ref p) H'
theorem ok_mixed {f : Addr} {fd : FuncData} (F : Fun K "_law_mixed" "_law_mixed" sLmixed f fd) (B : Bl mg) (cT : CF P w K mg base CX0 1 "_law_take" ["_law_state", "_law_many"] spTake) : FnOk P w K mg base CX0 2 f fd ["_law_state", "_law_items"] spMixed := by
  refine F.ok scLmixed (fun vs H Q E h => ?_) (fun cdv A outer s H vs Q E hr h => ?_)
  · obtain ⟨st, it, zs, rfl, _⟩ := h
    rfl
  · obtain ⟨st, it, zs, rfl, hst, hit, hlen, kq⟩ := h
    have esz : sizeLine = 16777216 := sizeLine_eq
    refine ⟨_, pss_cons (ps_set (i := 2) scLmixed.nd rfl (Or.inl rfl) (pe_callTy call_list_of (by rfl) B.lst (by decide +kernel) (pa_cons (pv 1) pa_nil)))
      (pss_cons (ps_set (i := 3) scLmixed.nd rfl (Or.inl rfl) (pe_lst pa_nil))
      (pss_cons (ps_for PassesOwn.never rfl (pi_range1 (by rfl) B.rng (pa_cons (pe_callB call_len_seq (by rfl) B.len PySem.boot_len (pa_cons (pv 1) pa_nil)) pa_nil)) (pg_name (i := 4) scLmixed.nd rfl (Or.inl rfl))
        (pss_one (ps_expr (pe_bm PySem.F.plainAttrs_list PySem.F.slot_list_append PySem.F.type_list_append mt_append (pv 3) (pa_cons (pe_bm PySem.F.plainAttrs_list PySem.F.slot_list_pop PySem.F.type_list_pop mt_popAt (pv 2)
          (pa_cons (pe_cf cT hr pass0 (pa_cons (pv 0) (pa_cons (pe_callB call_len_seq (by rfl) B.len PySem.boot_len (pa_cons (pv 2) pa_nil)) pa_nil))) pa_nil)) pa_nil)))))
      (pss_one (ps_ret (pv 3))))), ?_⟩
    have nst : ∀ (b : Addr) (H' : Hp), H' b = none → StAt H' st → b ≠ st := fun b H' hb hs => by
      obtain ⟨n, z, e, _⟩ := hs
      intro y
      rw [y, e] at hb
      cases hb
    refine ⟨_, rfl, it, zs.map V.str, rfl, .inl (SqL.of hit), fun L hL => ⟨(by show 0 ≤ sizeLine; exact Nat.zero_le _), fun R hR => ?_⟩⟩
    have s1 : Same H (upd H L (.lst (zs.map V.str))) := Same.new hL
    have nL := nst L H hL hst
    have eL : (upd H L (.lst (zs.map V.str))) L = some (.lst (zs.map V.str)) := upd_same
    generalize upd H L (.lst (zs.map V.str)) = H1 at s1 hR eL
    have nR := nst R H1 hR (hst.same s1)
    have nRL : L ≠ R := ne_of_none eL hR
    have nHR : H R = none := s1.free hR
    refine ⟨_, rfl, it, _, rfl, .inl (SqL.of (Same.new hR _ _ (s1 _ _ hit))), _, rfl, by rw [List.length_map]; omega, by rw [List.length_map]; omega,
      for_it (walk_range (lo := 0) (n := (((zs.map V.str).length : Nat) : Int).toNat)) (fun i σ H' => ∃ (v : Option V) (pool row : List Str), σ = [some (.ref st), some (.ref it), some (.ref L), some (.ref R), v] ∧ (pool ++ row).Perm zs ∧ row.length = i ∧ SameBut st H H' ∧ StAt H' st ∧ H' L = some (lstO pool) ∧ H' R = some (lstO row))
      ⟨none, zs, [], rfl, by rw [List.append_nil], rfl, (s1.trans (Same.new hR)).but st, (hst.same s1).same (Same.new hR), by rw [upd_ne nRL]; exact eL, upd_same⟩ (fun _ _ _ _ _ => True.intro) ?_ ?_⟩
    · rintro i x σ Hx H2 hi ⟨v, pool, row, rfl, hperm, hrow, sb, sa, hL2, hR2⟩ ⟨rfl, rfl⟩
      have hlp := hperm.length_eq
      rw [List.length_append] at hlp
      rw [List.length_map, Int.toNat_natCast] at hi
      refine ⟨_, rfl, .inl ⟨rfl, _, SqL.of hR2⟩, _, rfl, .inl ⟨rfl, _, SqL.of hL2⟩, _, rfl, _, rfl, L, _, rfl, .inl (SqL.of hL2), st, pool.length, by rw [List.length_map]; rfl, by omega, by omega, sa, fun d n1 z1 hd0 hd1 a1 a2 a3 => ?_⟩
      obtain ⟨y, ey⟩ : ∃ y, pool[d.toNat]? = some y := ⟨_, List.getElem?_eq_getElem (by omega)⟩
      have hL3 : (upd H2 st (.lst [.int n1, .int z1])) L = some (lstO pool) := by rw [upd_ne nL]; exact hL2
      refine ⟨L, pool.map V.str, d, d.toNat, .str y, rfl, rfl, hL3, by omega, by omega, seqIx_of hd0 (by rw [List.length_map]; exact hd1), by rw [List.getElem?_map, ey]; rfl, ?_⟩
      refine ⟨R, row.map V.str, .str y, rfl, rfl, ?_, by rw [List.length_map]; omega, _, pool.eraseIdx d.toNat, row ++ [y], rfl, perm_step hperm ey, by rw [List.length_append, hrow]; rfl, fun b o hb e => ?_, ?_, ?_, ?_⟩
      · rw [upd_ne (Ne.symm nRL), upd_ne nR]
        exact hR2
      · rw [upd_ne (ne_of_none e nHR), upd_ne (ne_of_none e hL), upd_ne hb]
        exact sb _ _ hb e
      · exact ⟨n1, z1, by rw [upd_ne (Ne.symm nR), upd_ne (Ne.symm nL)]; exact upd_same, a1, a2, a3⟩
      · rw [upd_ne nRL, upd_same]
        unfold lstO
        rw [List.eraseIdx_eq_take_drop_succ, List.eraseIdx_eq_take_drop_succ, List.map_append, List.map_take, List.map_drop]
      · rw [upd_same]
        unfold lstO
        rw [List.map_append]
        rfl
    · rintro σ H2 ⟨v, pool, row, rfl, hperm, hrow, sb, sa, hL2, hR2⟩
      have hlp := hperm.length_eq
      rw [List.length_append, hrow, List.length_map, Int.toNat_natCast] at hlp
      have hp0 : pool = [] := List.eq_nil_of_length_eq_zero (by omega)
      subst hp0
      exact ⟨_, rfl, kq R row H2 hperm sb sa nHR hR2⟩
end
end Qp
/-! x in o, o[i], where o is an instance of a class that defs __contains__, __getitem__ -/
namespace L2
open PySem PySem.Spec PyProof.Rows
section
variable {X : Cx} {k : Nat} {f C : Addr} {fd : FuncData} {ps : List Str} {sp : Sp}
theorem run_fnAt {A' : Around} {pins : List (Addr × Obj)} {σ : St} {H : Hp} {s : Shared} {Q : VK} {us : List Value} {vs : List V} (he : Env0 X.prog X.w X.K X.mg X.base A' X.stack s H) (F : FnOk X.prog X.w X.K X.mg X.base CX0 k f fd ps sp) (hr : Room k A') (hb : Binds X.K fd ps [])
    (I : Inv X pins σ H s) (r : Vals vs us) (h : sp vs H Q E0) : wpAny (model X.prog X.w) A' (call (.ref f) us) (EP X pins σ Q) X.xe s := by
  have hl : (us ++ []).length = ps.length := by rw [List.append_nil, ← r.length]; exact F.len _ _ _ _ h
  have hb' := hb s us I.kIn hl
  rw [List.append_nil] at hb'
  refine wpAny_call (codeAny_mono (F.run A' X.stack s H ⟨us, []⟩ us vs Q E0 hr he hb' r h) fun r s' hq => ?_)
  cases r with
  | error e => exact False.elim hq
  | ok fl =>
    cases fl with
    | ret u => exact I.after hq
    | next => exact False.elim hq
    | brk => exact False.elim hq
    | cont => exact False.elim hq
/-- x in o -/
def rInO (C : Addr) (sp : Sp) (neg : Bool) : R2 := fun x y H Q => ∃ a dx fs, y = .ref a ∧ H a = some (.ins C dx fs) ∧ sp [y, x] H (fun v H' => ∃ b : Bool, v = .bl b ∧ Q (.bl (if neg = true then !b else b)) H') E0
theorem contains_own {pins : List (Addr × Obj)} {σ : St} {H : Hp} {s : Shared} {x : V} {v : Value} {a dx : Addr} {fs : List (Str × V)} {R : Bool → Shared → Prop} (hm : Meth X.K C "__contains__" f) (F : FnOk X.prog X.w X.K X.mg X.base CX0 k f fd ps sp) (hr : Room k X.A) (hb : Binds X.K fd ps [])
    (I : Inv X pins σ H s) (rx : RelV x v) (ha : H a = some (.ins C dx fs)) (Qb : Bool → Hp → Prop) (h : sp [.ref a, x] H (fun v H' => ∃ b : Bool, v = .bl b ∧ Qb b H') E0)
    (hq : ∀ b H' s', Inv X pins σ H' s' → Qb b H' → R b s') : wpAny (model X.prog X.w) X.A (contains (.ref a) v) R X.xe s := by
  obtain ⟨mA, O, _, _, _, _⟩ := ins_get I.hok ha
  obtain ⟨od, J, _⟩ := O.look
  unfold contains
  refine wpAny_holding (wpAny_bind (wpAny_bind (J.type.here ((PySem.W.looks_findIn I.kIn hm.at_).here ?_))))
  rw [if_neg (by simp)]
  refine wpAny_bind (PySem.W.unlessNone_K I.kIn J hm.at_ hm.fn (thn (run_fnAt I.env0 F hr hb I (vs := [V.ref a, x]) (.cons rfl (.cons rx .nil)) h) fun u s1 hu => ?_))
  obtain ⟨y, H1, I1, ry, b, rfl, q⟩ := hu
  cases ry
  exact wpAny_truthy_bool (hq b H1 s1 I1 q)
theorem op_inO (hm : Meth X.K C "__contains__" f) (F : FnOk X.prog X.w X.K X.mg X.base CX0 k f fd ps sp) (hr : Room k X.A) (hb : Binds X.K fd ps []) : OpR X (compareOp .In) (rInO C sp false) := by
  intro pins s σ H x y v u Q I rx ry h
  obtain ⟨a, dx, fs, rfl, ha, h⟩ := h
  cases ry
  exact wpAny_bind (contains_own hm F hr hb I rx ha (fun b H' => Q (.bl b) H') h fun b H' s' I' q => wpAny_pure ⟨.bl b, H', I', rfl, q⟩)
theorem op_notInO (hm : Meth X.K C "__contains__" f) (F : FnOk X.prog X.w X.K X.mg X.base CX0 k f fd ps sp) (hr : Room k X.A) (hb : Binds X.K fd ps []) : OpR X (compareOp .NotIn) (rInO C sp true) := by
  intro pins s σ H x y v u Q I rx ry h
  obtain ⟨a, dx, fs, rfl, ha, h⟩ := h
  cases ry
  exact wpAny_bind (contains_own hm F hr hb I rx ha (fun b H' => Q (.bl (!b)) H') h fun b H' s' I' q => wpAny_pure ⟨.bl (!b), H', I', rfl, q⟩)
/-- o[i] -/
def rIxO (C : Addr) (sp : Sp) : R2 := fun x y H Q => ∃ a dx fs, x = .ref a ∧ H a = some (.ins C dx fs) ∧ sp [x, y] H Q E0
theorem pe_ixO {a b : Expr} {ta tb : TE} {pos : Pos} (hm : Meth X.K C "__getitem__" f) (hfn : PySem.W.fnIn X.K f = true) (F : FnOk X.prog X.w X.K X.mg X.base CX0 k f fd ps sp) (hr : Room (k + 1) X.A) (hbd : Binds X.K fd ps []) (ha : PE X a ta) (hb : PE X b tb)
    (hsl : ∀ v u, subscripted b true v u = runValue (.builtin "lifetime.subscript" ⟨[v, u], []⟩) := by intros; rfl) : PE X (.Subscript a b pos) (tOp (rIxO C sp) ta tb) := by
  refine ⟨fun pins s σ H Q I h => ?_⟩
  refine Subscript_ (binT ha hb I h fun v u s2 x y H2 I2 rx ry q => ?_)
  obtain ⟨o, dx, fs, rfl, ho, q⟩ := q
  cases rx
  obtain ⟨mA, O, _, _, _, _⟩ := ins_get I2.hok ho
  obtain ⟨od, J, _⟩ := O.look
  have XK := I2.kIn
  unfold PySem.W.fnIn at hfn
  split at hfn
  · rename_i e
    unfold subscriptTail getitemInPython
    refine wpAny_bind (wpAny_bind (wpAny_bind (J.type.here ((PySem.W.looks_findIn XK hm.at_).here ?_))))
    dsimp only
    refine wpAny_bind (wpAny_load (XK _ _ e) (wpAny_pure ?_))
    dsimp only
    rw [hsl]
    refine wpAny_bind (wpAny_runValue (codeAny_builtin PySem.W.entry_sub ?_))
    unfold Builtin.«lifetime.subscript»
    refine wpAny_bind (PySem.W.special_fn XK J hm.at_ (beq_iff_eq.mp hm.fn) (thn (run_fnAt I2.env0.in1 F hr.in1 hbd I2 (vs := [V.ref o, y]) (.cons rfl (.cons ry .nil)) q) fun v s' z => ?_))
    refine wpAny_pure ?_
    show wpAny (model X.prog X.w) X.A (letTemporaryGo a (.ref o) v >>= fun _ => pure v) (EP X pins σ Q) X.xe s'
    exact wpAny_bind (wpAny_letTemporaryGo (wpAny_pure z))
  · cases hfn
end
end L2
/-! x == o, x != o, both instances of a class that defs __eq__ (and no __ne__) -/
namespace L2
open PySem PySem.Spec PyProof.Rows
/-- what != asks of an own class that defs no __ne__ -/
structure NeC (K : PySem.W.Frag) (C : Addr) : Prop where
  at_ : PySem.W.findIn K (.ref C) "__ne__" = some (some (.builtin "object.__ne__"))
  mro : PySem.W.subIn K (.ref C) (.type "object") = some true
section
variable {X : Cx} {k : Nat} {f C : Addr} {fd : FuncData} {ps : List Str} {sp : Sp}
theorem run_fnAt' {A' : Around} {pins : List (Addr × Obj)} {σ : St} {H : Hp} {s : Shared} {Q : VK} {us : List Value} {vs : List V} (he : Env0 X.prog X.w X.K X.mg X.base A' X.stack s H) (F : FnOk X.prog X.w X.K X.mg X.base CX0 k f fd ps sp) (hr : Room k A') (hb : Binds X.K fd ps [])
    (I : Inv X pins σ H s) (r : Vals vs us) (h : sp vs H Q E0) {E : Value → Shared → Prop} : wpAny (model X.prog X.w) A' (call (.ref f) us) (EP X pins σ Q) E s := by
  have hl : (us ++ []).length = ps.length := by rw [List.append_nil, ← r.length]; exact F.len _ _ _ _ h
  have hb' := hb s us I.kIn hl
  rw [List.append_nil] at hb'
  refine wpAny_call (codeAny_mono (F.run A' X.stack s H ⟨us, []⟩ us vs Q E0 hr he hb' r h) fun r s' hq => ?_)
  cases r with
  | error e => exact False.elim hq
  | ok fl =>
    cases fl with
    | ret u => exact I.after hq
    | next => exact False.elim hq
    | brk => exact False.elim hq
    | cont => exact False.elim hq
/-- x == y, x != y -/
def rEqO (C : Addr) (sp : Sp) (neg : Bool) : R2 := fun x y H Q => ∃ a b dx dy fs gs, x = .ref a ∧ y = .ref b ∧ H a = some (.ins C dx fs) ∧ H b = some (.ins C dy gs) ∧ sp [x, y] H (fun v H' => ∃ c : Bool, v = .bl c ∧ Q (.bl (if neg = true then !c else c)) H') E0
theorem op_eqO (hm : Meth X.K C "__eq__" f) (F : FnOk X.prog X.w X.K X.mg X.base CX0 k f fd ps sp) (hr : Room k X.A) (hb : Binds X.K fd ps []) : OpR X (compareOp .Eq) (rEqO C sp false) := by
  intro pins s σ H x y v u Q I rx ry h
  obtain ⟨a, b, dx, dy, fs, gs, rfl, rfl, ha, hb', h⟩ := h
  cases rx
  cases ry
  obtain ⟨mA, J, _⟩ := ins_get I.hok ha
  obtain ⟨mB, J', _⟩ := ins_get I.hok hb'
  obtain ⟨od, J, _⟩ := J.look
  obtain ⟨od', J', _⟩ := J'.look
  obtain ⟨m, hF⟩ := I.fr
  show wpAny (model X.prog X.w) X.A (richCompare .Eq (.ref a) (.ref b)) (EP X pins σ Q) X.xe s
  refine PySem.W.cmp_K (op := .Eq) (tb := .ref C) hr.units0 hF I.ok.mod.kin J J'.type (by simp [PySem.W.notFirst]) hm.at_ hm.fn ?_
  refine thn (run_fnAt I.env0 F hr hb I (vs := [V.ref a, V.ref b]) (.cons rfl (.cons rfl .nil)) h) fun u s1 hu => ?_
  obtain ⟨z, H1, I1, rz, c, rfl, q⟩ := hu
  cases rz
  exact ⟨.bl c, H1, I1, rfl, q⟩
theorem check_ne {M : Model} {A : Around} {E : Value → Shared → Prop} {s : Shared} {K : PySem.W.Frag} {x C : Addr} {ox : Obj} {od : Option Obj} {rest : List Value} {Q : Unit → Shared → Prop} (XK : K.In s.heap) (J : PySem.W.InstAt s.heap x ox C od)
    (sb : PySem.W.subIn K (.ref C) (.type "object") = some true) (ha : argsOk "object.__ne__" ⟨.ref x :: rest, []⟩) (hq : Q () s) : wpAny M A (checkBuiltinCall "object.__ne__" ⟨.ref x :: rest, []⟩) Q E s := by
  simp only [checkBuiltinCall, F.cmpKind_ne, F.cmpSplit_ne]
  refine wpAny_bind ?_
  unfold isInstance
  refine wpAny_bind ?_
  refine J.type.here ?_
  refine (PySem.W.looks_subIn XK sb).here ?_
  simp only [Bool.not_true, Bool.false_eq_true, if_false]
  cases hsig : Manifest.signature? "object.__ne__" with
  | none => exact wpAny_pure hq
  | some sig =>
    simp only [argsOk, hsig] at ha
    have h2 : Bind.checkArgs "object.__ne__" sig ⟨.ref x :: rest, []⟩ = pure () := ha
    show wpAny M A (Bind.checkArgs "object.__ne__" sig ⟨.ref x :: rest, []⟩) Q E _
    rw [h2]
    exact wpAny_pure hq
theorem ifBound_ne {M : Model} {A : Around} {E : Value → Shared → Prop} {s : Shared} {K : PySem.W.Frag} {x C : Addr} {ox : Obj} {od : Option Obj} {args : List Value} {Q : Option Value → Shared → Prop} (XK : K.In s.heap) (J : PySem.W.InstAt s.heap x ox C od)
    (hs : PySem.W.findIn K (.ref C) "__ne__" = some (some (.builtin "object.__ne__"))) (h : wpAny M A (call (.builtin "object.__ne__") (.ref x :: args)) (fun v => Q (some v)) E s) : wpAny M A (callSpecialIfBound? (.ref x) "__ne__" args) Q E s := by
  simp only [callSpecialIfBound?, bindSpecialIfBound?]
  refine wpAny_holding (wpAny_bind (wpAny_bind (wpAny_bind (J.type.here ((PySem.W.looks_findIn XK hs).here ?_)))))
  simp only [F.cmp_object.ne.bind]
  refine wpAny_bind (wpAny_askSetting (wpAny_ite ?_))
  have fin : wpAny M A (call (.builtin "object.__ne__") ([.ref x] ++ args) >>= fun v => pure (some v)) Q E s := wpAny_bind (wpAny_mono h (fun v s' h' => wpAny_pure h') fun _ _ h' => h')
  split
  · exact wpAny_bind (wpAny_pure (wpAny_pure fin))
  · exact wpAny_tryCatch (wpAny_bind (wpAny_pure (wpAny_pure fin)))
theorem op_neO (N : NeC X.K C) (hm : Meth X.K C "__eq__" f) (F : FnOk X.prog X.w X.K X.mg X.base CX0 k f fd ps sp) (hr : Room (k + 1) X.A) (hb : Binds X.K fd ps []) : OpR X (compareOp .NotEq) (rEqO C sp true) := by
  intro pins s σ H x y v u Q I rx ry h
  obtain ⟨a, b, dx, dy, fs, gs, rfl, rfl, ha, hb', h⟩ := h
  cases rx
  cases ry
  obtain ⟨mA, J, _⟩ := ins_get I.hok ha
  obtain ⟨mB, J', _⟩ := ins_get I.hok hb'
  obtain ⟨od, J, _⟩ := J.look
  obtain ⟨od', J', _⟩ := J'.look
  have XK := I.kIn
  show wpAny (model X.prog X.w) X.A (richCompare .NotEq (.ref a) (.ref b)) (EP X pins σ Q) X.xe s
  have body : wpAny (model X.prog X.w) X.A.in1 (callSpecialIfBound? (.ref a) "__eq__" [.ref b]) (fun r s' => ∃ c : Bool, r = some (.bool c) ∧ ∃ H', Inv X pins σ H' s' ∧ Q (.bl (!c)) H') X.xe s := by
    refine PySem.W.ifBound_K XK J hm.at_ hm.fn (thn (run_fnAt' I.env0.in1 F hr.in1 hb I (vs := [V.ref a, V.ref b]) (.cons rfl (.cons rfl .nil)) h) fun u s1 hu => ?_)
    obtain ⟨z, H1, I1, rz, c, rfl, q⟩ := hu
    cases rz
    exact ⟨c, rfl, H1, I1, q⟩
  have one : wpAny (model X.prog X.w) X.A (tryCompare (.ref a) "__ne__" (.ref b)) (fun r s' => ∃ v, r = some v ∧ EP X pins σ Q v s') X.xe s := by
    unfold tryCompare
    refine wpAny_bind (ifBound_ne XK J N.at_ (wpAny_call (codeAny_call_builtin PySem.F.cmp_object.ne.plain PySem.F.cmpEntry_ne (check_ne XK J N.mro (PySem.F.cmpArgs_ne _ _) ?_))))
    unfold Builtin.«object.__ne__»
    repeat (first | with_reducible refine wpAny_cRoomFor hr.in1.units0 ?_ | with_reducible refine thn body (fun r s' hc => ?_) | wp_step)
    obtain ⟨c, rfl, H1, I1, q⟩ := hc
    dsimp only
    refine wpAny_bind (wpAny_truthy_bool ?_)
    refine wpAny_pure ?_
    exact wpAny_pure ⟨_, rfl, .bl (!c), H1, I1, rfl, q⟩
  unfold richCompare
  simp only [oneThing_ref]
  refine wpAny_holding (wpAny_bind (wpAny_cRoomFor hr.units0 ?_))
  refine wpAny_bind (J.type.here (wpAny_bind (J'.type.here ?_)))
  split
  · rename_i q
    simp at q
  · refine wpAny_bind (wpAny_pure ?_)
    simp only [Bool.false_eq_true, if_false]
    refine wpAny_bind (wpAny_mono one (fun r s' z => ?_) fun _ _ e => e)
    obtain ⟨v, rfl, hq⟩ := z
    exact wpAny_pure hq
end
end L2
/-! what stands behind a return or is never reached; o + p by an own __add__; == of two dicts of texts and ints -/
namespace L2
open PySem PySem.Spec PyProof.Rows
theorem pss_no {X : Cx} {b : List Stmt} : PSs X b (fun _ _ _ => False) := ⟨fun _ _ _ _ _ _ h => h.elim⟩
section
variable {X : Cx} {k : Nat} {f C : Addr} {fd : FuncData} {ps : List Str} {sp : Sp}
/-- x + y by x's own __add__, y of the same class; the answer is an object -/
def rAddO (C : Addr) (sp : Sp) : R2 := fun x y H Q => ∃ a b dx dy fs gs, x = .ref a ∧ y = .ref b ∧ H a = some (.ins C dx fs) ∧ H b = some (.ins C dy gs) ∧ sp [x, y] H (fun v H' => (∃ p, v = .ref p) ∧ Q v H') E0
theorem op_addO (hc : PySem.W.selfFirst X.K C = true) (hm : Meth X.K C "__add__" f) (F : FnOk X.prog X.w X.K X.mg X.base CX0 k f fd ps sp) (hr : Room k X.A) (hb : Binds X.K fd ps []) : OpR X (binaryOp .Add) (rAddO C sp) := by
  intro pins s σ H x y v u Q I rx ry h
  obtain ⟨a, b, dx, dy, fs, gs, rfl, rfl, ha, hb', h⟩ := h
  cases rx
  cases ry
  obtain ⟨mA, J, _⟩ := ins_get I.hok ha
  obtain ⟨mB, J', _⟩ := ins_get I.hok hb'
  obtain ⟨od, J, _⟩ := J.look
  obtain ⟨od', J', _⟩ := J'.look
  obtain ⟨m, hF⟩ := I.fr
  show wpAny (model X.prog X.w) X.A (binaryOp .Add (.ref a) (.ref b)) (EP X pins σ Q) X.xe s
  refine PySem.W.binop_K (op := .Add) hF I.ok.mod.kin J J'.type hc (by exact hm.at_) hm.fn ?_
  refine thn (run_fnAt I.env0 F hr hb I (vs := [V.ref a, V.ref b]) (.cons rfl (.cons rfl .nil)) h) fun u s1 hu => ?_
  obtain ⟨z, H1, I1, rz, ⟨p, rfl⟩, q⟩ := hu
  cases rz
  exact ⟨.ref p, H1, I1, rfl, q⟩
end
/-- the pairs of a dict of texts and ints -/
def wkv (qs : List Str) (W : Str → Int) : List (Key × V) := qs.map fun a => ((Sum.inr a : Key), V.int (W a))
theorem wkv_len {qs : List Str} {W : Str → Int} : (wkv qs W).length = qs.length := List.length_map ..
theorem wkv_val {W : Str → Int} : ∀ {qs : List Str} {a : Str}, a ∈ qs → valV (wkv qs W) (Sum.inr a) = some (.int (W a))
  | [], _, h => by cases h
  | b :: r, a, h => by
    by_cases e : b = a
    · exact valV_pos (by show (Sum.inr b : Key) = Sum.inr a; rw [e]) |>.trans (by rw [e])
    · show valV (((Sum.inr b : Key), V.int (W b)) :: wkv r W) (Sum.inr a) = _
      rw [valV_neg (fun z => e (Sum.inr.inj z))]
      rcases List.mem_cons.mp h with q | q
      · exact absurd q.symm e
      · exact wkv_val q
theorem wkv_none {W : Str → Int} : ∀ {qs : List Str} {a : Str}, a ∉ qs → valV (wkv qs W) (Sum.inr a) = none
  | [], _, _ => rfl
  | b :: r, a, h => by
    show valV (((Sum.inr b : Key), V.int (W b)) :: wkv r W) (Sum.inr a) = _
    rw [valV_neg (fun z => h (by
      have e : b = a := Sum.inr.inj z
      rw [e]
      exact List.mem_cons_self))]
    exact wkv_none fun q => h (List.mem_cons_of_mem _ q)
theorem wkv_congr {W W' : Str → Int} {qs : List Str} (h : ∀ a ∈ qs, W a = W' a) : wkv qs W = wkv qs W' := by
  unfold wkv
  exact List.map_congr_left fun a ha => by rw [h a ha]
theorem wkv_keys {qs : List Str} {W : Str → Int} : (wkv qs W).map (·.1) = qs.map Sum.inr := by
  unfold wkv
  rw [List.map_map]
  rfl
/-- W with v at a -/
def setI (W : Str → Int) (a : Str) (v : Int) : Str → Int := fun z => if z = a then v else W z
theorem wkv_new {W : Str → Int} {qs : List Str} {a : Str} {v : Int} (h : a ∉ qs) : putK (wkv qs W) (Sum.inr a) (.int v) = wkv (qs ++ [a]) (setI W a v) := by
  rw [putK_new _ (wkv_none h)]
  unfold wkv
  rw [List.map_append]
  congr 1
  · exact List.map_congr_left fun z hz => by
      unfold setI
      rw [if_neg (fun e : z = a => h (e ▸ hz))]
  · unfold setI
    simp
theorem wkv_old {W : Str → Int} {qs : List Str} {a : Str} {v : Int} (h : a ∈ qs) : putK (wkv qs W) (Sum.inr a) (.int v) = wkv qs (setI W a v) := by
  have hm : ((wkv qs W).any fun kv => decide (kv.1 = Sum.inr a)) = true := by
    rw [List.any_eq_true]
    exact ⟨(Sum.inr a, .int (W a)), List.mem_map.mpr ⟨a, h, rfl⟩, by simp⟩
  unfold putK
  rw [if_pos hm]
  unfold wkv
  rw [List.map_map]
  refine List.map_congr_left fun z hz => ?_
  show (if (Sum.inr z : Key) = Sum.inr a then _ else _) = _
  unfold setI
  by_cases e : z = a
  · rw [if_pos (by rw [e]), if_pos e]
  · rw [if_neg (fun q => e (Sum.inr.inj q)), if_neg e]
/-- the weight of a name -/
def wt (qs : List Str) (W : Str → Int) (r : Int) (z : Str) : Int := if z ∈ qs then W z else r
/-- == of two such dicts -/
def eqW (ps qs : List Str) (W U : Str → Int) : Bool := decide (ps.length = qs.length) && ps.all fun p => decide (p ∈ qs) && (W p == U p)
section
variable {X : Cx} {pins : List (Addr × Obj)} {σ : St} {H : Hp} {s : Shared}
theorem hits_w {A : Around} {qs : List Str} {U W : Str → Int} {vb : List (Key × Value)} (rb : KV (wkv qs U) vb) : ∀ {ps : List Str} {va : List (Key × Value)}, KV (wkv ps W) va →
    PySem.W.KeqHitsP X.prog X.w A s vb va (ps.all fun p => decide (p ∈ qs) && (W p == U p))
  | [], va, ra => by
    unfold KV wkv at ra
    cases ra
    exact .nil
  | p :: ps, va, ra => by
    unfold KV wkv at ra
    rw [List.map_cons] at ra
    cases ra with
    | @cons _ q _ va' h t =>
      obtain ⟨h1, h2⟩ := h
      obtain ⟨key, v⟩ := q
      have h1' : (Sum.inr p : Key) = key := h1
      subst h1'
      obtain ⟨t1, rfl⟩ : ∃ t, v = Value.int (W p) t := h2
      have ih := hits_w (A := A) rb (ps := ps) (va := va') t
      rw [List.all_cons]
      have rr : RelO (valV (wkv qs U) (Sum.inr p)) (valueAt vb (Sum.inr p)) := rb.val (Sum.inr p)
      by_cases hm : p ∈ qs
      · rw [wkv_val hm] at rr
        obtain ⟨y, hy, ry⟩ := rr.some_of
        obtain ⟨t2, rfl⟩ : ∃ t, y = Value.int (U p) t := ry
        rw [decide_eq_true hm, Bool.true_and]
        exact .hit hy (SeqAt.EqAt.int_int _ _ _ _).eqP ih
      · rw [wkv_none hm] at rr
        rw [decide_eq_false hm, Bool.false_and, Bool.false_and]
        exact .miss rr.none_of
def rEqW : R2 := fun x y H Q => ∃ (a b : Addr) (ps qs : List Str) (W U : Str → Int), x = .ref a ∧ y = .ref b ∧ H a = some (.dK (wkv ps W)) ∧ H b = some (.dK (wkv qs U)) ∧ Q (.bl (eqW ps qs W U)) H
theorem op_eqW (hu : X.A.units + 64 < cLine) : OpR X (compareOp .Eq) rEqW := by
  intro pins s σ H x y v u Q I rx ry h
  obtain ⟨a, b, ps, qs, W, U, rfl, rfl, ea, eb, q⟩ := h
  obtain rfl : v = Value.ref a := rx
  obtain rfl : u = Value.ref b := ry
  obtain ⟨_, ya, va, ra, da⟩ := (show ObjOk X.prog X.w H s.heap a (.dK _) from I.hok a _ ea)
  obtain ⟨_, yb, vb, rb, db⟩ := (show ObjOk X.prog X.w H s.heap b (.dK _) from I.hok b _ eb)
  have e1 : va.length = ps.length := by rw [← ra.length, wkv_len]
  have e2 : vb.length = qs.length := by rw [← rb.length, wkv_len]
  show wpAny (model X.prog X.w) X.A (richCompare .Eq (.ref a) (.ref b)) (EP X pins σ Q) X.xe s
  refine PySem.W.rcP_dicts (knd := mixKind X.prog X.w) ya yb da db (by omega) (fun _ => hits_w (X := X) (A := X.A.in1) rb ra) _ _ ?_
  refine ⟨.bl (eqW ps qs W U), H, I, ?_, q⟩
  show Value.bool _ = Value.bool _
  unfold eqW
  rw [e1, e2]
  congr 1
end
end L2
namespace L2
open PySem
theorem wkv_snoc {W : Str → Int} {qs : List Str} {a : Str} (h : a ∉ qs) : putK (wkv qs W) (Sum.inr a) (.int (W a)) = wkv (qs ++ [a]) W := by
  rw [wkv_new h]
  refine wkv_congr fun z _ => ?_
  unfold setI
  by_cases e : z = a
  · rw [if_pos e, e]
  · rw [if_neg e]
theorem wkv_same {W : Str → Int} {qs : List Str} {a : Str} (h : a ∈ qs) : putK (wkv qs W) (Sum.inr a) (.int (W a)) = wkv qs W := by
  rw [wkv_old h]
  refine wkv_congr fun z _ => ?_
  unfold setI
  by_cases e : z = a
  · rw [if_pos e, e]
  · rw [if_neg e]
/-- what may be a scale's dict and rest -/
structure Wd (qs : List Str) (W : Str → Int) (r : Int) : Prop where
  nd : qs.Nodup
  nm : ∀ z ∈ qs, nameS z = true
  pos : ∀ z ∈ qs, 0 ≤ W z
  r0 : 0 ≤ r
  len : qs.length ≤ 50
theorem Wd.wt0 {qs : List Str} {W : Str → Int} {r : Int} (h : Wd qs W r) (z : Str) : 0 ≤ wt qs W r z := by
  unfold wt
  by_cases c : z ∈ qs
  · rw [if_pos c]
    exact h.pos z c
  · rw [if_neg c]
    exact h.r0
theorem name_len {z : Str} (h : nameS z = true) : z.length ≤ 1000 := by
  unfold nameS at h
  rw [Bool.and_eq_true, Bool.and_eq_true] at h
  have := of_decide_eq_true h.1.2
  omega
end L2
namespace Qp
open PySem L2
def fz : V → Bool
  | .int i => decide (0 ≤ i)
  | _ => false
section
variable {P : Program} {w : World} {K : PySem.W.Frag} {mg : Str → Option Value} {base : Heap}
/-- is_from_zero(value) -/
def spFZ : Sp := fun vs H Q _ => ∃ (x : V) (k : Kd), vs = [x] ∧ IsK H x k ∧ Q (.bl (fz x)) H
theorem ok_fz {f : Addr} {fd : FuncData} (F : Fun K "is_from_zero" "is_from_zero" sisfromzero f fd) (B : Bl mg) : FnOk P w K mg base CX0 1 f fd ["value"] spFZ := by
  refine F.ok scisfromzero (fun vs H Q E h => ?_) (fun cdv A outer s H vs Q E hr h => ?_)
  · obtain ⟨x, k, rfl, _⟩ := h
    rfl
  · obtain ⟨x, k, rfl, ik, kq⟩ := h
    refine ⟨_, pss_one (ps_ret (pe_and (pe_isi kit_int B.isi B.int (pv 0)) (pe_and (pe_not (pe_isi kit_bool B.isi B.bool (pv 0))) (pe_one (pe_cmpR op_ge (pv 0) pe_int (nomark _)))))), ?_⟩
    refine ⟨_, rfl, x, k, rfl, ik, _, rfl, ?_⟩
    cases ik with
    | int i => exact iteT ⟨_, rfl, _, _, rfl, .int i, _, rfl, _, rfl, iteT ⟨_, rfl, i, 0, rfl, rfl, kq⟩⟩
    | bl b => exact iteT ⟨_, rfl, _, _, rfl, .bl b, _, rfl, _, rfl, iteF kq⟩
    | _ => exact iteF kq
/-- _check_weights(weights, rest), which are right -/
def spCkw : Sp := fun vs H Q _ => ∃ (d : Addr) (r : Int) (qs : List Str) (W : Str → Int), vs = [.ref d, .int r] ∧ H d = some (.dK (wkv qs W)) ∧ Wd qs W r ∧ ∀ H', Same H H' → Q .non H'
theorem ok_ckw {f : Addr} {fd : FuncData} (F : Fun K "_check_weights" "_check_weights" scheckweights f fd) (B : Bl mg) (cN : CF P w K mg base CX0 1 "is_name" ["value"] spIsName) (cZ : CF P w K mg base CX0 1 "is_from_zero" ["value"] spFZ) :
    FnOk P w K mg base CX0 2 f fd ["weights", "rest"] spCkw := by
  refine F.ok sccheckweights (fun vs H Q E h => ?_) (fun cdv A outer s H vs Q E hr h => ?_)
  · obtain ⟨d, r, qs, W, rfl, _⟩ := h
    rfl
  · obtain ⟨d, r, qs, W, rfl, hd, hW, kq⟩ := h
    have hu := hu_of hr
    have esz : sizeLine = 16777216 := sizeLine_eq
    have hlen := hW.len
    refine ⟨_, pss_cons (ps_if (PW.pt (pw_or (pt_not (pt_val (pe_isi kit_dict B.isi B.dct (pv 0)))) (pw_or (pt_not (pt_val (pe_callB (cr_all rfl) (by rfl) B.all (by decide +kernel) (pa_cons (pe_lock (pe_lc (own := [("name", 2)]) (g := gName 2) (tt := tYes) rfl sccheckweights.nd (pi_keys (pv 0)) (blkOk_by (own := [("name", 2)]) (N := ["weights", "rest", "name"]) (sc := defScope scheckweights) (by decide +kernel))
          (fun _ _ _ _ _ => pg_name (i := 2) sccheckweights.nd rfl (Or.inl rfl)) (fun _ _ _ _ _ => pts_nil) (fun _ _ _ _ _ => pe_cf cN hr pass0 (pa_cons (pv 2) pa_nil)))) pa_nil)))) (pw_or1 (pt_not (pt_val (pe_cf cZ hr pass0 (pa_cons (pv 1) pa_nil))))))))
        pss_no pss_nil)
      (pss_one (ps_for PassesOwn.never rfl (pi_list (pe_callB (call_sortedD rfl) (by rfl) B.srt (by decide +kernel) (pa_cons (pv 0) pa_nil))) (pg_name (i := 2) sccheckweights.nd rfl (Or.inl rfl))
        (pss_one (ps_if (pt_not (pt_val (pe_cf cZ hr pass0 (pa_cons (pe_dget hu (pv 0) (pv 2) (fun _ _ => rfl)) pa_nil)))) pss_no pss_nil)))), ?_⟩
    refine ⟨_, rfl, _, .dct, rfl, .dct hd, _, rfl, iteF ?_⟩
    refine ⟨d, _, hd, True.intro, fun od => ?_⟩
    have hf : (upd H d (.frz od (.dK (wkv qs W)))) d = some (.frz od (.dK (wkv qs W))) := upd_same
    have back : ∀ H', Same (upd H d (.frz od (.dK (wkv qs W)))) H' → Same H (upd H' d (.dK (wkv qs W))) := fun H' s b o e => by
      by_cases hb : b = d
      · rw [hb, upd_same]
        rw [hb, hd] at e
        exact e
      · rw [upd_ne hb]
        exact s _ _ (by rw [upd_ne hb]; exact e)
    generalize hHL : upd H d (.frz od (.dK (wkv qs W))) = HL at hf back
    refine ⟨_, rfl, d, od, rfl, .inl ⟨_, hf, fun D hD => lc_it walk_keys (fun i H' => Same HL H' ∧ H' D = some (.lst (((qs.take i).map fun _ => true).map V.bl))) ⟨Same.new hD, upd_same⟩ (fun i H' _ z => z.1 _ _ hf) ?_ ?_⟩⟩
    · rintro i x Hx H1 hi ⟨s1, hD1⟩ ⟨rfl, kk, v, hk, rfl⟩
      rw [wkv_len] at hi
      unfold wkv at hk
      rw [List.getElem?_map] at hk
      cases ea : qs[i]? with
      | none => rw [ea] at hk; cases hk
      | some q =>
        rw [ea] at hk
        cases hk
        have hq : q ∈ qs := List.mem_of_getElem? ea
        have nq := hW.nm q hq
        refine ⟨rfl, lcTurn ⟨_, rfl, .str q, .str, rfl, .str q, fun z e => by cases e; exact name_len nq, fun H2 s2 => ⟨_, s2 _ _ hD1, ?_, fun b' o' e' => ?_, ?_⟩⟩⟩
        · rw [List.length_map, List.length_map, List.length_take]
          omega
        · rw [upd_ne (ne_of_none e' hD)]
          exact s2 _ _ (s1 _ _ e')
        · rw [upd_same, take_snoc ea, List.map_append, List.map_append]
          show some (HO.lst (_ ++ [V.bl (nameS q)])) = _
          rw [nq]
          rfl
    · rintro H1 ⟨s1, hD1⟩
      rw [wkv_len, List.take_of_length_le (Nat.le_refl _)] at hD1
      have nDd : D ≠ d := Ne.symm (ne_of_none hf hD)
      have s2 := back H1 s1
      refine ⟨s1 _ _ hf, D, qs.map fun _ => true, rfl, SqL.of (by rw [upd_ne nDd]; exact hD1), _, rfl, ?_⟩
      have eb : (qs.map fun _ => true).all id = true := by
        rw [List.all_eq_true]
        intro b hb
        obtain ⟨_, _, rfl⟩ := List.mem_map.mp hb
        rfl
      rw [eb]
      refine iteF ?_
      generalize upd H1 d (.dK (wkv qs W)) = H2 at s2
      have hd2 := s2 _ _ hd
      have e0 : fz (.int r) = true := decide_eq_true hW.r0
      refine ⟨_, rfl, .int r, .int, rfl, .int r, _, rfl, ?_⟩
      rw [e0]
      refine iteF ?_
      refine ⟨_, rfl, d, wkv qs W, qs, rfl, .inl hd2, wkv_keys, by omega, fun ys l hys hso hl => ⟨l, rfl, ⟨_, SqL.of upd_same⟩, ?_⟩⟩
      have s3 : Same H (upd H2 l (.lst (ys.map V.str))) := s2.trans (Same.new hl)
      have el : (upd H2 l (.lst (ys.map V.str))) l = some (.lst (ys.map V.str)) := upd_same
      generalize upd H2 l (.lst (ys.map V.str)) = H3 at s3 el
      refine for_it (walk_list (xs := ys.map V.str)) (fun i σ H' => ∃ (v2 : Option V), σ = [some (.ref d), some (.int r), v2] ∧ Same H3 H') ⟨none, rfl, Same.refl _⟩ (fun i σ H' _ ⟨_, _, s⟩ => SqL.of (s _ _ el)) ?_ ?_
      · rintro i y σ Hx H4 hi ⟨v2, rfl, s4⟩ ⟨rfl, hy⟩
        rw [List.length_map] at hi
        rw [List.getElem?_map] at hy
        cases ea : ys[i]? with
        | none => rw [ea] at hy; cases hy
        | some a =>
          rw [ea] at hy
          cases hy
          have ham : a ∈ qs := hys.mem_iff.mp (List.mem_of_getElem? ea)
          have e1 : fz (.int (W a)) = true := decide_eq_true (hW.pos a ham)
          refine ⟨_, rfl, _, rfl, d, _, rfl, by rw [← wkv_val (W := W) ham]; exact DGet.k (k := Sum.inr a) ((s3.trans s4) _ _ hd), .int (W a), .int, rfl, .int _, _, rfl, ?_⟩
          rw [e1]
          exact iteF ⟨_, rfl, s4⟩
      · rintro σ H4 ⟨v2, rfl, s4⟩
        exact kq _ (s3.trans s4)
end
/-- a scale's attributes -/
def sF (d : Addr) (r : Int) : List (Str × V) := putF "_rest" (.int r) (putF "_weights" (.ref d) [])
theorem sn12 : ¬ ("_rest" : Str) = "_weights" := by decide +kernel
theorem sF_w (d : Addr) (r : Int) : (sF d r).lookup ("_weights" : Str) = some (.ref d) := by
  unfold sF
  rw [lookup_putF, if_neg (fun z => sn12 z.symm), lookup_putF, if_pos rfl]
theorem sF_r (d : Addr) (r : Int) : (sF d r).lookup ("_rest" : Str) = some (.int r) := by
  unfold sF
  rw [lookup_putF, if_pos rfl]
theorem sF_no (d : Addr) (r : Int) {m : Str} (h1 : ¬ m = "_weights") (h2 : ¬ m = "_rest") : (sF d r).lookup m = none := by
  unfold sF
  rw [lookup_putF, if_neg h2, lookup_putF, if_neg h1]
  rfl
/-- a Scale stands at p -/
def ScaleAt (C : Addr) (H : Hp) (p : Addr) (qs : List Str) (W : Str → Int) (r : Int) : Prop := ∃ dx d, H p = some (.ins C dx (sF d r)) ∧ H d = some (.dK (wkv qs W))
structure STxt (K : PySem.W.Frag) (mg : Str → Option Value) (C : Addr) : Prop where
  cl : Cls K C
  n1 : NoAttr K C "_weights"
  n2 : NoAttr K C "_rest"
  mgC : mg "Scale" = some (.ref C)
theorem ScaleAt.same {C : Addr} {H H' : Hp} {p : Addr} {qs : List Str} {W : Str → Int} {r : Int} (s : Same H H') (h : ScaleAt C H p qs W r) : ScaleAt C H' p qs W r := by
  obtain ⟨dx, d, e1, e2⟩ := h
  exact ⟨dx, d, s _ _ e1, s _ _ e2⟩
/-- the names that a scale keeps -/
def kept (qs : List Str) (W : Str → Int) (r : Int) : List Str := qs.filter fun z => !decide (W z = r)
section
variable {P : Program} {w : World} {K : PySem.W.Frag} {mg : Str → Option Value} {base : Heap}
/-- Scale.__init__(self, weights, rest), which are right -/
def spSI (C : Addr) : Sp := fun vs H Q _ => ∃ (p dx d : Addr) (r : Int) (qs : List Str) (W : Str → Int), vs = [.ref p, .ref d, .int r] ∧ H p = some (.ins C dx []) ∧ H d = some (.dK (wkv qs W)) ∧ Wd qs W r ∧
  ∀ H' d2, SameBut p H H' → H d2 = none → H' p = some (.ins C dx (sF d2 r)) → H' d2 = some (.dK (wkv (kept qs W r) W)) → Q .non H'
abbrev SInit (K : PySem.W.Frag) (f : Addr) (fd : FuncData) : Prop := FunD K "__init__" "Scale.__init__" (defArgs sScaleinit) (defBody sScaleinit) (defScope sScaleinit) [] [("rest", .int 1)] f fd
theorem ok_si {f C : Addr} {fd : FuncData} (F : SInit K f fd) (T : STxt K mg C) (cC : CF P w K mg base CX0 2 "_check_weights" ["weights", "rest"] spCkw) : FnOk P w K mg base CX0 3 f fd ["self", "weights", "rest"] (spSI C) := by
  refine F.ok scScaleinit (fun vs H Q E h => ?_) (fun cdv A outer s H vs Q E hr h => ?_)
  · obtain ⟨p, dx, d, r, qs, W, rfl, _⟩ := h
    rfl
  · obtain ⟨p, dx, d, r, qs, W, rfl, hp, hd, hW, kq⟩ := h
    have hu := hu_of hr
    have esz : sizeLine = 16777216 := sizeLine_eq
    have hlen := hW.len
    refine ⟨_, pss_cons (ps_expr (pe_cf cC hr pass0 (pa_cons (pv 1) (pa_cons (pv 2) pa_nil))))
      (pss_cons (ps_fld (pv 0) (pe_lock (pe_dc (own := [("name", 3)]) (g := gName 3) rfl scScaleinit.nd (pi_keys (pv 1)) (blkOk_by (own := [("name", 3)]) (N := ["self", "weights", "rest", "name"]) (sc := defScope sScaleinit) (by decide +kernel))
        (fun _ _ _ _ _ => pg_name (i := 3) scScaleinit.nd rfl (Or.inl rfl)) (fun _ _ _ _ _ => pts_one (pt_cmpR op_ne (pe_dget hu (pv 1) (pv 3) (fun _ _ => rfl)) (pv 2) (nomark _))) (fun _ _ _ _ _ => pv 3)
        (fun _ _ _ _ _ => pe_dget hu (pv 1) (pv 3) (fun _ _ => rfl)))) rfl)
      (pss_one (ps_fld (pv 0) (pv 2) rfl))), ?_⟩
    refine ⟨_, rfl, _, rfl, d, r, qs, W, rfl, hd, hW, fun H1 s1 => ?_⟩
    have hd1 := s1 _ _ hd
    have hp1 := s1 _ _ hp
    refine ⟨d, _, hd1, True.intro, fun od => ?_⟩
    have ndp : d ≠ p := ne_of hd hp (by intro z; cases z)
    have hf : (upd H1 d (.frz od (.dK (wkv qs W)))) d = some (.frz od (.dK (wkv qs W))) := upd_same
    have back : ∀ H', Same (upd H1 d (.frz od (.dK (wkv qs W)))) H' → Same H1 (upd H' d (.dK (wkv qs W))) := fun H' s b o e => by
      by_cases hb : b = d
      · rw [hb, upd_same]
        rw [hb, hd1] at e
        exact e
      · rw [upd_ne hb]
        exact s _ _ (by rw [upd_ne hb]; exact e)
    generalize hHL : upd H1 d (.frz od (.dK (wkv qs W))) = HL at hf back
    refine ⟨_, rfl, d, od, rfl, .inl ⟨_, hf, fun D hD => dc_it walk_keys (fun i H' => Same HL H' ∧ H' D = some (.dK (wkv (kept (qs.take i) W r) W))) ⟨Same.new hD, upd_same⟩ (fun i H' _ z => z.1 _ _ hf) ?_ ?_⟩⟩
    · rintro i x Hx H2 hi ⟨s2, hD2⟩ ⟨rfl, kk, v, hk, rfl⟩
      rw [wkv_len] at hi
      unfold wkv at hk
      rw [List.getElem?_map] at hk
      cases ea : qs[i]? with
      | none => rw [ea] at hk; cases hk
      | some a =>
        rw [ea] at hk
        cases hk
        have ha : a ∈ qs := List.mem_of_getElem? ea
        have gd : DGet H2 d (.str a) (some (.int (W a))) := .inl ⟨_, Sum.inr a, .inr ⟨od, s2 _ _ hf⟩, rfl, (wkv_val ha).symm⟩
        refine ⟨rfl, _, rfl, _, rfl, d, _, rfl, gd, _, rfl, rfl, _, rfl, ?_⟩
        have et : kept (qs.take (i + 1)) W r = kept (qs.take i) W r ++ (if W a = r then [] else [a]) := by
          unfold kept
          rw [take_snoc ea, List.filter_append]
          congr 1
          by_cases c : W a = r
          · rw [if_pos c, List.filter_cons_of_neg (by simp [c])]
            rfl
          · rw [if_neg c, List.filter_cons_of_pos (by simp [c])]
            rfl
        have nk : a ∉ kept (qs.take i) W r := fun z => not_mem_take hW.nd ea (List.mem_filter.mp z).1
        have lk : (kept (qs.take i) W r).length ≤ 50 := by
          have h1 := List.length_filter_le (fun z => !decide (W z = r)) (qs.take i)
          rw [List.length_take] at h1
          unfold kept
          omega
        by_cases c : W a = r
        · rw [if_pos c, List.append_nil] at et
          refine (if_neg (by simp [c])).mpr ⟨s2, ?_⟩
          rw [et]
          exact hD2
        · rw [if_neg c] at et
          refine (if_pos (by simp [c])).mpr ⟨_, rfl, _, rfl, _, rfl, d, _, rfl, gd, _, Sum.inr a, rfl, hD2, by rw [wkv_len]; omega, fun b o e => ?_, ?_⟩
          · rw [upd_ne (ne_of_none e hD)]
            exact s2 _ _ e
          · rw [upd_same, et, wkv_snoc nk]
    · rintro H2 ⟨s2, hD2⟩
      rw [wkv_len, List.take_of_length_le (Nat.le_refl _)] at hD2
      have nDd : D ≠ d := Ne.symm (ne_of_none hf hD)
      have s3 := back H2 s2
      have hD3 : (upd H2 d (.dK (wkv qs W))) D = some (.dK (wkv (kept qs W r) W)) := by rw [upd_ne nDd]; exact hD2
      refine ⟨s2 _ _ hf, ?_⟩
      generalize upd H2 d (.dK (wkv qs W)) = H3 at s3 hD3
      have hp3 := s3 _ _ hp1
      have nDp : D ≠ p := ne_of hD3 hp3 (by intro z; cases z)
      have l1 := length_putF "_weights" (V.ref D) []
      refine ⟨_, rfl, p, C, dx, _, rfl, hp3, T.cl, T.n1, (by show 0 < 1000; decide), ?_⟩
      refine ⟨_, rfl, _, rfl, p, C, dx, _, rfl, upd_same, T.cl, T.n2, Nat.lt_of_le_of_lt l1 (by show 1 < 1000; decide), ?_⟩
      refine kq _ D ?_ ?_ upd_same (by rw [upd_ne nDp, upd_ne nDp]; exact hD3)
      · exact (((s1.trans s3).but p).trans SameBut.set).trans SameBut.set
      · cases eo : H D with
        | none => rfl
        | some o =>
          have q := s1 _ _ eo
          have q2 : HL D = some o := by rw [← hHL, upd_ne nDd]; exact q
          rw [hD] at q2
          cases q2
/-- scale.weight(name) -/
def spWm (C : Addr) : Sp := fun vs H Q _ => ∃ (p : Addr) (z : Str) (qs : List Str) (W : Str → Int) (r : Int), vs = [.ref p, .str z] ∧ ScaleAt C H p qs W r ∧ Q (.int (wt qs W r z)) H
theorem ok_wm {f C : Addr} {fd : FuncData} (F : Fun K "weight" "Scale.weight" sScaleweight f fd) (T : STxt K mg C) : FnOk P w K mg base CX0 1 f fd ["self", "name"] (spWm C) := by
  refine F.ok scScaleweight (fun vs H Q E h => ?_) (fun cdv A outer s H vs Q E hr h => ?_)
  · obtain ⟨p, z, qs, W, r, rfl, _⟩ := h
    rfl
  · obtain ⟨p, z, qs, W, r, rfl, ⟨dx, d, hp, hd⟩, kq⟩ := h
    have hu := hu_of hr
    refine ⟨_, pss_one (ps_ret (pe_dget2 hu (pe_fld (pv 0) rfl) (pv 1) (pe_fld (pv 0) rfl) ⟨rfl, rfl, rfl, rfl⟩)), ?_⟩
    refine ⟨_, rfl, p, C, dx, _, _, rfl, hp, T.cl, T.n1, sF_w _ _, d, rfl, .inl ⟨_, .inl hd⟩, _, rfl, _, rfl, p, C, dx, _, _, rfl, hp, T.cl, T.n2, sF_r _ _, _, DGet.k (k := Sum.inr z) hd, ?_⟩
    unfold wt at kq
    by_cases c : z ∈ qs
    · rw [if_pos c] at kq
      rw [wkv_val c]
      exact kq
    · rw [if_neg c] at kq
      rw [wkv_none c]
      exact kq
/-- scale == scale -/
def spSEq (C : Addr) : Sp := fun vs H Q _ => ∃ (p q : Addr) (ps qs : List Str) (W U : Str → Int) (r t : Int), vs = [.ref p, .ref q] ∧ ScaleAt C H p ps W r ∧ ScaleAt C H q qs U t ∧ Q (.bl (decide (r = t) && eqW ps qs W U)) H
theorem ok_seq {f C : Addr} {fd : FuncData} (F : Fun K "__eq__" "Scale.__eq__" sScaleeq f fd) (B : Bl mg) (T : STxt K mg C) (IC : C8.InsC K C) : FnOk P w K mg base CX0 1 f fd ["self", "other"] (spSEq C) := by
  refine F.ok scScaleeq (fun vs H Q E h => ?_) (fun cdv A outer s H vs Q E hr h => ?_)
  · obtain ⟨p, q, ps, qs, W, U, r, t, rfl, _⟩ := h
    rfl
  · obtain ⟨p, q, ps, qs, W, U, r, t, rfl, ⟨dx, d, hp, hd⟩, ⟨dy, e, hq, he⟩, kq⟩ := h
    have hu := hr.units
    refine ⟨_, pss_one (ps_ret (pe_and (pe_callB (C8.call_isC IC) (by rfl) B.isi (by decide +kernel) (pa_cons (pv 1) (pa_cons (C8.pe_gc (v := .ref C) rfl ⟨_, T.mgC, rfl⟩) pa_nil)))
      (pe_and (pe_cmpR op_eq (pe_fld (pv 0) rfl) (pe_fld (pv 1) rfl) (nomark _)) (pe_one (pe_cmpR (op_eqW hu) (pe_fld (pv 0) rfl) (pe_fld (pv 1) rfl) (nomark _)))))), ?_⟩
    refine ⟨_, rfl, q, dy, _, rfl, hq, true, rfl, iteT ?_⟩
    refine ⟨_, rfl, p, C, dx, _, _, rfl, hp, T.cl, T.n2, sF_r _ _, _, rfl, q, C, dy, _, _, rfl, hq, T.cl, T.n2, sF_r _ _, rfl, _, rfl, ?_⟩
    have ev : decide ((V.int r) = V.int t) = decide (r = t) := by simp
    rw [ev]
    by_cases c : r = t
    · rw [decide_eq_true c] at kq ⊢
      rw [Bool.true_and] at kq
      exact iteT ⟨_, rfl, p, C, dx, _, _, rfl, hp, T.cl, T.n1, sF_w _ _, _, rfl, q, C, dy, _, _, rfl, hq, T.cl, T.n1, sF_w _ _, d, e, ps, qs, W, U, rfl, rfl, hd, he, kq⟩
    · rw [decide_eq_false c] at kq ⊢
      rw [Bool.false_and] at kq
      exact iteF kq
end
end Qp
namespace Qp
open PySem L2
theorem wt_kept {qs : List Str} {W : Str → Int} {r : Int} {z : Str} : wt (kept qs W r) W r z = wt qs W r z := by
  unfold wt kept
  by_cases c : z ∈ qs
  · rw [if_pos c]
    by_cases e : W z = r
    · rw [if_neg (fun m => by simpa [e] using (List.mem_filter.mp m).2), e]
    · rw [if_pos (List.mem_filter.mpr ⟨c, by simp [e]⟩)]
  · rw [if_neg c, if_neg (fun m => c (List.mem_filter.mp m).1)]
theorem kept_nd {qs : List Str} {W : Str → Int} {r : Int} (h : qs.Nodup) : (kept qs W r).Nodup := h.filter _
theorem kept_ne {qs : List Str} {W : Str → Int} {r : Int} : ∀ z ∈ kept qs W r, W z ≠ r := fun z m => by simpa using (List.mem_filter.mp m).2
theorem kept_sub {qs : List Str} {W : Str → Int} {r : Int} : ∀ z ∈ kept qs W r, z ∈ qs := fun z m => (List.mem_filter.mp m).1
theorem _root_.L2.Wd.kept {qs : List Str} {W : Str → Int} {r : Int} (h : Wd qs W r) : Wd (Qp.kept qs W r) W r :=
  ⟨kept_nd h.nd, fun z m => h.nm z (kept_sub z m), fun z m => h.pos z (kept_sub z m), h.r0, Nat.le_trans (List.length_filter_le _ _) h.len⟩
/-- equal scales have equal dicts -/
theorem eqW_iff {k1 k2 : List Str} {W U : Str → Int} {r : Int} (n1 : k1.Nodup) (n2 : k2.Nodup) (c1 : ∀ z ∈ k1, W z ≠ r) (c2 : ∀ z ∈ k2, U z ≠ r) : eqW k1 k2 W U = true ↔ ∀ z, wt k1 W r z = wt k2 U r z := by
  unfold eqW
  rw [Bool.and_eq_true, decide_eq_true_iff, List.all_eq_true]
  constructor
  · rintro ⟨hl, ha⟩ z
    have sub : ∀ z ∈ k1, z ∈ k2 ∧ W z = U z := fun z m => by
      have q := ha z m
      rw [Bool.and_eq_true] at q
      exact ⟨of_decide_eq_true q.1, by simpa using q.2⟩
    have bus : ∀ z ∈ k2, z ∈ k1 := fun z m => by
      apply Classical.byContradiction
      intro c
      have q := nodup_sub_length (l := z :: k1) (m := k2) (List.nodup_cons.mpr ⟨c, n1⟩) fun y hy => by
        rcases List.mem_cons.mp hy with e | hy
        · rw [e]; exact m
        · exact (sub y hy).1
      rw [List.length_cons] at q
      omega
    unfold wt
    by_cases c : z ∈ k1
    · rw [if_pos c, if_pos (sub z c).1, (sub z c).2]
    · rw [if_neg c, if_neg (fun m => c (bus z m))]
  · intro h
    have sub : ∀ z ∈ k1, z ∈ k2 ∧ W z = U z := fun z m => by
      have q := h z
      unfold wt at q
      rw [if_pos m] at q
      by_cases c : z ∈ k2
      · rw [if_pos c] at q
        exact ⟨c, q⟩
      · rw [if_neg c] at q
        exact absurd q (c1 z m)
    have bus : ∀ z ∈ k2, z ∈ k1 := fun z m => by
      have q := h z
      unfold wt at q
      rw [if_pos m] at q
      by_cases c : z ∈ k1
      · exact c
      · rw [if_neg c] at q
        exact absurd q.symm (c2 z m)
    refine ⟨Nat.le_antisymm (nodup_sub_length n1 fun z m => (sub z m).1) (nodup_sub_length n2 bus), fun z m => ?_⟩
    rw [Bool.and_eq_true]
    exact ⟨decide_eq_true (sub z m).1, by simpa using (sub z m).2⟩
theorem wkv_strs {qs : List Str} {W : Str → Int} : ((wkv qs W).map fun kv => kV kv.1) = qs.map V.str := by
  unfold wkv
  rw [List.map_map]
  rfl
structure MF (P : Program) (w : World) (K : PySem.W.Frag) (mg : Str → Option Value) (base : Heap) (k : Nat) (C : Addr) (m : Str) (ps : List Str) (sp : Sp) : Prop where
  ex : ∃ f fd, FnOk P w K mg base CX0 k f fd ps sp ∧ Meth K C m f ∧ Binds K fd ps []
section
variable {P : Program} {w : World} {K : PySem.W.Frag} {mg : Str → Option Value} {base : Heap}
/-- scale + scale -/
def spSAdd (C : Addr) : Sp := fun vs H Q _ => ∃ (p q : Addr) (ps qs : List Str) (W U : Str → Int) (r t : Int), vs = [.ref p, .ref q] ∧ ScaleAt C H p ps W r ∧ ScaleAt C H q qs U t ∧ Wd ps W r ∧ Wd qs U t ∧ ps.length + qs.length ≤ 50 ∧
  ∀ x H' ds T, Same H H' → ScaleAt C H' x (kept ds T (r + t)) T (r + t) → Wd ds T (r + t) → (∀ z, wt ds T (r + t) z = wt ps W r z + wt qs U t z) → Q (.ref x) H'
/-- what the making of a Scale asks -/
structure SMk (P : Program) (w : World) (K : PySem.W.Frag) (mg : Str → Option Value) (base : Heap) (C : Addr) : Prop where
  ex : ∃ f fd g ds, Mk K C f ∧ FnOk P w K mg base CX0 3 f fd ["self", "weights", "rest"] (spSI C) ∧ KBn K fd ["self", "weights", "rest"] 2 ["rest"] g (fun vs zs => vs ++ zs) ∧ Vals [V.int 1] ds ∧ Binds K fd ["self", "weights", "rest"] ds
theorem ok_sadd {f C : Addr} {fd : FuncData} (F : Fun K "__add__" "Scale.__add__" sScaleadd f fd) (B : Bl mg) (T : STxt K mg C) (mW : MF P w K mg base 1 C "weight" ["self", "name"] (spWm C)) (mk : SMk P w K mg base C) : FnOk P w K mg base CX0 5 f fd ["self", "other"] (spSAdd C) := by
  obtain ⟨fW, fdW, FW, MW, bW⟩ := mW.ex
  obtain ⟨fS, fdS, g, ds0, M, FS, KB, _, _⟩ := mk.ex
  refine F.ok scScaleadd (fun vs H Q E h => ?_) (fun cdv A outer s H vs Q E hr h => ?_)
  · obtain ⟨p, q, ps, qs, W, U, r, t, rfl, _⟩ := h
    rfl
  · obtain ⟨p, q, ps, qs, W, U, r, t, rfl, ⟨dx, d, hp, hd⟩, ⟨dy, e, hq, he⟩, w1, w2, hlen, kq⟩ := h
    have hu := hu_of hr
    have hr1 : Room 1 _ := hr.mono (by decide)
    have esz : sizeLine = 16777216 := sizeLine_eq
    refine ⟨_, pss_cons (ps_set (i := 2) scScaleadd.nd rfl (Or.inl rfl) (pe_op op_cat (pe_callTy (call_listD rfl) (by rfl) B.lst (by decide +kernel) (pa_cons (pe_fld (pv 0) rfl) pa_nil)) (pe_callTy (call_listD rfl) (by rfl) B.lst (by decide +kernel) (pa_cons (pe_fld (pv 1) rfl) pa_nil))))
      (pss_one (ps_ret (pe_makeK (n := 1) (ks := ["rest"]) (gV := fun vs zs => vs ++ zs) M FS hr rfl T.mgC KB pass0 (pa_cons (pe_dc (own := [("name", 3)]) (g := gName 3) (tt := tYes) rfl scScaleadd.nd (pi_list (pv 2)) (blkOk_by (own := [("name", 3)]) (N := ["self", "other", "names", "name"]) (sc := defScope sScaleadd) (by decide +kernel))
        (fun _ _ _ _ _ => pg_name (i := 3) scScaleadd.nd rfl (Or.inl rfl)) (fun _ _ _ _ _ => pts_nil) (fun _ _ _ _ _ => pv 3)
        (fun _ _ _ _ _ => pe_op op_add (pe_meth (pv 0) T.cl MW FW hr1 bW .nil pass0 (pa_cons (pv 3) pa_nil)) (pe_meth (pv 1) T.cl MW FW hr1 bW .nil pass0 (pa_cons (pv 3) pa_nil)))) pa_nil)
        (pk_cons (pe_op op_add (pe_fld (pv 0) rfl) (pe_fld (pv 1) rfl)) pk_nil)))), ?_⟩
    refine ⟨_, rfl, p, C, dx, _, _, rfl, hp, T.cl, T.n1, sF_w _ _, d, _, rfl, .inl hd, fun l1 n1 => ?_⟩
    have s1 : Same H (upd H l1 (.lst ((wkv ps W).map fun kv => kV kv.1))) := Same.new n1
    have e1 : (upd H l1 (.lst ((wkv ps W).map fun kv => kV kv.1))) l1 = some (.lst (ps.map V.str)) := by rw [upd_same, wkv_strs]
    generalize upd H l1 (.lst ((wkv ps W).map fun kv => kV kv.1)) = H1 at s1 e1
    refine ⟨_, rfl, q, C, dy, _, _, rfl, s1 _ _ hq, T.cl, T.n1, sF_w _ _, e, _, rfl, .inl (s1 _ _ he), fun l2 n2 => ?_⟩
    have s2 : Same H1 (upd H1 l2 (.lst ((wkv qs U).map fun kv => kV kv.1))) := Same.new n2
    have e2 : (upd H1 l2 (.lst ((wkv qs U).map fun kv => kV kv.1))) l2 = some (.lst (qs.map V.str)) := by rw [upd_same, wkv_strs]
    generalize upd H1 l2 (.lst ((wkv qs U).map fun kv => kV kv.1)) = H2 at s2 e2
    refine ⟨l1, l2, _, _, rfl, rfl, s2 _ _ e1, e2, by rw [List.length_map, List.length_map]; omega, fun l3 n3 => ?_⟩
    have s3 : Same H2 (upd H2 l3 (.lst (ps.map V.str ++ qs.map V.str))) := Same.new n3
    have e3 : (upd H2 l3 (.lst (ps.map V.str ++ qs.map V.str))) l3 = some (.lst ((ps ++ qs).map V.str)) := by rw [upd_same, List.map_append]
    generalize upd H2 l3 (.lst (ps.map V.str ++ qs.map V.str)) = H3 at s3 e3
    have s03 : Same H H3 := (s1.trans s2).trans s3
    generalize hT : (fun z => wt ps W r z + wt qs U t z) = S
    have hS : ∀ z, S z = wt ps W r z + wt qs U t z := fun z => by rw [← hT]
    refine ⟨_, rfl, l3, rfl, ⟨_, SqL.of e3⟩, fun D hD => dc_it (walk_list (xs := (ps ++ qs).map V.str)) (fun i H' => Same H3 H' ∧ ∃ ds : List Str, ds.Nodup ∧ (∀ z, z ∈ ds ↔ z ∈ (ps ++ qs).take i) ∧ H' D = some (.dK (wkv ds S))) ⟨Same.new hD, [], .nil, by simp, upd_same⟩ (fun i H' _ z => SqL.of (z.1 _ _ e3)) ?_ ?_⟩
    · rintro i x Hx H4 hi ⟨s4, ds, nd, hds, eD⟩ ⟨rfl, hx⟩
      rw [List.length_map] at hi
      rw [List.getElem?_map] at hx
      cases ea : (ps ++ qs)[i]? with
      | none => rw [ea] at hx; cases hx
      | some a =>
        rw [ea] at hx
        cases hx
        have s04 := s03.trans s4
        have ldd : ds.length ≤ 50 := by
          have q := nodup_sub_length nd fun z m => List.mem_of_mem_take ((hds z).mp m)
          rw [List.length_append] at q
          omega
        have tk : (ps ++ qs).take (i + 1) = (ps ++ qs).take i ++ [a] := take_snoc ea
        refine ⟨rfl, dcTurn ⟨_, rfl, _, rfl, p, dx, _, rfl, s04 _ _ hp, sF_no _ _ (by decide +kernel) (by decide +kernel), _, rfl, p, a, ps, W, r, rfl, ⟨dx, d, s04 _ _ hp, s04 _ _ hd⟩, _, rfl, q, dy, _, rfl, s04 _ _ hq, sF_no _ _ (by decide +kernel) (by decide +kernel), _, rfl, q, a, qs, U, t, rfl, ⟨dy, e, s04 _ _ hq, s04 _ _ he⟩,
          _, _, rfl, rfl, _, Sum.inr a, rfl, eD, by rw [wkv_len]; omega, fun b o eb => ?_, ?_⟩⟩
        · rw [upd_ne (ne_of_none eb hD)]
          exact s4 _ _ eb
        · show ∃ dt : List Str, dt.Nodup ∧ (∀ z, z ∈ dt ↔ z ∈ (ps ++ qs).take (i + 1)) ∧ upd H4 D (.dK (putK (wkv ds S) (Sum.inr a) (V.int (wt ps W r a + wt qs U t a)))) D = some (.dK (wkv dt S))
          rw [← hS a]
          by_cases c : a ∈ ds
          · refine ⟨ds, nd, fun z => ?_, by rw [upd_same, wkv_same c]⟩
            rw [tk, List.mem_append, ← hds z]
            refine ⟨Or.inl, fun o => o.elim id fun m => ?_⟩
            have : z = a := by simpa using m
            rw [this]
            exact c
          · refine ⟨ds ++ [a], ?_, fun z => ?_, by rw [upd_same, wkv_snoc c]⟩
            · rw [List.nodup_append]
              refine ⟨nd, by simp, fun y hy b hb eyb => c ?_⟩
              have : b = a := by simpa using hb
              rw [← this, ← eyb]
              exact hy
            · rw [tk, List.mem_append, List.mem_append, ← hds z]
    · rintro H4 ⟨s4, ds, nd, hds, eD⟩
      rw [List.length_map, List.take_of_length_le (Nat.le_refl _)] at hds
      have s04 := s03.trans s4
      have ldd : ds.length ≤ 50 := by
        have q := nodup_sub_length nd fun z m => (hds z).mp m
        rw [List.length_append] at q
        omega
      have wd : Wd ds S (r + t) := by
        refine ⟨nd, fun z m => ?_, fun z _ => ?_, ?_, ldd⟩
        · rcases List.mem_append.mp ((hds z).mp m) with q | q
          · exact w1.nm z q
          · exact w2.nm z q
        · rw [hS]
          have := w1.wt0 z
          have := w2.wt0 z
          omega
        · have := w1.r0
          have := w2.r0
          omega
      have wz : ∀ z, wt ds S (r + t) z = wt ps W r z + wt qs U t z := fun z => by
        rw [← hS]
        have hdef : wt ds S (r + t) z = if z ∈ ds then S z else r + t := rfl
        rw [hdef]
        by_cases c : z ∈ ds
        · rw [if_pos c]
        · rw [if_neg c, hS]
          have c2 : ¬ (z ∈ ps ∨ z ∈ qs) := fun m => c ((hds z).mpr (List.mem_append.mpr m))
          have d1 : z ∉ ps := fun m => c2 (.inl m)
          have d2 : z ∉ qs := fun m => c2 (.inr m)
          unfold wt
          rw [if_neg d1, if_neg d2]
      refine ⟨_, rfl, p, C, dx, _, _, rfl, s04 _ _ hp, T.cl, T.n2, sF_r _ _, _, rfl, q, C, dy, _, _, rfl, s04 _ _ hq, T.cl, T.n2, sF_r _ _, _, _, rfl, rfl, rfl, rfl, fun x dz nx ndz nex => ?_⟩
      have nDx : D ≠ x := ne_of_none eD nx
      have nDz : D ≠ dz := ne_of_none eD ndz
      refine ⟨x, dz, D, r + t, ds, S, rfl, upd_same, by rw [upd_ne nDx, upd_ne nDz]; exact eD, wd, fun H5 d2 sb _ g1 g2 => ⟨rfl, kq x H5 ds S (fun b o eb => ?_) ⟨dz, d2, g1, g2⟩ wd wz⟩⟩
      have e4 := s04 _ _ eb
      have nbx : b ≠ x := ne_of_none e4 nx
      exact sb _ _ nbx (by rw [upd_ne nbx, upd_ne (ne_of_none e4 ndz)]; exact e4)
end
end Qp
namespace Qp
open PySem L2
theorem new2 {H : Hp} {x dz b : Addr} {o u : HO} (h : (upd (upd H dz o) x u) b = none) : H b = none := by
  by_cases c : b = x
  · rw [c, upd_same] at h
    cases h
  · rw [upd_ne c] at h
    by_cases c2 : b = dz
    · rw [c2, upd_same] at h
      cases h
    · rwa [upd_ne c2] at h
theorem butNew {st : Addr} {H H' : Hp} {D : Addr} {o : HO} (s : SameBut st H H') (h : H D = none) : SameBut st H (upd H' D o) := fun b u n e => by
  rw [upd_ne (ne_of_none e h)]
  exact s _ _ n e
theorem _root_.L2.StAt.ne {H : Hp} {st b : Addr} {o : HO} (h : StAt H st) (e : H b = some o) (n : ∀ i j, o ≠ .lst [.int i, .int j]) : b ≠ st := by
  obtain ⟨i, j, e2, _⟩ := h
  exact ne_of e e2 (n i j)
theorem _root_.L2.StAt.free {H : Hp} {st b : Addr} (h : StAt H st) (e : H b = none) : b ≠ st := by
  obtain ⟨i, j, e2, _⟩ := h
  intro z
  rw [z, e2] at e
  cases e
section
variable {P : Program} {w : World} {K : PySem.W.Frag} {mg : Str → Option Value} {base : Heap}
/-- _law_is_integer(actual) -/
def spInt : Sp := fun vs H Q _ => ∃ (x : V) (k : Kd), vs = [x] ∧ IsK H x k ∧ Q (.bl (decide (k = .int))) H
theorem ok_int {f : Addr} {fd : FuncData} (F : Fun K "_law_is_integer" "_law_is_integer" sLisinteger f fd) (B : Bl mg) : FnOk P w K mg base CX0 1 f fd ["_law_actual"] spInt := by
  refine F.ok scLisinteger (fun vs H Q E h => ?_) (fun cdv A outer s H vs Q E hr h => ?_)
  · obtain ⟨x, k, rfl, _⟩ := h
    rfl
  · obtain ⟨x, k, rfl, ik, kq⟩ := h
    refine ⟨_, pss_one (ps_ret (pe_and (pe_isi kit_int B.isi B.int (pv 0)) (pe_one (pe_not (pe_isi kit_bool B.isi B.bool (pv 0)))))), ?_⟩
    refine ⟨_, rfl, x, k, rfl, ik, _, rfl, ?_⟩
    cases k with
    | int => exact iteT ⟨_, rfl, x, _, rfl, ik, _, rfl, kq⟩
    | bl => exact iteT ⟨_, rfl, x, _, rfl, ik, _, rfl, kq⟩
    | _ => exact iteF kq
/-- _law_big(state) -/
def spBig : Sp := fun vs H Q _ => ∃ st : Addr, vs = [.ref st] ∧ StAt H st ∧ ∀ (n : Int) (H' : Hp), 0 ≤ n → SameBut st H H' → StAt H' st → Q (.int n) H'
theorem ok_big {f : Addr} {fd : FuncData} (F : Fun K "_law_big" "_law_big" sLbig f fd) (B : Bl mg) (cT : CF P w K mg base CX0 1 "_law_take" ["_law_state", "_law_many"] spTake) : FnOk P w K mg base CX0 2 f fd ["_law_state"] spBig := by
  refine F.ok scLbig (fun vs H Q E h => ?_) (fun cdv A outer s H vs Q E hr h => ?_)
  · obtain ⟨st, rfl, _⟩ := h
    rfl
  · obtain ⟨st, rfl, hst, kq⟩ := h
    refine ⟨_, pss_cons (ps_set (i := 1) scLbig.nd rfl (Or.inl rfl) (pe_cf cT hr pass0 (pa_cons (pv 0) (pa_cons pe_int pa_nil))))
      (pss_cons (ps_if (pt_cmpR op_eq (pv 1) pe_int (nomark _)) (pss_one (ps_ret pe_int)) pss_nil)
      (pss_cons (ps_if (pt_cmpR op_eq (pv 1) pe_int (nomark _)) (pss_one (ps_ret (pe_cf cT hr pass0 (pa_cons (pv 0) (pa_cons pe_int pa_nil))))) pss_nil)
      (pss_cons (ps_set (i := 2) scLbig.nd rfl (Or.inl rfl) (pe_cf cT hr pass0 (pa_cons (pv 0) (pa_cons (pe_op op_pow pe_int pe_int) pa_nil))))
      (pss_cons (ps_if (pt_cmpR op_eq (pv 1) pe_int (nomark _)) (pss_one (ps_ret (pv 2))) pss_nil)
      (pss_one (ps_ret (pe_op op_add (pe_op op_mul (pv 2) (pe_op op_pow pe_int pe_int)) (pe_cf cT hr pass0 (pa_cons (pv 0) (pa_cons (pe_op op_pow pe_int pe_int) pa_nil)))))))))), ?_⟩
    refine ⟨_, rfl, st, 4, rfl, by decide, by decide, hst, fun d n1 z1 hd0 hd1 a1 a2 a3 => ?_⟩
    have s1 : SameBut st H (upd H st (.lst [.int n1, .int z1])) := SameBut.set
    have t1 : StAt (upd H st (.lst [.int n1, .int z1])) st := ⟨n1, z1, upd_same, a1, a2, a3⟩
    generalize upd H st (.lst [.int n1, .int z1]) = H1 at s1 t1
    refine ⟨_, rfl, rfl, _, rfl, ite2 (fun _ => kq 0 H1 (by decide) s1 t1) (fun _ => ?_)⟩
    refine ⟨_, rfl, rfl, _, rfl, ite2 (fun _ => ?_) (fun _ => ?_)⟩
    · exact ⟨_, rfl, st, 5, rfl, by decide, by decide, t1, fun d2 n2 z2 he0 he1 b1 b2 b3 => kq d2 _ he0 (s1.trans SameBut.set) ⟨n2, z2, upd_same, b1, b2, b3⟩⟩
    · refine ⟨_, rfl, 10, 9, rfl, rfl, ⟨by decide, by decide, by decide⟩, st, _, rfl, by decide +kernel, by decide +kernel, t1, fun d2 n2 z2 he0 he1 b1 b2 b3 => ?_⟩
      have s2 : SameBut st H (upd H1 st (.lst [.int n2, .int z2])) := s1.trans SameBut.set
      have t2 : StAt (upd H1 st (.lst [.int n2, .int z2])) st := ⟨n2, z2, upd_same, b1, b2, b3⟩
      generalize upd H1 st (.lst [.int n2, .int z2]) = H2 at s2 t2
      have he2 : d2 < 1000000000 := he1
      refine ⟨_, rfl, rfl, _, rfl, ite2 (fun _ => ⟨_, rfl, kq d2 H2 he0 s2 t2⟩) (fun _ => ?_)⟩
      refine ⟨_, rfl, 10, 30, rfl, rfl, ⟨by decide, by decide, by decide⟩, _, _, rfl, rfl, .inl ⟨by omega, by omega⟩, _, rfl, 10, 30, rfl, rfl, ⟨by decide, by decide, by decide⟩, st, _, rfl, by decide +kernel, by decide +kernel, t2, fun d3 n3 z3 hf0 hf1 c1 c2 c3 => ?_⟩
      refine ⟨_, _, rfl, rfl, kq _ _ ?_ (s2.trans SameBut.set) ⟨n3, z3, upd_same, c1, c2, c3⟩⟩
      have hp : (0 : Int) ≤ (10 : Int) ^ (30 : Int).toNat := by decide +kernel
      have := Int.mul_nonneg he0 hp
      exact Int.add_nonneg this hf0
/-- _law_weights(state, names) -/
def spWts : Sp := fun vs H Q _ => ∃ (st it : Addr) (zs : List Str), vs = [.ref st, .ref it] ∧ StAt H st ∧ H it = some (lstO zs) ∧ zs.Nodup ∧ zs.length ≤ 50 ∧
  ∀ (D : Addr) (H' : Hp) (qs : List Str) (W : Str → Int), qs.Nodup → (∀ z ∈ qs, z ∈ zs) → (∀ z ∈ qs, 0 ≤ W z) → SameBut st H H' → StAt H' st → H D = none → H' D = some (.dK (wkv qs W)) → Q (.ref D) H'
theorem ok_wts {f : Addr} {fd : FuncData} (F : Fun K "_law_weights" "_law_weights" sLweights f fd) (B : Bl mg) (cT : CF P w K mg base CX0 1 "_law_take" ["_law_state", "_law_many"] spTake) (cM : CF P w K mg base CX0 2 "_law_mixed" ["_law_state", "_law_items"] spMixed)
    (cB : CF P w K mg base CX0 2 "_law_big" ["_law_state"] spBig) : FnOk P w K mg base CX0 3 f fd ["_law_state", "_law_names_here"] spWts := by
  refine F.ok scLweights (fun vs H Q E h => ?_) (fun cdv A outer s H vs Q E hr h => ?_)
  · obtain ⟨st, it, zs, rfl, _⟩ := h
    rfl
  · obtain ⟨st, it, zs, rfl, hst, hit, hnd, hlen, kq⟩ := h
    have hu := hu_of hr
    have hr1 : Room 1 _ := hr.mono (by decide)
    have esz : sizeLine = 16777216 := sizeLine_eq
    refine ⟨_, pss_cons (ps_set (i := 2) scLweights.nd rfl (Or.inl rfl) pe_dnewK)
      (pss_cons (ps_for PassesOwn.never rfl (pi_list (pe_cf cM hr pass0 (pa_cons (pv 0) (pa_cons (pv 1) pa_nil)))) (pg_name (i := 3) scLweights.nd rfl (Or.inl rfl))
        (pss_one (ps_if (pt_cmpR op_gt (pe_cf cT hr1 pass0 (pa_cons (pv 0) (pa_cons pe_int pa_nil))) pe_int (nomark _)) (pss_one (ps_dput hu (pv 2) (pv 3) (pe_cf cB hr pass0 (pa_cons (pv 0) pa_nil)) rfl)) pss_nil)))
      (pss_one (ps_ret (pv 2)))), ?_⟩
    refine fun D hD => ?_
    have s0 : Same H (upd H D (.dK [])) := Same.new hD
    have eD : (upd H D (.dK [])) D = some (.dK []) := upd_same
    have nD := hst.free hD
    generalize upd H D (.dK []) = H0 at s0 eD
    refine ⟨_, rfl, _, rfl, st, it, zs, rfl, hst.same s0, s0 _ _ hit, by omega, fun L ps H1 hp sb1 t1 nL eL => ⟨L, rfl, ⟨_, SqL.of eL⟩, ?_⟩⟩
    have eD1 : H1 D = some (.dK []) := sb1 _ _ nD eD
    have nLD : L ≠ D := ne_of eL eD1 (by intro z; cases z)
    have nLs : L ≠ st := (hst.same s0).free nL
    have hpn : ps.Nodup := hp.nodup_iff.mpr hnd
    have hpl := hp.length_eq
    refine for_it (walk_list (xs := ps.map V.str)) (fun i σ H' => ∃ (v3 : Option V) (qs : List Str) (W : Str → Int), σ = [some (.ref st), some (.ref it), some (.ref D), v3] ∧ (∀ b o, b ≠ st → b ≠ D → H1 b = some o → H' b = some o) ∧ StAt H' st ∧ qs.Nodup ∧ (∀ z ∈ qs, z ∈ ps.take i) ∧ (∀ z ∈ qs, 0 ≤ W z) ∧ H' D = some (.dK (wkv qs W)))
      ⟨none, [], fun _ => 0, rfl, fun _ _ _ _ h => h, t1, .nil, (fun _ h => by cases h), (fun _ h => by cases h), eD1⟩ (fun i σ H' _ ⟨_, _, _, _, z, _⟩ => SqL.of (z _ _ nLs nLD eL)) ?_ ?_
    · rintro i x σ Hx H2 hi ⟨v3, qs, W, rfl, sb, t2, nd, hin, hpos, e2⟩ ⟨rfl, hx⟩
      rw [List.length_map] at hi
      rw [List.getElem?_map] at hx
      cases ea : ps[i]? with
      | none => rw [ea] at hx; cases hx
      | some a =>
        rw [ea] at hx
        cases hx
        have tk := take_snoc ea
        have nk : a ∉ qs := fun z => not_mem_take hpn ea (hin a z)
        have lq : qs.length ≤ 50 := by
          have q := nodup_sub_length nd fun z m => List.mem_of_mem_take (hin z m)
          omega
        refine ⟨_, rfl, st, 3, rfl, by decide, by decide, t2, fun d n1 z1 hd0 hd1 a1 a2 a3 => ?_⟩
        have s3 : SameBut st H2 (upd H2 st (.lst [.int n1, .int z1])) := SameBut.set
        have t3 : StAt (upd H2 st (.lst [.int n1, .int z1])) st := ⟨n1, z1, upd_same, a1, a2, a3⟩
        generalize upd H2 st (.lst [.int n1, .int z1]) = H3 at s3 t3
        refine ⟨_, _, rfl, rfl, _, rfl, ite2 (fun _ => ?_) (fun _ => ?_)⟩
        · refine ⟨_, rfl, st, rfl, t3, fun n H4 hn s4 t4 => ?_⟩
          have e4 : H4 D = some (.dK (wkv qs W)) := s4 _ _ nD (s3 _ _ nD e2)
          refine ⟨_, rfl, _, rfl, D, _, rfl, DPut.k (k := Sum.inr a) e4 (by rw [wkv_len]; omega), _, qs ++ [a], setI W a n, rfl, fun b o h1 h2 e => ?_, ?_, ?_, fun z m => ?_, fun z m => ?_, ?_⟩
          · rw [upd_ne h2]
            exact s4 _ _ h1 (s3 _ _ h1 (sb _ _ h1 h2 e))
          · obtain ⟨i, j, e, q⟩ := t4
            exact ⟨i, j, by rw [upd_ne (Ne.symm nD)]; exact e, q⟩
          · rw [List.nodup_append]
            refine ⟨nd, by simp, fun y hy b hb eyb => nk ?_⟩
            have : b = a := by simpa using hb
            rw [← this, ← eyb]
            exact hy
          · rw [tk]
            rcases List.mem_append.mp m with q | q
            · exact List.mem_append_left _ (hin z q)
            · exact List.mem_append_right _ q
          · unfold setI
            by_cases c : z = a
            · rw [if_pos c]
              exact hn
            · rw [if_neg c]
              rcases List.mem_append.mp m with q | q
              · exact hpos z q
              · exact absurd (by simpa using q) c
          · rw [upd_same, wkv_new nk]
        · refine ⟨_, qs, W, rfl, fun b o h1 h2 e => s3 _ _ h1 (sb _ _ h1 h2 e), t3, nd, fun z m => ?_, hpos, s3 _ _ nD e2⟩
          rw [tk]
          exact List.mem_append_left _ (hin z m)
    · rintro σ H2 ⟨v3, qs, W, rfl, sb, t2, nd, hin, hpos, e2⟩
      refine ⟨_, rfl, kq D H2 qs W nd (fun z m => hp.mem_iff.mp (List.mem_of_mem_take (hin z m))) hpos (fun b o hb e => ?_) t2 hD e2⟩
      exact sb _ _ hb (ne_of_none e hD) (sb1 _ _ hb (s0 _ _ e))
/-- _law_turned(x) -/
def spTurn : Sp := fun vs H Q _ => ∃ (d : Addr) (qs : List Str) (W : Str → Int), vs = [.ref d] ∧ H d = some (.dK (wkv qs W)) ∧ qs.Nodup ∧ qs.length < 64 ∧ ∀ D H' zs, Same H H' → zs.Perm qs → H D = none → H' D = some (.dK (wkv zs W)) → Q (.ref D) H'
theorem ok_turned {f : Addr} {fd : FuncData} (F : Fun K "_law_turned" "_law_turned" sLturned f fd) (B : Bl mg) : FnOk P w K mg base CX0 1 f fd ["_law_x"] spTurn := by
  refine F.ok scLturned (fun vs H Q E h => ?_) (fun cdv A outer s H vs Q E hr h => ?_)
  · obtain ⟨d, qs, W, rfl, _⟩ := h
    rfl
  · obtain ⟨d, qs, W, rfl, hd, hnd, hlen, kq⟩ := h
    have hu := hu_of hr
    have esz : sizeLine = 16777216 := sizeLine_eq
    refine ⟨_, pss_cons (ps_set (i := 1) scLturned.nd rfl (Or.inl rfl) pe_dnewK)
      (pss_cons (ps_for PassesOwn.never rfl (pi_reversed (by rfl) B.rev (pa_cons (pe_callB cr_sortedS (by rfl) B.srt (by decide +kernel) (pa_cons (pe_callTy (call_listD rfl) (by rfl) B.lst (by decide +kernel) (pa_cons (pv 0) pa_nil)) pa_nil)) pa_nil)) (pg_name (i := 2) scLturned.nd rfl (Or.inl rfl))
        (pss_one (ps_dput hu (pv 1) (pv 2) (pe_dget hu (pv 0) (pv 2) (fun _ _ => rfl)) rfl)))
      (pss_one (ps_ret (pv 1)))), ?_⟩
    refine fun D hD => ?_
    have s0 : Same H (upd H D (.dK [])) := Same.new hD
    have eD : (upd H D (.dK [])) D = some (.dK []) := upd_same
    have nDd : d ≠ D := ne_of_none hd hD
    generalize upd H D (.dK []) = H0 at s0 eD
    refine ⟨_, rfl, d, _, rfl, .inl (s0 _ _ hd), fun p hp => ?_⟩
    have s1 : Same H0 (upd H0 p (.lst ((wkv qs W).map fun kv => kV kv.1))) := Same.new hp
    have ep : (upd H0 p (.lst ((wkv qs W).map fun kv => kV kv.1))) p = some (.lst (qs.map V.str)) := by rw [upd_same, wkv_strs]
    generalize upd H0 p (.lst ((wkv qs W).map fun kv => kV kv.1)) = H1 at s1 ep
    refine ⟨p, qs, rfl, SqL.of ep, hlen, fun ys q hys _ hq => ?_⟩
    have s2 : Same H1 (upd H1 q (.lst (ys.map V.str))) := Same.new hq
    have eq : (upd H1 q (.lst (ys.map V.str))) q = some (.lst (ys.map V.str)) := upd_same
    have nqD : q ≠ D := fun z => by
      rw [z, s1 _ _ eD] at hq
      cases hq
    have eD2 := s2 _ _ (s1 _ _ eD)
    generalize upd H1 q (.lst (ys.map V.str)) = H2 at s2 eq eD2
    have s02 : Same H H2 := (s0.trans s1).trans s2
    have hyn : ys.Nodup := hys.nodup_iff.mpr hnd
    have hrn : ys.reverse.Nodup := ((List.reverse_perm ys).nodup_iff).mpr hyn
    have hyl : ys.length = qs.length := hys.length_eq
    refine ⟨q, ys.map V.str, rfl, SqL.of eq, for_it walk_rev (fun i σ H' => ∃ v2 : Option V, σ = [some (.ref d), some (.ref D), v2] ∧ SameBut D H2 H' ∧ H' D = some (.dK (wkv (ys.reverse.take i) W))) ⟨none, rfl, SameBut.refl _ _, eD2⟩ (fun i σ H' _ ⟨_, _, z, _⟩ => SqL.of (z _ _ nqD eq)) ?_ ?_⟩
    · rintro i x σ Hx H3 hi ⟨v2, rfl, s3, e3⟩ ⟨rfl, hx⟩
      rw [List.length_map] at hi hx
      rw [List.getElem?_map] at hx
      have er : ys.reverse[i]? = ys[ys.length - 1 - i]? := by
        rw [List.getElem?_reverse hi]
      cases ea : ys[ys.length - 1 - i]? with
      | none => rw [ea] at hx; cases hx
      | some a =>
        rw [ea] at hx er
        cases hx
        have haq : a ∈ qs := hys.mem_iff.mp (List.mem_of_getElem? ea)
        refine ⟨_, rfl, _, rfl, d, _, rfl, by rw [← wkv_val (W := W) haq]; exact DGet.k (k := Sum.inr a) (s3 _ _ nDd (s02 _ _ hd)), _, rfl, _, rfl, D, _, rfl, DPut.k (k := Sum.inr a) e3 (by rw [wkv_len, List.length_take]; omega), _, rfl, fun b o hb e => ?_, ?_⟩
        · rw [upd_ne hb]
          exact s3 _ _ hb e
        · rw [upd_same, wkv_snoc (not_mem_take hrn er), take_snoc er]
    · rintro σ H3 ⟨v2, rfl, s3, e3⟩
      rw [List.length_map, List.take_of_length_le (by rw [List.length_reverse]; exact Nat.le_refl _)] at e3
      exact ⟨_, rfl, kq D H3 ys.reverse (fun b o e => s3 _ _ (ne_of_none e hD) (s02 _ _ e)) ((List.reverse_perm ys).trans hys) hD e3⟩
/-- _law_weight(weights, other, name) -/
def spLw : Sp := fun vs H Q _ => ∃ (d : Addr) (r : Int) (z : Str) (qs : List Str) (W : Str → Int), vs = [.ref d, .int r, .str z] ∧ H d = some (.dK (wkv qs W)) ∧ Q (.int (wt qs W r z)) H
theorem ok_lw {f : Addr} {fd : FuncData} (F : Fun K "_law_weight" "_law_weight" sLweight f fd) : FnOk P w K mg base CX0 1 f fd ["_law_weights_here", "_law_other", "_law_name_here"] spLw := by
  refine F.ok scLweight (fun vs H Q E h => ?_) (fun cdv A outer s H vs Q E hr h => ?_)
  · obtain ⟨d, r, z, qs, W, rfl, _⟩ := h
    rfl
  · obtain ⟨d, r, z, qs, W, rfl, hd, kq⟩ := h
    have hu := hu_of hr
    refine ⟨_, pss_cons (ps_if (pt_cmp (pc_din hu (pv 2) (pv 0))) (pss_one (ps_ret (pe_dget hu (pv 0) (pv 2) (fun _ _ => rfl)))) pss_nil) (pss_one (ps_ret (pv 1))), ?_⟩
    refine ⟨_, rfl, _, rfl, d, _, rfl, DGet.k (k := Sum.inr z) hd, _, rfl, ?_⟩
    unfold wt at kq
    by_cases c : z ∈ qs
    · rw [if_pos c] at kq
      rw [wkv_val c]
      exact iteT ⟨_, rfl, _, rfl, d, _, rfl, by rw [← wkv_val (W := W) c]; exact DGet.k (k := Sum.inr z) hd, kq⟩
    · rw [if_neg c] at kq
      rw [wkv_none c]
      exact iteF ⟨_, rfl, kq⟩
/-- _law_same(actual, due): two ints or two bools -/
def spSameIB : Sp := fun vs H Q _ => (∃ i j : Int, vs = [.int i, .int j] ∧ Q (.bl (decide (i = j))) H) ∨ ∃ b c : Bool, vs = [.bl b, .bl c] ∧ Q (.bl (decide (b = c))) H
theorem ok_same {f : Addr} {fd : FuncData} (F : Fun K "_law_same" "_law_same" sLsame f fd) (B : Bl mg) (cI : CF P w K mg base CX0 1 "_law_is_integer" ["_law_actual"] spInt) : FnOk P w K mg base CX0 2 f fd ["_law_actual", "_law_due"] spSameIB := by
  refine F.ok scLsame (fun vs H Q E h => ?_) (fun cdv A outer s H vs Q E hr h => ?_)
  · rcases h with ⟨i, j, rfl, _⟩ | ⟨b, c, rfl, _⟩ <;> rfl
  · refine ⟨_, pss_cons (ps_if (pt_cmp (pc_isN (pv 1))) pss_no pss_nil)
      (pss_cons (ps_if (pt_val (pe_isi kit_bool B.isi B.bool (pv 1))) (pss_one (ps_ret (pe_and (pe_isi kit_bool B.isi B.bool (pv 0)) (pe_one (pe_cmpR op_eq (pv 0) (pv 1) (nomark _)))))) pss_nil)
      (pss_cons (ps_if (pt_val (pe_isi kit_int B.isi B.int (pv 1))) (pss_one (ps_ret (pe_and (pe_cf cI hr pass0 (pa_cons (pv 0) pa_nil)) (pe_one (pe_cmpR op_eq (pv 0) (pv 1) (nomark _)))))) pss_nil) pss_no)), ?_⟩
    rcases h with ⟨i, j, rfl, kq⟩ | ⟨b, c, rfl, kq⟩
    · refine ⟨_, rfl, _, rfl, iteF ?_⟩
      refine ⟨_, rfl, _, _, rfl, .int j, _, rfl, iteF ?_⟩
      refine ⟨_, rfl, _, _, rfl, .int j, _, rfl, iteT ?_⟩
      refine ⟨_, rfl, _, _, rfl, .int i, _, rfl, iteT ?_⟩
      refine ⟨_, rfl, _, rfl, rfl, ?_⟩
      have ev : decide ((V.int i) = V.int j) = decide (i = j) := by simp
      rw [ev]
      exact kq
    · refine ⟨_, rfl, _, rfl, iteF ?_⟩
      refine ⟨_, rfl, _, _, rfl, .bl c, _, rfl, iteT ?_⟩
      refine ⟨_, rfl, _, _, rfl, .bl b, _, rfl, iteT ?_⟩
      refine ⟨_, rfl, _, rfl, rfl, ?_⟩
      have ev : decide ((V.bl b) = V.bl c) = decide (b = c) := by simp
      rw [ev]
      exact kq
/-- _law_made(weights, other, left_out) -/
def spMade (C : Addr) : Sp := fun vs H Q _ => ∃ (d : Addr) (r : Int) (b : Bool) (qs : List Str) (W : Str → Int), vs = [.ref d, .int r, .bl b] ∧ H d = some (.dK (wkv qs W)) ∧ Wd qs W r ∧ (b = true → r = 1) ∧ ∀ p H', Same H H' → ScaleAt C H' p (kept qs W r) W r → Q (.ref p) H'
theorem ok_made {f C : Addr} {fd : FuncData} (F : Fun K "_law_made" "_law_made" sLmade f fd) (B : Bl mg) (T : STxt K mg C) (mk : SMk P w K mg base C) : FnOk P w K mg base CX0 5 f fd ["_law_weights_here", "_law_other", "_law_left_out"] (spMade C) := by
  obtain ⟨fS, fdS, g, ds0, M, FS, KB, hv0, BD⟩ := mk.ex
  refine F.ok scLmade (fun vs H Q E h => ?_) (fun cdv A outer s H vs Q E hr h => ?_)
  · obtain ⟨d, r, b, qs, W, rfl, _⟩ := h
    rfl
  · obtain ⟨d, r, b, qs, W, rfl, hd, hW, hb, kq⟩ := h
    refine ⟨_, pss_cons (ps_set (i := 3) scLmade.nd rfl (Or.inl rfl) (pe_callTy call_dictD (by rfl) B.dct (by decide +kernel) (pa_cons (pv 0) pa_nil)))
      (pss_cons (ps_if (pt_val (pv 2)) (pss_one (ps_set (i := 4) scLmade.nd rfl (Or.inl rfl) (pe_make M FS hr rfl T.mgC BD hv0 pass0 (pa_cons (pv 3) pa_nil))))
        (pss_one (ps_set (i := 4) scLmade.nd rfl (Or.inl rfl) (pe_makeK (n := 1) (ks := ["rest"]) (gV := fun vs zs => vs ++ zs) M FS hr rfl T.mgC KB pass0 (pa_cons (pv 3) pa_nil) (pk_cons (pv 1) pk_nil)))))
      (pss_cons (ps_expr (pe_dclear (pv 3))) (pss_one (ps_ret (pv 4))))), ?_⟩
    refine ⟨_, rfl, d, _, rfl, .inl hd, fun D hD => ?_⟩
    have s1 : Same H (upd H D (.dK (wkv qs W))) := Same.new hD
    have e1 : (upd H D (.dK (wkv qs W))) D = some (.dK (wkv qs W)) := upd_same
    generalize upd H D (.dK (wkv qs W)) = H1 at s1 e1
    have fin : ∀ (x dz : Addr) (t : Int) (H5 : Hp), t = r → H1 x = none → H1 dz = none → dz ≠ x → SameBut x (upd (upd H1 dz (.own x)) x (.ins C dz [])) H5 → (∃ dx d2, H1 d2 = none ∧ H5 x = some (.ins C dx (sF d2 t)) ∧ H5 d2 = some (.dK (wkv (kept qs W t) W))) →
        H5 D = some (.dK (wkv qs W)) ∧ Q (.ref x) (upd H5 D (.dK [])) := fun x dz t H5 et nx ndz nex sb sc => by
      subst et
      have nDx : D ≠ x := ne_of_none e1 nx
      have nDz : D ≠ dz := ne_of_none e1 ndz
      have sH : Same H1 (upd (upd H1 dz (.own x)) x (.ins C dz [])) := fun c u e => by
        rw [upd_ne (ne_of_none e nx), upd_ne (ne_of_none e ndz)]
        exact e
      refine ⟨sb _ _ nDx (sH _ _ e1), kq x _ (fun c u e => ?_) ?_⟩
      · rw [upd_ne (ne_of_none e hD)]
        exact sb _ _ (ne_of_none (s1 _ _ e) nx) (sH _ _ (s1 _ _ e))
      · obtain ⟨dx, d2, g0, g1, g2⟩ := sc
        have n2 : d2 ≠ D := Ne.symm (ne_of_none e1 g0)
        exact ⟨dx, d2, by rw [upd_ne (Ne.symm nDx)]; exact g1, by rw [upd_ne n2]; exact g2⟩
    cases b with
    | true =>
      refine ⟨_, rfl, _, rfl, iteT ⟨_, rfl, fun x dz nx ndz nex => ⟨x, dz, D, 1, qs, W, rfl, upd_same, by rw [upd_ne (ne_of_none e1 nx), upd_ne (ne_of_none e1 ndz)]; exact e1, by rw [← hb rfl]; exact hW, fun H5 d2 sb f2 h1 h2 => ⟨rfl, ?_⟩⟩⟩⟩
      obtain ⟨g1, g2⟩ := fin x dz 1 H5 (hb rfl).symm nx ndz nex sb ⟨dz, d2, new2 f2, h1, h2⟩
      exact ⟨_, rfl, .inr (.inr (.inl ⟨rfl, .inl ⟨_, g1⟩⟩)), D, _, rfl, rfl, g1, _, rfl, g2⟩
    | false =>
      refine ⟨_, rfl, _, rfl, iteF ⟨_, rfl, _, rfl, rfl, rfl, fun x dz nx ndz nex => ⟨x, dz, D, r, qs, W, rfl, upd_same, by rw [upd_ne (ne_of_none e1 nx), upd_ne (ne_of_none e1 ndz)]; exact e1, hW, fun H5 d2 sb f2 h1 h2 => ⟨rfl, ?_⟩⟩⟩⟩
      obtain ⟨g1, g2⟩ := fin x dz r H5 rfl nx ndz nex sb ⟨dz, d2, new2 f2, h1, h2⟩
      exact ⟨_, rfl, .inr (.inr (.inl ⟨rfl, .inl ⟨_, g1⟩⟩)), D, _, rfl, rfl, g1, _, rfl, g2⟩
/-- _law_scale_fits(scale, names, weights, other), which fits -/
def spFits (C : Addr) : Sp := fun vs H Q _ => ∃ (p nl d : Addr) (r t : Int) (ns qs ps : List Str) (W U : Str → Int), vs = [.ref p, .ref nl, .ref d, .int t] ∧ ScaleAt C H p qs W r ∧ H nl = some (lstO ns) ∧ H d = some (.dK (wkv ps U)) ∧ (∀ z ∈ ns, wt qs W r z = wt ps U t z) ∧ Q (.bl true) H
theorem ok_fits {f C : Addr} {fd : FuncData} (F : Fun K "_law_scale_fits" "_law_scale_fits" sLscalefits f fd) (T : STxt K mg C) (mW : MF P w K mg base 1 C "weight" ["self", "name"] (spWm C)) (cS : CF P w K mg base CX0 2 "_law_same" ["_law_actual", "_law_due"] spSameIB)
    (cL : CF P w K mg base CX0 1 "_law_weight" ["_law_weights_here", "_law_other", "_law_name_here"] spLw) : FnOk P w K mg base CX0 3 f fd ["_law_scale", "_law_names_here", "_law_weights_here", "_law_other"] (spFits C) := by
  obtain ⟨fW, fdW, FW, MW, bW⟩ := mW.ex
  refine F.ok scLscalefits (fun vs H Q E h => ?_) (fun cdv A outer s H vs Q E hr h => ?_)
  · obtain ⟨p, nl, d, r, t, ns, qs, ps, W, U, rfl, _⟩ := h
    rfl
  · obtain ⟨p, nl, d, r, t, ns, qs, ps, W, U, rfl, hS, hn, hd, he, kq⟩ := h
    have hr1 : Room 1 _ := hr.mono (by decide)
    refine ⟨_, pss_cons (ps_for PassesOwn.never rfl (pi_list (pv 1)) (pg_name (i := 4) scLscalefits.nd rfl (Or.inl rfl))
        (pss_one (ps_if (pt_not (pt_val (pe_cf cS hr pass0 (pa_cons (pe_meth (pv 0) T.cl MW FW hr1 bW .nil pass0 (pa_cons (pv 4) pa_nil)) (pa_cons (pe_cf cL hr1 pass0 (pa_cons (pv 2) (pa_cons (pv 3) (pa_cons (pv 4) pa_nil)))) pa_nil))))) pss_no pss_nil)))
      (pss_one (ps_ret pe_bl)), ?_⟩
    refine ⟨_, rfl, nl, rfl, ⟨_, SqL.of hn⟩, for_it (walk_list (xs := ns.map V.str)) (fun i σ H' => ∃ v4 : Option V, σ = [some (.ref p), some (.ref nl), some (.ref d), some (.int t), v4] ∧ H' = H) ⟨none, rfl, rfl⟩ (fun i σ H' _ ⟨_, _, z⟩ => by rw [z]; exact SqL.of hn) ?_ ?_⟩
    · rintro i x σ Hx H1 hi ⟨v4, rfl, rfl⟩ ⟨rfl, hx⟩
      rw [List.getElem?_map] at hx
      cases ea : ns[i]? with
      | none => rw [ea] at hx; cases hx
      | some a =>
        rw [ea] at hx
        cases hx
        have hS2 := hS
        obtain ⟨dx, d2, hp, _⟩ := hS2
        refine ⟨_, rfl, p, dx, _, rfl, hp, sF_no _ _ (by decide +kernel) (by decide +kernel), _, rfl, p, a, qs, W, r, rfl, hS, _, rfl, _, rfl, _, rfl, d, t, a, ps, U, rfl, hd, .inl ⟨_, _, rfl, _, rfl, ?_⟩⟩
        rw [decide_eq_true (he a (List.mem_of_getElem? ea))]
        exact iteF ⟨_, rfl, rfl⟩
    · rintro σ H1 ⟨v4, rfl, rfl⟩
      exact kq
end
end Qp
namespace Qp
open PySem L2
theorem eqS {ns q1 q2 : List Str} {W1 W2 : Str → Int} {r1 r2 : Int} (n1 : q1.Nodup) (n2 : q2.Nodup) (s1 : ∀ z ∈ q1, z ∈ ns) (s2 : ∀ z ∈ q2, z ∈ ns) :
    (decide (r1 = r2) && eqW (kept q1 W1 r1) (kept q2 W2 r2) W1 W2) = (decide (r1 = r2) && ns.all fun z => decide (wt q1 W1 r1 z = wt q2 W2 r2 z)) := by
  by_cases c : r1 = r2
  · subst c
    rw [decide_eq_true rfl, Bool.true_and, Bool.true_and, Bool.eq_iff_iff, eqW_iff (r := r1) (kept_nd n1) (kept_nd n2) kept_ne kept_ne, List.all_eq_true]
    constructor
    · intro h z _
      have q := h z
      rw [wt_kept, wt_kept] at q
      exact decide_eq_true q
    · intro h z
      rw [wt_kept, wt_kept]
      by_cases m : z ∈ ns
      · exact of_decide_eq_true (h z m)
      · unfold wt
        rw [if_neg (fun y => m (s1 z y)), if_neg (fun y => m (s2 z y))]
  · rw [decide_eq_false c, Bool.false_and, Bool.false_and]
structure LawT (P : Program) (w : World) (K : PySem.W.Frag) (mg : Str → Option Value) (base : Heap) (C : Addr) : Prop where
  cell : CF P w K mg base CX0 1 "_law_cell" ["_law_script", "_law_k"] (spCell K)
  take : CF P w K mg base CX0 1 "_law_take" ["_law_state", "_law_many"] spTake
  name : CF P w K mg base CX0 2 "_law_name" ["_law_state", "_law_taken"] spName
  names : CF P w K mg base CX0 3 "_law_names" ["_law_state", "_law_many"] spNames
  big : CF P w K mg base CX0 2 "_law_big" ["_law_state"] spBig
  wts : CF P w K mg base CX0 3 "_law_weights" ["_law_state", "_law_names_here"] spWts
  turned : CF P w K mg base CX0 1 "_law_turned" ["_law_x"] spTurn
  weight : CF P w K mg base CX0 1 "_law_weight" ["_law_weights_here", "_law_other", "_law_name_here"] spLw
  same : CF P w K mg base CX0 2 "_law_same" ["_law_actual", "_law_due"] spSameIB
  made : CF P w K mg base CX0 5 "_law_made" ["_law_weights_here", "_law_other", "_law_left_out"] (spMade C)
  fits : CF P w K mg base CX0 3 "_law_scale_fits" ["_law_scale", "_law_names_here", "_law_weights_here", "_law_other"] (spFits C)
  mW : MF P w K mg base 1 C "weight" ["self", "name"] (spWm C)
  mA : MF P w K mg base 5 C "__add__" ["self", "other"] (spSAdd C)
  mE : MF P w K mg base 1 C "__eq__" ["self", "other"] (spSEq C)
  t : STxt K mg C
  sf : PySem.W.selfFirst K C = true
/-- what stands in the heap -/
structure LF (H : Hp) (st L d1 d2 : Addr) (ns q1 : List Str) (W1 : Str → Int) (r1 : Int) (q2 : List Str) (W2 : Str → Int) (r2 : Int) : Prop where
  s : StAt H st
  eL : H L = some (lstO ns)
  n7 : ns.length = 7
  nd : ns.Nodup
  e1 : H d1 = some (.dK (wkv q1 W1))
  w1 : Wd q1 W1 r1
  u1 : ∀ z ∈ q1, z ∈ ns
  e2 : H d2 = some (.dK (wkv q2 W2))
  w2 : Wd q2 W2 r2
  u2 : ∀ z ∈ q2, z ∈ ns
section
variable {P : Program} {w : World} {K : PySem.W.Frag} {mg : Str → Option Value} {base : Heap}
variable {C : Addr} {f : Addr} {cdv : Value} {A : Around} {outer : List Env} {s : Shared} {H0 : Hp} {E0' : XK}
abbrev nLaw : List Str := ["_law_script", "_law_state", "_law_names_here", "_law_one", "_law_one_other", "_law_kind", "_law_two", "_law_two_other", "_law_place", "_law_left", "_law_right", "_law_total", "_law_equal", "_law_name_here", "_law_both", "_law_other"]
theorem lawC (T : LawT P w K mg base C) (B : Bl mg) (hr : Room 5 (A.deeper (PyProof.Rows.envOfC "law" (defScope slaw) s.heap.objs.size f cdv))) {Q : VK} (hQ : ∀ H', Q (.bl true) H') :
    ∃ t, PSs (cxOf CX0 P w K mg base nLaw "law" (defScope slaw) f cdv A outer s H0 E0').nox ((defBody slaw).drop 11) t ∧ ∀ (H : Hp) (v0 v5 v8 : Option V) (st L d1 d2 : Addr) (ns q1 : List Str) (W1 : Str → Int) (r1 : Int) (q2 : List Str) (W2 : Str → Int) (r2 : Int), LF H st L d1 d2 ns q1 W1 r1 q2 W2 r2 →
      t { nx := fun _ H' => Q .non H', rt := Q } [v0, some (.ref st), some (.ref L), some (.ref d1), some (.int r1), v5, some (.ref d2), some (.int r2), v8, none, none, none, none, none, none, none] H := by
  obtain ⟨fW, fdW, FW, MW, bW⟩ := T.mW.ex
  obtain ⟨fA, fdA, FA, MA, bA⟩ := T.mA.ex
  obtain ⟨fE, fdE, FE, ME, bE⟩ := T.mE.ex
  have hu := hu_of hr
  have hr1 : Room 1 _ := hr.mono (by decide)
  have hr2 : Room 2 _ := hr.mono (by decide)
  have hr3 : Room 3 _ := hr.mono (by decide)
  have esz : sizeLine = 16777216 := sizeLine_eq
  refine ⟨_, pss_cons (ps_set (i := 9) sclaw.nd rfl (Or.inl rfl) (pe_cf T.made hr pass0 (pa_cons (pv 3) (pa_cons (pv 4) (pa_cons (pe_cmpR op_eq (pv 4) pe_int (nomark _)) pa_nil)))))
    (pss_cons (ps_set (i := 10) sclaw.nd rfl (Or.inl rfl) (pe_cf T.made hr pass0 (pa_cons (pv 6) (pa_cons (pv 7) (pa_cons pe_bl pa_nil)))))
    (pss_cons (ps_if (PW.pt (pw_or (pt_not (pt_val (pe_cf T.fits hr3 pass0 (pa_cons (pv 9) (pa_cons (pv 2) (pa_cons (pv 3) (pa_cons (pv 4) pa_nil))))))) (pw_or1 (pt_not (pt_val (pe_cf T.fits hr3 pass0 (pa_cons (pv 10) (pa_cons (pv 2) (pa_cons (pv 6) (pa_cons (pv 7) pa_nil)))))))))) pss_no pss_nil)
    (pss_cons (ps_set (i := 11) sclaw.nd rfl (Or.inl rfl) pe_dnewK)
    (pss_cons (ps_set (i := 12) sclaw.nd rfl (Or.inl rfl) (pe_cmpR op_eq (pv 4) (pv 7) (nomark _)))
    (pss_cons (ps_for PassesOwn.never rfl (pi_list (pv 2)) (pg_name (i := 13) sclaw.nd rfl (Or.inl rfl))
      (pss_cons (ps_dput hu (pv 11) (pv 13) (pe_op op_add (pe_cf T.weight hr1 pass0 (pa_cons (pv 3) (pa_cons (pv 4) (pa_cons (pv 13) pa_nil)))) (pe_cf T.weight hr1 pass0 (pa_cons (pv 6) (pa_cons (pv 7) (pa_cons (pv 13) pa_nil))))) rfl)
      (pss_one (ps_if (pt_cmpR op_ne (pe_cf T.weight hr1 pass0 (pa_cons (pv 3) (pa_cons (pv 4) (pa_cons (pv 13) pa_nil)))) (pe_cf T.weight hr1 pass0 (pa_cons (pv 6) (pa_cons (pv 7) (pa_cons (pv 13) pa_nil)))) (nomark _)) (pss_one (ps_set (i := 12) sclaw.nd rfl (Or.inl rfl) pe_bl)) pss_nil))))
    (pss_cons (ps_set (i := 14) sclaw.nd rfl (Or.inl rfl) (pe_op (op_addO T.sf MA FA hr bA) (pv 9) (pv 10)))
    (pss_cons (ps_set (i := 15) sclaw.nd rfl (Or.inl rfl) (pe_cf T.name hr2 pass0 (pa_cons (pv 1) (pa_cons (pv 2) pa_nil))))
    (pss_cons (ps_if (pt_not (pt_val (pe_cf T.same hr2 pass0 (pa_cons (pe_meth (pv 14) T.t.cl MW FW hr1 bW .nil pass0 (pa_cons (pv 15) pa_nil)) (pa_cons (pe_op op_add (pv 4) (pv 7)) pa_nil))))) pss_no pss_nil)
    (pss_cons (ps_if (PW.pt (pw_or (pt_not (pt_val (pe_cf T.fits hr3 pass0 (pa_cons (pv 14) (pa_cons (pv 2) (pa_cons (pv 11) (pa_cons (pe_op op_add (pv 4) (pv 7)) pa_nil))))))) (pw_or1 (pt_not (pt_val (pe_cf T.fits hr3 pass0 (pa_cons (pv 9) (pa_cons (pv 2) (pa_cons (pv 3) (pa_cons (pv 4) pa_nil)))))))))) pss_no pss_nil)
    (pss_cons (ps_if (pt_not (pt_val (pe_cf T.fits hr3 pass0 (pa_cons (pv 10) (pa_cons (pv 2) (pa_cons (pv 6) (pa_cons (pv 7) pa_nil))))))) pss_no pss_nil)
    (pss_one (ps_ret (pe_and (pe_cf T.same hr2 pass0 (pa_cons (pe_cmpR (op_eqO ME FE hr1 bE) (pv 9) (pv 10) (nomark _)) (pa_cons (pv 12) pa_nil)))
      (pe_and (pe_cf T.same hr2 pass0 (pa_cons (pe_cmpR (op_eqO ME FE hr1 bE) (pv 10) (pv 9) (nomark _)) (pa_cons (pv 12) pa_nil)))
        (pe_one (pe_cf T.same hr2 pass0 (pa_cons (pe_cmpR (op_eqO ME FE hr1 bE) (pv 14) (pe_op (op_addO T.sf MA FA hr bA) (pv 10) (pv 9)) (nomark _)) (pa_cons pe_bl pa_nil)))))))))))))))))), ?_⟩
  intro H v0 v5 v8 st L d1 d2 ns q1 W1 r1 q2 W2 r2 F
  have lq1 : q1.length ≤ 7 := by
    have q := nodup_sub_length F.w1.nd F.u1
    have := F.n7
    omega
  have lq2 : q2.length ≤ 7 := by
    have q := nodup_sub_length F.w2.nd F.u2
    have := F.n7
    omega
  have lk1 : (kept q1 W1 r1).length ≤ 7 := Nat.le_trans (List.length_filter_le _ _) lq1
  have lk2 : (kept q2 W2 r2).length ≤ 7 := Nat.le_trans (List.length_filter_le _ _) lq2
  refine ⟨_, rfl, _, rfl, _, rfl, rfl, d1, r1, _, q1, W1, rfl, F.e1, F.w1, fun e => V.int.inj (of_decide_eq_true e), fun p H1 s1 Sp => ?_⟩
  refine ⟨_, rfl, _, rfl, d2, r2, false, q2, W2, rfl, s1 _ _ F.e2, F.w2, (fun e => by cases e), fun q H2 s2 Sq => ?_⟩
  have s02 := s1.trans s2
  have Sp2 := Sp.same s2
  have eL2 := s02 _ _ F.eL
  have e12 := s02 _ _ F.e1
  have e22 := s02 _ _ F.e2
  refine ⟨_, rfl, _, rfl, _, rfl, _, rfl, p, L, d1, r1, r1, ns, _, q1, W1, W1, rfl, Sp2, eL2, e12, fun z _ => wt_kept, _, rfl, iteF ?_⟩
  refine ⟨_, rfl, _, rfl, _, rfl, _, rfl, q, L, d2, r2, r2, ns, _, q2, W2, W2, rfl, Sq, eL2, e22, fun z _ => wt_kept, _, rfl, iteF ?_⟩
  refine fun D hD => ?_
  have s3 : Same H2 (upd H2 D (.dK [])) := Same.new hD
  have eD3 : (upd H2 D (.dK [])) D = some (.dK []) := upd_same
  generalize upd H2 D (.dK []) = H3 at s3 eD3
  refine ⟨_, rfl, _, rfl, rfl, ?_⟩
  have ev : decide ((V.int r1) = V.int r2) = decide (r1 = r2) := by simp
  rw [ev]
  generalize hS : (fun z => wt q1 W1 r1 z + wt q2 W2 r2 z) = S
  have hS' : ∀ z, S z = wt q1 W1 r1 z + wt q2 W2 r2 z := fun z => by rw [← hS]
  have nLD : L ≠ D := ne_of_none eL2 hD
  refine ⟨_, rfl, L, rfl, ⟨_, SqL.of (s3 _ _ eL2)⟩, for_it (walk_list (xs := ns.map V.str)) (fun i σ H' => ∃ v13 : Option V, σ = [v0, some (.ref st), some (.ref L), some (.ref d1), some (.int r1), v5, some (.ref d2), some (.int r2), v8, some (.ref p), some (.ref q), some (.ref D),
      some (.bl (decide (r1 = r2) && (ns.take i).all fun z => decide (wt q1 W1 r1 z = wt q2 W2 r2 z))), v13, none, none] ∧ SameBut D H3 H' ∧ H' D = some (.dK (wkv (ns.take i) S)))
    ⟨none, by rw [List.take_zero, List.all_nil, Bool.and_true]; rfl, SameBut.refl _ _, eD3⟩ (fun i σ H' _ ⟨_, _, z, _⟩ => SqL.of (z _ _ nLD (s3 _ _ eL2))) ?_ ?_⟩
  · rintro i x σ Hx H4 hi ⟨v13, rfl, s4, e4⟩ ⟨rfl, hx⟩
    rw [List.length_map] at hi
    rw [List.getElem?_map] at hx
    cases ea : ns[i]? with
    | none => rw [ea] at hx; cases hx
    | some a =>
      rw [ea] at hx
      cases hx
      have tk := take_snoc ea
      have g1 : H4 d1 = some (.dK (wkv q1 W1)) := s4 _ _ (ne_of_none e12 hD) (s3 _ _ e12)
      have g2 : H4 d2 = some (.dK (wkv q2 W2)) := s4 _ _ (ne_of_none e22 hD) (s3 _ _ e22)
      have n7 := F.n7
      refine ⟨_, rfl, _, rfl, _, rfl, d1, r1, a, q1, W1, rfl, g1, _, rfl, _, rfl, _, rfl, d2, r2, a, q2, W2, rfl, g2, _, _, rfl, rfl, _, rfl, _, rfl, D, _, rfl, DPut.k (k := Sum.inr a) e4 (by rw [wkv_len, List.length_take]; omega), ?_⟩
      have ep : upd H4 D (.dK (putK (wkv (ns.take i) S) (Sum.inr a) (V.int (wt q1 W1 r1 a + wt q2 W2 r2 a)))) = upd H4 D (.dK (wkv (ns.take (i + 1)) S)) := by
        rw [← hS' a, wkv_snoc (not_mem_take F.nd ea), tk]
      have s5 : SameBut D H3 (upd H4 D (.dK (putK (wkv (ns.take i) S) (Sum.inr a) (V.int (wt q1 W1 r1 a + wt q2 W2 r2 a))))) := s4.trans SameBut.set
      have e5 : (upd H4 D (.dK (putK (wkv (ns.take i) S) (Sum.inr a) (V.int (wt q1 W1 r1 a + wt q2 W2 r2 a))))) D = some (.dK (wkv (ns.take (i + 1)) S)) := by rw [ep, upd_same]
      have hb : (decide (r1 = r2) && (ns.take (i + 1)).all fun z => decide (wt q1 W1 r1 z = wt q2 W2 r2 z)) = ((decide (r1 = r2) && (ns.take i).all fun z => decide (wt q1 W1 r1 z = wt q2 W2 r2 z)) && decide (wt q1 W1 r1 a = wt q2 W2 r2 a)) := by
        rw [tk, List.all_append, Bool.and_assoc]
        simp
      have nd1 : d1 ≠ D := ne_of_none e12 hD
      have nd2 : d2 ≠ D := ne_of_none e22 hD
      refine ⟨_, rfl, _, rfl, _, rfl, d1, r1, a, q1, W1, rfl, s5 _ _ nd1 (s3 _ _ e12), _, rfl, _, rfl, _, rfl, d2, r2, a, q2, W2, rfl, s5 _ _ nd2 (s3 _ _ e22), rfl, _, rfl, ite2 (fun h => ?_) (fun h => ?_)⟩
      · have c : ¬ wt q1 W1 r1 a = wt q2 W2 r2 a := fun z => by simp [z] at h
        refine ⟨some (.str a), ?_, s5, e5⟩
        rw [hb, decide_eq_false c, Bool.and_false]
        rfl
      · have c : wt q1 W1 r1 a = wt q2 W2 r2 a := by simpa using h
        refine ⟨some (.str a), ?_, s5, e5⟩
        rw [hb, decide_eq_true c, Bool.and_true]
        rfl
  · rintro σ H4 ⟨v13, rfl, s4, e4⟩
    rw [List.length_map, List.take_of_length_le (Nat.le_refl _)] at e4 ⊢
    have s24 : Same H2 H4 := fun b o e => s4 _ _ (ne_of_none e hD) (s3 _ _ e)
    have Sp4 := Sp2.same s24
    have Sq4 := Sq.same s24
    have w1k := F.w1.kept
    have w2k := F.w2.kept
    have hpi := Sp4
    have hqi := Sq4
    obtain ⟨dx, dd, hp4, _⟩ := hpi
    obtain ⟨dy, de, hq4, _⟩ := hqi
    refine ⟨_, rfl, _, rfl, p, q, dx, dy, _, _, rfl, rfl, hp4, hq4, p, q, _, _, W1, W2, r1, r2, rfl, Sp4, Sq4, w1k, w2k, by omega, fun x H5 ds U s5 Sx wx hx => ⟨⟨_, rfl⟩, ?_⟩⟩
    have hx' : ∀ z, wt ds U (r1 + r2) z = wt q1 W1 r1 z + wt q2 W2 r2 z := fun z => by rw [hx z, wt_kept, wt_kept]
    have s05 := (s02.trans s24).trans s5
    refine ⟨_, rfl, _, rfl, st, L, ns, rfl, F.s.same s05, s05 _ _ F.eL, by have := F.n7; omega, fun z H6 s6 st6 nz mz => ?_⟩
    have n7 := F.n7
    have T5 := F.s.same s05
    have but : ∀ {b o}, H5 b = some o → (∀ i j, o ≠ .lst [.int i, .int j]) → H6 b = some o := fun e n => s6 _ _ (T5.ne e n) e
    have sc6 : ∀ {a qs W r}, ScaleAt C H5 a qs W r → ScaleAt C H6 a qs W r := fun ⟨dx, d, g1, g2⟩ => ⟨dx, d, but g1 (by intro _ _ z; cases z), but g2 (by intro _ _ z; cases z)⟩
    have Sx6 := sc6 Sx
    have Sp6 := sc6 (Sp4.same s5)
    have Sq6 := sc6 (Sq4.same s5)
    have eL6 : H6 L = some (lstO ns) := but (s05 _ _ F.eL) (fun i j z => lst_ne_st _ _ _ z)
    have e16 : H6 d1 = some (.dK (wkv q1 W1)) := but (s05 _ _ F.e1) (by intro _ _ z; cases z)
    have e26 : H6 d2 = some (.dK (wkv q2 W2)) := but (s05 _ _ F.e2) (by intro _ _ z; cases z)
    have eD6 : H6 D = some (.dK (wkv ns S)) := but (s5 _ _ e4) (by intro _ _ z; cases z)
    have hxi := Sx6
    obtain ⟨dz, df, hx6, _⟩ := hxi
    have ez : wt (kept ds U (r1 + r2)) U (r1 + r2) z = r1 + r2 := by
      rw [wt_kept, hx' z]
      unfold wt
      rw [if_neg (fun m => mz (F.u1 z m)), if_neg (fun m => mz (F.u2 z m))]
    refine ⟨_, rfl, x, dz, _, rfl, hx6, sF_no _ _ (by decide +kernel) (by decide +kernel), _, rfl, x, z, _, U, _, rfl, Sx6, _, rfl, _, rfl, _, _, rfl, rfl, .inl ⟨_, _, rfl, _, rfl, ?_⟩⟩
    rw [decide_eq_true ez]
    refine iteF ?_
    refine ⟨_, rfl, _, rfl, _, rfl, _, rfl, _, rfl, _, _, rfl, rfl, x, L, D, _, r1 + r2, ns, _, ns, U, S, rfl, Sx6, eL6, eD6, fun y hy => ?_, _, rfl, iteF ?_⟩
    · rw [wt_kept, hx' y, ← hS' y]
      unfold wt
      rw [if_pos hy]
    refine ⟨_, rfl, _, rfl, _, rfl, _, rfl, p, L, d1, r1, r1, ns, _, q1, W1, W1, rfl, Sp6, eL6, e16, fun z _ => wt_kept, _, rfl, iteF ?_⟩
    refine ⟨_, rfl, _, rfl, _, rfl, _, rfl, q, L, d2, r2, r2, ns, _, q2, W2, W2, rfl, Sq6, eL6, e26, fun z _ => wt_kept, _, rfl, iteF ?_⟩
    obtain ⟨dxp, ddp, hp6, _⟩ := id Sp6
    obtain ⟨dyq, deq, hq6, _⟩ := id Sq6
    have E1 := eqS (W1 := W1) (W2 := W2) (r1 := r1) (r2 := r2) F.w1.nd F.w2.nd F.u1 F.u2
    have E2 := eqS (W1 := W2) (W2 := W1) (r1 := r2) (r2 := r1) F.w2.nd F.w1.nd F.u2 F.u1
    have E3 : (decide (r2 = r1) && ns.all fun z => decide (wt q2 W2 r2 z = wt q1 W1 r1 z)) = (decide (r1 = r2) && ns.all fun z => decide (wt q1 W1 r1 z = wt q2 W2 r2 z)) := by
      congr 1
      · simp [eq_comm]
      · congr 1
        funext z
        simp [eq_comm]
    refine ⟨_, rfl, _, rfl, p, q, dxp, dyq, _, _, rfl, rfl, hp6, hq6, p, q, _, _, W1, W2, r1, r2, rfl, Sp6, Sq6, _, rfl, _, rfl, .inr ⟨_, _, rfl, _, rfl, ?_⟩⟩
    rw [if_neg Bool.false_ne_true, E1, decide_eq_true rfl]
    refine iteT ?_
    refine ⟨_, rfl, _, rfl, q, p, dyq, dxp, _, _, rfl, rfl, hq6, hp6, q, p, _, _, W2, W1, r2, r1, rfl, Sq6, Sp6, _, rfl, _, rfl, .inr ⟨_, _, rfl, _, rfl, ?_⟩⟩
    rw [if_neg Bool.false_ne_true, E2, E3, decide_eq_true rfl]
    refine iteT ?_
    refine ⟨_, rfl, _, rfl, _, rfl, q, p, dyq, dxp, _, _, rfl, rfl, hq6, hp6, q, p, _, _, W2, W1, r2, r1, rfl, Sq6, Sp6, w2k, w1k, by omega, fun y H7 dt V7 s7 Sy wy hy => ⟨⟨_, rfl⟩, ?_⟩⟩
    obtain ⟨dxy, ddy, hy7, _⟩ := id Sy
    refine ⟨x, y, dz, dxy, _, _, rfl, rfl, s7 _ _ hx6, hy7, x, y, _, _, U, V7, r1 + r2, r2 + r1, rfl, Sx6.same s7, Sy, _, rfl, .inr ⟨_, _, rfl, ?_⟩⟩
    have E4 : (decide (r1 + r2 = r2 + r1) && eqW (kept ds U (r1 + r2)) (kept dt V7 (r2 + r1)) U V7) = true := by
      rw [Int.add_comm r2 r1] at hy ⊢
      rw [decide_eq_true rfl, Bool.true_and, eqW_iff (r := r1 + r2) (kept_nd wx.nd) (kept_nd wy.nd) kept_ne kept_ne]
      intro z
      rw [wt_kept, wt_kept, hx' z, hy z, wt_kept, wt_kept, Int.add_comm]
    rw [if_neg Bool.false_ne_true, E4]
    exact hQ _
end
end Qp
namespace Qp
open PySem L2
structure LG (H : Hp) (st L d1 d2 : Addr) (ns q1 : List Str) (W1 : Str → Int) (r1 : Int) (q2 : List Str) (W2 : Str → Int) (r2 : Int) : Prop where
  f : LF H st L d1 d2 ns q1 W1 r1 q2 W2 r2
  ne : d1 ≠ d2
  nm : ∀ z ∈ ns, nameS z = true
theorem LG.put {H : Hp} {st L d1 d2 : Addr} {ns q1 : List Str} {W1 : Str → Int} {r1 : Int} {q2 : List Str} {W2 : Str → Int} {r2 : Int} (F : LG H st L d1 d2 ns q1 W1 r1 q2 W2 r2) {a : Str} {v : Int} (ha : a ∈ ns) (hv : 0 ≤ v) :
    ∃ q3, LG (upd H d2 (.dK (putK (wkv q2 W2) (Sum.inr a) (.int v)))) st L d1 d2 ns q1 W1 r1 q3 (setI W2 a v) r2 := by
  have f := F.f
  have nL : L ≠ d2 := ne_of f.eL f.e2 (by intro z; cases z)
  have ns_ : st ≠ d2 := Ne.symm (f.s.ne f.e2 (by intro _ _ z; cases z))
  have s' : ∀ o, StAt (upd H d2 o) st := fun o => by
    obtain ⟨i, j, e, q⟩ := f.s
    exact ⟨i, j, by rw [upd_ne ns_]; exact e, q⟩
  have lq2 : q2.length ≤ 7 := by
    have q := nodup_sub_length f.w2.nd f.u2
    have := f.n7
    omega
  have pos : ∀ z ∈ q2, 0 ≤ setI W2 a v z := fun z m => by
    unfold setI
    by_cases c : z = a
    · rw [if_pos c]; exact hv
    · rw [if_neg c]; exact f.w2.pos z m
  by_cases c : a ∈ q2
  · refine ⟨q2, ⟨s' _, by rw [upd_ne nL]; exact f.eL, f.n7, f.nd, by rw [upd_ne F.ne]; exact f.e1, f.w1, f.u1, by rw [upd_same, wkv_old c], ⟨f.w2.nd, f.w2.nm, pos, f.w2.r0, f.w2.len⟩, f.u2⟩, F.ne, F.nm⟩
  · refine ⟨q2 ++ [a], ⟨s' _, by rw [upd_ne nL]; exact f.eL, f.n7, f.nd, by rw [upd_ne F.ne]; exact f.e1, f.w1, f.u1, by rw [upd_same, wkv_new c], ⟨?_, fun z m => ?_, fun z m => ?_, f.w2.r0, by rw [List.length_append]; show q2.length + 1 ≤ 50; omega⟩, fun z m => ?_⟩, F.ne, F.nm⟩
    · rw [List.nodup_append]
      refine ⟨f.w2.nd, by simp, fun y hy b hb eyb => c ?_⟩
      have : b = a := by simpa using hb
      rw [← this, ← eyb]
      exact hy
    · rcases List.mem_append.mp m with q | q
      · exact f.w2.nm z q
      · have : z = a := by simpa using q
        rw [this]
        exact F.nm a ha
    · rcases List.mem_append.mp m with q | q
      · exact pos z q
      · have : z = a := by simpa using q
        unfold setI
        rw [if_pos this]
        exact hv
    · rcases List.mem_append.mp m with q | q
      · exact f.u2 z q
      · have : z = a := by simpa using q
        rw [this]
        exact ha
theorem LG.take {H : Hp} {st L d1 d2 : Addr} {ns q1 : List Str} {W1 : Str → Int} {r1 : Int} {q2 : List Str} {W2 : Str → Int} {r2 : Int} (F : LG H st L d1 d2 ns q1 W1 r1 q2 W2 r2) {n z : Int} (h0 : 0 ≤ n) (h1 : 0 ≤ z) (h2 : z < 2147483629) :
    LG (upd H st (.lst [.int n, .int z])) st L d1 d2 ns q1 W1 r1 q2 W2 r2 := by
  have f := F.f
  exact ⟨⟨⟨n, z, upd_same, h0, h1, h2⟩, by rw [upd_ne (f.s.ne f.eL (fun i j z => lst_ne_st _ _ _ z))]; exact f.eL, f.n7, f.nd, by rw [upd_ne (f.s.ne f.e1 (by intro _ _ z; cases z))]; exact f.e1, f.w1, f.u1,
    by rw [upd_ne (f.s.ne f.e2 (by intro _ _ z; cases z))]; exact f.e2, f.w2, f.u2⟩, F.ne, F.nm⟩
theorem LG.r2 {H : Hp} {st L d1 d2 : Addr} {ns q1 : List Str} {W1 : Str → Int} {r1 : Int} {q2 : List Str} {W2 : Str → Int} {r2 : Int} (F : LG H st L d1 d2 ns q1 W1 r1 q2 W2 r2) {t : Int} (h : 0 ≤ t) : LG H st L d1 d2 ns q1 W1 r1 q2 W2 t :=
  ⟨⟨F.f.s, F.f.eL, F.f.n7, F.f.nd, F.f.e1, F.f.w1, F.f.u1, F.f.e2, ⟨F.f.w2.nd, F.f.w2.nm, F.f.w2.pos, h, F.f.w2.len⟩, F.f.u2⟩, F.ne, F.nm⟩
theorem at7 {ns : List Str} (h : ns.length = 7) {d : Int} (h0 : 0 ≤ d) (h1 : d < 7) : ∃ a ∈ ns, atI (ns.map V.str) d = some (.str a) := by
  obtain ⟨a, ea⟩ : ∃ a, ns[d.toNat]? = some a := ⟨_, List.getElem?_eq_getElem (by omega)⟩
  refine ⟨a, List.mem_of_getElem? ea, ?_⟩
  have q := atI_nat (xs := ns.map V.str) (j := d.toNat) (v := .str a) (by rw [List.getElem?_map, ea]; rfl)
  rw [show ((d.toNat : Nat) : Int) = d by omega] at q
  exact q
theorem cut_lst6 {H : Hp} {L : Addr} {zs : List Str} (h : 6 ≤ zs.length) : (upd H L (.lst (cutV (zs.map V.str) none (some 6)))) L = some (lstO (zs.take 6)) := by
  rw [upd_same]
  have e := cut_take (zs.map V.str) 6 (by rw [List.length_map]; exact h)
  show some (HO.lst (cutV (zs.map V.str) none (some ((6 : Nat) : Int)))) = _
  rw [e, ← List.map_take]
  rfl
section
variable {P : Program} {w : World} {K : PySem.W.Frag} {mg : Str → Option Value} {base : Heap}
variable {C : Addr} {f : Addr} {cdv : Value} {A : Around} {outer : List Env} {s : Shared} {H0 : Hp} {E0' : XK}
theorem law10 (T : LawT P w K mg base C) (B : Bl mg) (hr : Room 5 (A.deeper (PyProof.Rows.envOfC "law" (defScope slaw) s.heap.objs.size f cdv))) {Q : VK} (hQ : ∀ H', Q (.bl true) H') :
    ∃ t, PSs (cxOf CX0 P w K mg base nLaw "law" (defScope slaw) f cdv A outer s H0 E0').nox ((defBody slaw).drop 10) t ∧ ∀ (H : Hp) (v0 : Option V) (k : Int) (st L d1 d2 : Addr) (ns q1 : List Str) (W1 : Str → Int) (r1 : Int) (q2 : List Str) (W2 : Str → Int) (r2 : Int), LG H st L d1 d2 ns q1 W1 r1 q2 W2 r2 →
      t { nx := fun _ H' => Q .non H', rt := Q } [v0, some (.ref st), some (.ref L), some (.ref d1), some (.int r1), some (.int k), some (.ref d2), some (.int r2), none, none, none, none, none, none, none, none] H := by
  obtain ⟨tc, hc, qc⟩ := lawC (outer := outer) (H0 := H0) (E0' := E0') T B hr hQ
  have hu := hu_of hr
  have hr1 : Room 1 _ := hr.mono (by decide)
  have esz : sizeLine = 16777216 := sizeLine_eq
  refine ⟨_, pss_cons (ps_if (pt_cmpR op_eq (pv 5) pe_int (nomark _)) (pss_cons (ps_set (i := 8) sclaw.nd rfl (Or.inl rfl) (pe_cf T.take hr1 pass0 (pa_cons (pv 1) (pa_cons pe_int pa_nil))))
    (pss_one (ps_if (pt_cmpR op_eq (pv 8) pe_int (nomark _)) (pss_one (ps_aug (i := 7) sclaw.nd rfl (Or.inl rfl) pe_int ip_add))
      (pss_one (ps_dput hu (pv 6) (pe_ix ix_list (pv 2) (pv 8) (fun _ _ => rfl)) (pe_op op_add (pe_cf T.weight hr1 pass0 (pa_cons (pv 6) (pa_cons (pv 7) (pa_cons (pe_ix ix_list (pv 2) (pv 8) (fun _ _ => rfl)) pa_nil)))) pe_int) rfl))))) pss_nil) hc, ?_⟩
  intro H v0 k st L d1 d2 ns q1 W1 r1 q2 W2 r2 F
  refine ⟨_, rfl, rfl, _, rfl, ite2 (fun _ => ?_) (fun _ => qc _ _ _ _ _ _ _ _ _ _ _ _ _ _ _ F.f)⟩
  refine ⟨_, rfl, st, 8, rfl, by decide, by decide, F.f.s, fun d n1 z1 hd0 hd1 a1 a2 a3 => ?_⟩
  have F1 := F.take (n := n1) (z := z1) a1 a2 a3
  generalize upd H st (.lst [.int n1, .int z1]) = H1 at F1
  refine ⟨_, rfl, rfl, _, rfl, ite2 (fun _ => ?_) (fun h => ?_)⟩
  · exact ⟨_, rfl, r2, 1, rfl, rfl, qc _ _ _ _ _ _ _ _ _ _ _ _ _ _ _ (F1.r2 (t := r2 + 1) (by have := F1.f.w2.r0; omega)).f⟩
  · have h7 : d ≠ 7 := fun e => h (by rw [e]; exact decide_eq_true rfl)
    obtain ⟨a, ha, ea⟩ := at7 F1.f.n7 hd0 (by omega)
    have F2 := F1.put (v := wt q2 W2 r2 a + 1) ha (by have := F1.f.w2.wt0 a; omega)
    obtain ⟨q3, F3⟩ := F2
    have lq2 : q2.length ≤ 50 := F1.f.w2.len
    exact ⟨_, rfl, _, rfl, _, rfl, _, rfl, L, _, d, _, rfl, rfl, SqL.of F1.f.eL, ea, d2, r2, a, q2, W2, rfl, F1.f.e2, _, _, rfl, rfl, _, rfl, _, rfl, _, rfl, L, _, d, _, rfl, rfl, SqL.of F1.f.eL, ea, d2, _, rfl, DPut.k (k := Sum.inr a) F1.f.e2 (by rw [wkv_len]; omega), qc _ _ _ _ _ _ _ _ _ _ _ _ _ _ _ F3.f⟩
theorem law5 (T : LawT P w K mg base C) (B : Bl mg) (hr : Room 5 (A.deeper (PyProof.Rows.envOfC "law" (defScope slaw) s.heap.objs.size f cdv))) {Q : VK} (hQ : ∀ H', Q (.bl true) H') :
    ∃ t, PSs (cxOf CX0 P w K mg base nLaw "law" (defScope slaw) f cdv A outer s H0 E0').nox ((defBody slaw).drop 5) t ∧ ∀ (H : Hp) (sa st L d1 : Addr) (nums : List Int) (ns q1 : List Str) (W1 : Str → Int) (r1 : Int), SqL K H sa (nums.map V.int) → nums.length ≤ 63 → H L = some (lstO ns) → ns.length = 7 → ns.Nodup → (∀ z ∈ ns, nameS z = true) →
      H d1 = some (.dK (wkv q1 W1)) → Wd q1 W1 r1 → (∀ z ∈ q1, z ∈ ns) → t { nx := fun _ H' => Q .non H', rt := Q } [some (.ref sa), some (.ref st), some (.ref L), some (.ref d1), some (.int r1), none, none, none, none, none, none, none, none, none, none, none] H := by
  obtain ⟨tc, hc, qc⟩ := law10 (outer := outer) (H0 := H0) (E0' := E0') T B hr hQ
  have hu := hu_of hr
  have hr1 : Room 1 _ := hr.mono (by decide)
  have hr2 : Room 2 _ := hr.mono (by decide)
  have hr3 : Room 3 _ := hr.mono (by decide)
  have esz : sizeLine = 16777216 := sizeLine_eq
  refine ⟨_, pss_cons (ps_set (i := 1) sclaw.nd rfl (Or.inl rfl) (pe_cf T.cell hr1 pass0 (pa_cons (pv 0) (pa_cons pe_int pa_nil))))
    (pss_cons (ps_set (i := 5) sclaw.nd rfl (Or.inl rfl) (pe_cf T.take hr1 pass0 (pa_cons (pv 1) (pa_cons pe_int pa_nil))))
    (pss_cons (ps_set (i := 6) sclaw.nd rfl (Or.inl rfl) (pe_cf T.wts hr3 pass0 (pa_cons (pv 1) (pa_cons (pe_slice sl_list (pv 2) po_none (po_some pe_int)) pa_nil))))
    (pss_cons (ps_set (i := 7) sclaw.nd rfl (Or.inl rfl) (pe_cf T.big hr2 pass0 (pa_cons (pv 1) pa_nil)))
    (pss_cons (ps_if (pt_cmpR op_lt (pv 5) pe_int (nomark _)) (pss_cons (ps_set (i := 6) sclaw.nd rfl (Or.inl rfl) (pe_cf T.turned hr1 pass0 (pa_cons (pv 3) pa_nil)))
      (pss_cons (ps_set (i := 7) sclaw.nd rfl (Or.inl rfl) (pv 4)) (pss_one (ps_dput hu (pv 6) (pe_ix ix_list (pv 2) pe_int (fun _ _ => rfl)) (pv 4) rfl)))) pss_nil) hc)))), ?_⟩
  intro H sa st0 L d1 nums ns q1 W1 r1 hsa hl eL n7 hnd hnm e1 w1 u1
  refine ⟨_, rfl, sa, nums, 1, rfl, by decide, hsa, hl, fun st n z hst h0 h1 h2 => ?_⟩
  have S1 : StAt (upd H st (.lst [.int n, .int z])) st := ⟨n, z, upd_same, h0, h1, h2⟩
  have s1 : Same H (upd H st (.lst [.int n, .int z])) := Same.new hst
  generalize upd H st (.lst [.int n, .int z]) = H1 at S1 s1
  refine ⟨_, rfl, st, 4, rfl, by decide, by decide, S1, fun kd n1 z1 hk0 hk1 a1 a2 a3 => ?_⟩
  have S2 : StAt (upd H1 st (.lst [.int n1, .int z1])) st := ⟨n1, z1, upd_same, a1, a2, a3⟩
  have s2 : Same H (upd H1 st (.lst [.int n1, .int z1])) := fun b o e => by rw [upd_ne (ne_of_none e hst)]; exact s1 _ _ e
  generalize upd H1 st (.lst [.int n1, .int z1]) = H2 at S2 s2
  refine ⟨_, rfl, _, rfl, _, rfl, L, _, rfl, SqL.of (s2 _ _ eL), fun N hN => ?_⟩
  have s3 := Same.new (o := HO.lst (cutV (ns.map V.str) none (some 6))) hN
  have eN := cut_lst6 (H := H2) (L := N) (zs := ns) (by omega)
  generalize upd H2 N (.lst (cutV (ns.map V.str) none (some 6))) = H3 at s3 eN
  have tnd : (ns.take 6).Nodup := hnd.sublist (List.take_sublist _ _)
  refine ⟨st, N, ns.take 6, rfl, S2.same s3, eN, tnd, by rw [List.length_take]; omega, fun d2 H4 q2 W2 nq2 sub2 pos2 s4 S4 f2 e2 => ?_⟩
  have s04 : Same H H4 := fun b o e => s4 _ _ (ne_of_none e hst) (s3 _ _ (s2 _ _ e))
  have n2 : d2 ≠ st := (S2.same s3).free f2
  refine ⟨_, rfl, st, rfl, S4, fun r2 H5 hr2' s5 S5 => ?_⟩
  have s05 : Same H H5 := fun b o e => s5 _ _ (ne_of_none e hst) (s04 _ _ e)
  have e25 := s5 _ _ n2 e2
  have ne12 : d1 ≠ d2 := fun e => by
    have q := s3 _ _ (s2 _ _ e1)
    rw [e, f2] at q
    cases q
  have u2 : ∀ z ∈ q2, z ∈ ns := fun z m => List.mem_of_mem_take (sub2 z m)
  have lq : ∀ {q : List Str}, q.Nodup → (∀ z ∈ q, z ∈ ns) → q.length ≤ 50 := fun a b => by
    have := nodup_sub_length a b
    omega
  have F : LG H5 st L d1 d2 ns q1 W1 r1 q2 W2 r2 := ⟨⟨S5, s05 _ _ eL, n7, hnd, s05 _ _ e1, w1, u1, e25, ⟨nq2, fun z m => hnm z (u2 z m), pos2, hr2', lq nq2 u2⟩, u2⟩, ne12, hnm⟩
  refine ⟨_, rfl, _, _, rfl, rfl, _, rfl, ite2 (fun _ => ?_) (fun _ => qc _ _ _ _ _ _ _ _ _ _ _ _ _ _ F)⟩
  refine ⟨_, rfl, d1, q1, W1, rfl, F.f.e1, w1.nd, by have := lq w1.nd u1; omega, fun D H6 zs s6 hp fD eD => ?_⟩
  have zn : zs.Nodup := hp.nodup_iff.mpr w1.nd
  have zu : ∀ z ∈ zs, z ∈ ns := fun z m => u1 z (hp.mem_iff.mp m)
  have neD : d1 ≠ D := ne_of_none F.f.e1 fD
  have F6 : LG H6 st L d1 D ns q1 W1 r1 zs W1 r1 := ⟨⟨S5.same s6, s6 _ _ F.f.eL, n7, hnd, s6 _ _ F.f.e1, w1, u1, eD, ⟨zn, fun z m => hnm z (zu z m), fun z m => w1.pos z (hp.mem_iff.mp m), w1.r0, lq zn zu⟩, zu⟩, neD, hnm⟩
  obtain ⟨a, ha, ea⟩ := at7 n7 (d := 6) (by decide) (by decide)
  obtain ⟨q3, F7⟩ := F6.put (v := r1) ha w1.r0
  exact ⟨_, rfl, _, rfl, _, rfl, _, rfl, L, _, 6, _, rfl, rfl, SqL.of F6.f.eL, ea, D, _, rfl, DPut.k (k := Sum.inr a) eD (by rw [wkv_len]; have := lq zn zu; omega), qc _ _ _ _ _ _ _ _ _ _ _ _ _ _ F7⟩
/-- law(script) -/
def spLaw (K : PySem.W.Frag) : Sp := fun vs H Q _ => ∃ (a : Addr) (ns : List Int), vs = [.ref a] ∧ SqL K H a (ns.map V.int) ∧ ns.length ≤ 63 ∧ ∀ H', Q (.bl true) H'
theorem ok_law {C f : Addr} {fd : FuncData} (F : Fun K "law" "law" slaw f fd) (B : Bl mg) (T : LawT P w K mg base C) : FnOk P w K mg base CX0 6 f fd ["_law_script"] (spLaw K) := by
  refine F.ok sclaw (fun vs H Q E h => ?_) (fun cdv A outer s H vs Q E hr h => ?_)
  · obtain ⟨a, ns, rfl, _⟩ := h
    rfl
  · obtain ⟨sa, nums, rfl, hsa, hl, kq⟩ := h
    obtain ⟨t5, h5, q5⟩ := law5 (outer := outer) (H0 := H) (E0' := E) T B hr kq
    have hr1 : Room 1 _ := hr.mono (by decide)
    have hr2 : Room 2 _ := hr.mono (by decide)
    have hr3 : Room 3 _ := hr.mono (by decide)
    refine ⟨_, pss_cons (ps_set (i := 1) sclaw.nd rfl (Or.inl rfl) (pe_cf T.cell hr1 pass0 (pa_cons (pv 0) (pa_cons pe_int pa_nil))))
      (pss_cons (ps_set (i := 2) sclaw.nd rfl (Or.inl rfl) (pe_cf T.names hr3 pass0 (pa_cons (pv 1) (pa_cons pe_int pa_nil))))
      (pss_cons (ps_set (i := 3) sclaw.nd rfl (Or.inl rfl) (pe_cf T.wts hr3 pass0 (pa_cons (pv 1) (pa_cons (pe_slice sl_list (pv 2) po_none (po_some pe_int)) pa_nil))))
      (pss_cons (ps_set (i := 4) sclaw.nd rfl (Or.inl rfl) pe_int)
      (pss_cons (ps_if (pt_cmpR op_eq (pe_cf T.take hr1 pass0 (pa_cons (pv 1) (pa_cons pe_int pa_nil))) pe_int (nomark _)) (pss_one (ps_set (i := 4) sclaw.nd rfl (Or.inl rfl) (pe_cf T.big hr2 pass0 (pa_cons (pv 1) pa_nil)))) pss_nil) h5)))), ?_⟩
    refine ⟨_, rfl, sa, nums, 0, rfl, by decide, hsa, hl, fun st n z hst h0 h1 h2 => ?_⟩
    have S1 : StAt (upd H st (.lst [.int n, .int z])) st := ⟨n, z, upd_same, h0, h1, h2⟩
    have s1 : Same H (upd H st (.lst [.int n, .int z])) := Same.new hst
    generalize upd H st (.lst [.int n, .int z]) = H1 at S1 s1
    refine ⟨_, rfl, st, 7, rfl, by decide, S1, fun L ns H2 n7 hnd hnm s2 S2 f2 nL eL => ?_⟩
    have s02 : Same H H2 := fun b o e => s2 _ _ (ne_of_none e hst) (s1 _ _ e)
    refine ⟨_, rfl, _, rfl, _, rfl, L, _, rfl, SqL.of eL, fun N hN => ?_⟩
    have s3 := Same.new (o := HO.lst (cutV (ns.map V.str) none (some 6))) hN
    have eN := cut_lst6 (H := H2) (L := N) (zs := ns) (by omega)
    generalize upd H2 N (.lst (cutV (ns.map V.str) none (some 6))) = H3 at s3 eN
    have tnd : (ns.take 6).Nodup := hnd.sublist (List.take_sublist _ _)
    refine ⟨st, N, ns.take 6, rfl, S2.same s3, eN, tnd, by rw [List.length_take]; omega, fun d1 H4 q1 W1 nq1 sub1 pos1 s4 S4 f1 e1 => ?_⟩
    have s04 : Same H H4 := fun b o e => s4 _ _ (ne_of_none e hst) (s3 _ _ (s02 _ _ e))
    have n1 : d1 ≠ st := (S2.same s3).free f1
    have eL4 : H4 L = some (lstO ns) := s4 _ _ nL (s3 _ _ eL)
    have u1 : ∀ z ∈ q1, z ∈ ns := fun z m => List.mem_of_mem_take (sub1 z m)
    have lq1 : q1.length ≤ 50 := by
      have := nodup_sub_length nq1 u1
      omega
    have wd : ∀ r, 0 ≤ r → Wd q1 W1 r := fun r h => ⟨nq1, fun z m => hnm z (u1 z m), pos1, h, lq1⟩
    refine ⟨_, rfl, st, 2, rfl, by decide, by decide, S4, fun d na za hd0 hd1 a1 a2 a3 => ?_⟩
    have S5 : StAt (upd H4 st (.lst [.int na, .int za])) st := ⟨na, za, upd_same, a1, a2, a3⟩
    have s5 : SameBut st H4 (upd H4 st (.lst [.int na, .int za])) := SameBut.set
    generalize upd H4 st (.lst [.int na, .int za]) = H5 at S5 s5
    have s05 : Same H H5 := fun b o e => s5 _ _ (ne_of_none e hst) (s04 _ _ e)
    refine ⟨rfl, _, rfl, ite2 (fun _ => ?_) (fun _ => q5 H5 sa st L d1 nums ns q1 W1 1 (s05.seq hsa) hl (s5 _ _ nL eL4) n7 hnd hnm (s5 _ _ n1 e1) (wd 1 (by decide)) u1)⟩
    refine ⟨_, rfl, st, rfl, S5, fun r1 H6 hr1' s6 S6 => ?_⟩
    have s06 : Same H H6 := fun b o e => s6 _ _ (ne_of_none e hst) (s05 _ _ e)
    exact q5 H6 sa st L d1 nums ns q1 W1 r1 (s06.seq hsa) hl (s6 _ _ nL (s5 _ _ nL eL4)) n7 hnd hnm (s6 _ _ n1 (s5 _ _ n1 e1)) (wd r1 hr1') u1
end
end Qp
namespace Qp
open PySem L2
section
variable {K : PySem.W.Frag} {mg : Str → Option Value} {h : Heap}
/-- a def of the text and the name that tells it -/
structure FnAt (K : PySem.W.Frag) (mg : Str → Option Value) (x qual : Str) (st : Stmt) : Prop where
  ex : ∃ f fd, Fun K x qual st f fd ∧ mg x = some (.ref f)
theorem fnAt (X : K.In h) (G : h.Ns mainGlobals mg) {x qual : Str} {st : Stmt} {f : Addr} {oc kV doc pm cdv ct : Value} {od an : Option Addr} {osl : Array (Option Value)}
    (a : PySem.W.nsIn K mainGlobals x = some (some (.ref f))) (l : K.lookup f = some ⟨oc, od, .func (PySem.W.fnOf x qual (defArgs st) (defBody st) (defScope st) .none kV doc pm an cdv ct), osl⟩) (c : PySem.W.codeIn K cdv qual = true) (k : PySem.W.keepIn K (.ref f) = true) :
    FnAt K mg x qual st := ⟨f, _, fun_mk (st := st) l c k, PySem.W.mg_of X G a⟩
theorem FnAt.cf {P : Program} {w : World} {base : Heap} {CX : CXT} {k : Nat} {ps : List Str} {sp : Sp} {x qual : Str} {st : Stmt} (A : FnAt K mg x qual st) (ok : ∀ f fd, Fun K x qual st f fd → FnOk P w K mg base CX k f fd ps sp)
    (b : ∀ (kV doc pm : Value) (an : Option Addr) (cdv ct : Value) (us : List Value), us.length = ps.length → bindArgs (PySem.W.fnOf x qual (defArgs st) (defBody st) (defScope st) .none kV doc pm an cdv ct) ⟨us, []⟩ = pure (ps.zip us)) : CF P w K mg base CX k x ps sp := by
  obtain ⟨f, fd, F, hm⟩ := A.ex
  exact ⟨f, fd, ok f fd F, hm, F.kp, F.binds b⟩
/-- a method of the text -/
structure MAt (K : PySem.W.Frag) (C : Addr) (m qual : Str) (st : Stmt) : Prop where
  ex : ∃ f fd, Fun K m qual st f fd ∧ Meth K C m f
theorem mAt {C : Addr} {m qual : Str} {st : Stmt} {f : Addr} {oc kV doc pm cdv ct : Value} {od an : Option Addr} {osl : Array (Option Value)}
    (a : PySem.W.findIn K (.ref C) m = some (some (.ref f))) (i : PySem.W.isFn K (.ref f) = true) (l : K.lookup f = some ⟨oc, od, .func (PySem.W.fnOf m qual (defArgs st) (defBody st) (defScope st) .none kV doc pm an cdv ct), osl⟩) (c : PySem.W.codeIn K cdv qual = true) (k : PySem.W.keepIn K (.ref f) = true) :
    MAt K C m qual st := ⟨f, _, fun_mk (st := st) l c k, ⟨a, i, k⟩⟩
theorem MAt.mf {P : Program} {w : World} {base : Heap} {k : Nat} {C : Addr} {ps : List Str} {sp : Sp} {m qual : Str} {st : Stmt} (A : MAt K C m qual st) (ok : ∀ f fd, Fun K m qual st f fd → FnOk P w K mg base CX0 k f fd ps sp)
    (b : ∀ (kV doc pm : Value) (an : Option Addr) (cdv ct : Value) (us : List Value), us.length = ps.length → bindArgs (PySem.W.fnOf m qual (defArgs st) (defBody st) (defScope st) .none kV doc pm an cdv ct) ⟨us, []⟩ = pure (ps.zip us)) : MF P w K mg base k C m ps sp := by
  obtain ⟨f, fd, F, M⟩ := A.ex
  exact ⟨f, fd, ok f fd F, M, F.binds b⟩
theorem stAt (X : K.In h) (G : h.Ns mainGlobals mg) {C : Addr} (aC : PySem.W.nsIn K mainGlobals "Scale" = some (some (.ref C)))
    (pg : PySem.W.plainGet K C Str.empty = true) (hd : PySem.W.hasDictIn K C = true) (po : PySem.W.plainOver K C = true) (sa : PySem.W.findIn K (.ref C) "__setattr__" = some (some (.builtin "object.__setattr__")))
    (n1 : PySem.W.findIn K (.ref C) "_weights" = some none) (n2 : PySem.W.findIn K (.ref C) "_rest" = some none) : STxt K mg C := ⟨⟨pg, hd, po, sa⟩, n1, n2, PySem.W.mg_of X G aC⟩
theorem sicAt {C : Addr} (g : STxt K mg C) (ha : PySem.W.findIn K (.ref C) "__class__" = some (some (.builtin "object.__class__"))) (hn : PySem.W.specialIn K (.builtin "object.__class__") "__get__" = some (some (.builtin "getset_descriptor.__get__"))) (ht : PySem.W.takesIn K (.builtin "object.__class__") = some true)
    (mo : PySem.W.mroIn K C (.type "object") = some true) : C8.InsC K C := ⟨g.cl, ha, hn, ht, mo, by
  unfold PySem.W.kitOne
  simp⟩
theorem sinitAt {f D : Addr} {oc doc pm cdv ct : Value} {od an : Option Addr} {osl : Array (Option Value)} {tk : Tok}
    (l : K.lookup f = some ⟨oc, od, .func (PySem.W.fnOf "__init__" "Scale.__init__" (defArgs sScaleinit) (defBody sScaleinit) (defScope sScaleinit) .none (.ref D) doc pm an cdv ct), osl⟩) (c : PySem.W.codeIn K cdv "Scale.__init__" = true) (k : PySem.W.keepIn K (.ref f) = true)
    (q : PySem.W.nsIn K D "rest" = some (some (.int 1 tk))) : SInit K f (PySem.W.fnOf "__init__" "Scale.__init__" (defArgs sScaleinit) (defBody sScaleinit) (defScope sScaleinit) .none (.ref D) doc pm an cdv ct) :=
  ⟨⟨oc, od, .none, .ref D, doc, pm, an, cdv, ct, osl, rfl, l, c, .inl ⟨rfl, rfl⟩, .inr ⟨D, rfl, fun p hp => by
    have e : p = (("rest" : Str), V.int 1) := by simpa using hp
    subst e
    exact ⟨_, q, _, rfl⟩⟩⟩, k⟩
theorem smkAt {P : Program} {w : World} {base : Heap} {C f : Addr} {fd : FuncData} (M : Mk K C f) (F : SInit K f fd) (ok : FnOk P w K mg base CX0 3 f fd ["self", "weights", "rest"] (spSI C)) : SMk P w K mg base C := by
  obtain ⟨mv, hK⟩ := FunD.kbinds0 (ps := ["self", "weights", "rest"]) F 2 ["rest"] [] (fun us _ ws => us ++ ws) (by decide) (fun q hq => by cases hq) (fun r1 _ r3 => r1.append r3)
    (fun D doc pm an cdv ct us mv ws h1 _ h3 => match us, ws, h1, h3 with | [_, _], [_], _, _ => rfl)
  obtain ⟨ds, hd, hb⟩ := FunD.binds0 (ps := ["self", "weights", "rest"]) F 2 (by decide) rfl
    (fun D doc pm an cdv ct us ks h1 h2 => match us, ks, h1, h2 with | [_, _], [_], _, _ => ⟨_, _, _, _, _, _, rfl, rfl, rfl⟩)
  exact ⟨f, fd, _, ds, M, ok, hK, hd, hb⟩
theorem all_mk {l : PySem.W.OpenLaw} {w : World} {fa C fS : Addr} {fdS : FuncData} (X : K.In h) (G : h.Ns mainGlobals mg) (hfa : mg "law" = some (.ref fa))
    (a0 : FnAt K mg "is_name" "is_name" sisname)
    (a1 : FnAt K mg "is_from_zero" "is_from_zero" sisfromzero)
    (a2 : FnAt K mg "_check_weights" "_check_weights" scheckweights)
    (a3 : FnAt K mg "_law_is_integer" "_law_is_integer" sLisinteger)
    (a4 : FnAt K mg "_law_cell" "_law_cell" sLcell)
    (a5 : FnAt K mg "_law_take" "_law_take" sLtake)
    (a6 : FnAt K mg "_law_name" "_law_name" sLname)
    (a7 : FnAt K mg "_law_names" "_law_names" sLnames)
    (a8 : FnAt K mg "_law_mixed" "_law_mixed" sLmixed)
    (a9 : FnAt K mg "_law_big" "_law_big" sLbig)
    (a10 : FnAt K mg "_law_weights" "_law_weights" sLweights)
    (a11 : FnAt K mg "_law_turned" "_law_turned" sLturned)
    (a12 : FnAt K mg "_law_weight" "_law_weight" sLweight)
    (a13 : FnAt K mg "_law_same" "_law_same" sLsame)
    (a14 : FnAt K mg "_law_made" "_law_made" sLmade)
    (a15 : FnAt K mg "_law_scale_fits" "_law_scale_fits" sLscalefits)
    (a16 : FnAt K mg "law" "law" slaw)
    (B : Bl mg) (g : STxt K mg C) (mk : Mk K C fS) (FS : SInit K fS fdS) (ic : C8.InsC K C) (sf : PySem.W.selfFirst K C = true)
    (m0 : MAt K C "weight" "Scale.weight" sScaleweight)
    (m1 : MAt K C "__add__" "Scale.__add__" sScaleadd)
    (m2 : MAt K C "__eq__" "Scale.__eq__" sScaleeq) :
    ∃ fd : FuncData, (∀ (s : Shared) (v : Value), BindsTo s fd ⟨[v], []⟩ [("_law_script", v)]) ∧ ∀ base : Heap, K.In base → base.Ns mainGlobals mg → FnOk l.prog w K mg base CX0 6 fa fd ["_law_script"] (spLaw K) := by
  obtain ⟨f, fd, F, hm⟩ := a16.ex
  have e := hfa.symm.trans hm
  cases e
  have F' := F
  obtain ⟨oc, od, kV, doc, pm, an, cdv, ct, osl, rfl, lk, hcd⟩ := F'.ex
  refine ⟨PySem.W.fnOf "law" "law" (defArgs slaw) (defBody slaw) (defScope slaw) .none kV doc pm an cdv ct, fun s v => .of_eq rfl, fun base _ _ => ?_⟩
  have h_is_name := a0.cf (P := l.prog) (w := w) (base := base) (fun f fd F => ok_isname F B ) (fun _ _ _ _ _ _ us hl => match us, hl with | [_], _ => rfl)
  have h_is_from_zero := a1.cf (P := l.prog) (w := w) (base := base) (fun f fd F => ok_fz F B ) (fun _ _ _ _ _ _ us hl => match us, hl with | [_], _ => rfl)
  have h__check_weights := a2.cf (P := l.prog) (w := w) (base := base) (fun f fd F => ok_ckw F B h_is_name h_is_from_zero) (fun _ _ _ _ _ _ us hl => match us, hl with | [_, _], _ => rfl)
  have h__law_is_integer := a3.cf (P := l.prog) (w := w) (base := base) (fun f fd F => ok_int F B ) (fun _ _ _ _ _ _ us hl => match us, hl with | [_], _ => rfl)
  have h__law_cell := a4.cf (P := l.prog) (w := w) (base := base) (fun f fd F => ok_cell F B ) (fun _ _ _ _ _ _ us hl => match us, hl with | [_, _], _ => rfl)
  have h__law_take := a5.cf (P := l.prog) (w := w) (base := base) (fun f fd F => ok_take F B ) (fun _ _ _ _ _ _ us hl => match us, hl with | [_, _], _ => rfl)
  have h__law_name := a6.cf (P := l.prog) (w := w) (base := base) (fun f fd F => ok_name F B h__law_take) (fun _ _ _ _ _ _ us hl => match us, hl with | [_, _], _ => rfl)
  have h__law_names := a7.cf (P := l.prog) (w := w) (base := base) (fun f fd F => ok_names F B h__law_name) (fun _ _ _ _ _ _ us hl => match us, hl with | [_, _], _ => rfl)
  have h__law_mixed := a8.cf (P := l.prog) (w := w) (base := base) (fun f fd F => ok_mixed F B h__law_take) (fun _ _ _ _ _ _ us hl => match us, hl with | [_, _], _ => rfl)
  have h__law_big := a9.cf (P := l.prog) (w := w) (base := base) (fun f fd F => ok_big F B h__law_take) (fun _ _ _ _ _ _ us hl => match us, hl with | [_], _ => rfl)
  have h__law_weights := a10.cf (P := l.prog) (w := w) (base := base) (fun f fd F => ok_wts F B h__law_take h__law_mixed h__law_big) (fun _ _ _ _ _ _ us hl => match us, hl with | [_, _], _ => rfl)
  have h__law_turned := a11.cf (P := l.prog) (w := w) (base := base) (fun f fd F => ok_turned F B ) (fun _ _ _ _ _ _ us hl => match us, hl with | [_], _ => rfl)
  have h__law_weight := a12.cf (P := l.prog) (w := w) (base := base) (fun f fd F => ok_lw F) (fun _ _ _ _ _ _ us hl => match us, hl with | [_, _, _], _ => rfl)
  have h__law_same := a13.cf (P := l.prog) (w := w) (base := base) (fun f fd F => ok_same F B h__law_is_integer) (fun _ _ _ _ _ _ us hl => match us, hl with | [_, _], _ => rfl)
  have smk : SMk l.prog w K mg base C := smkAt mk FS (ok_si FS g h__check_weights)
  have hW := m0.mf (P := l.prog) (w := w) (base := base) (fun f fd F => ok_wm F g) (fun _ _ _ _ _ _ us hl => match us, hl with | [_, _], _ => rfl)
  have h__law_made := a14.cf (P := l.prog) (w := w) (base := base) (fun f fd F => ok_made F B g smk) (fun _ _ _ _ _ _ us hl => match us, hl with | [_, _, _], _ => rfl)
  have h__law_scale_fits := a15.cf (P := l.prog) (w := w) (base := base) (fun f fd F => ok_fits F g hW h__law_same h__law_weight) (fun _ _ _ _ _ _ us hl => match us, hl with | [_, _, _, _], _ => rfl)
  have hA := m1.mf (P := l.prog) (w := w) (base := base) (fun f fd F => ok_sadd F B g hW smk) (fun _ _ _ _ _ _ us hl => match us, hl with | [_, _], _ => rfl)
  have hE := m2.mf (P := l.prog) (w := w) (base := base) (fun f fd F => ok_seq F B g ic) (fun _ _ _ _ _ _ us hl => match us, hl with | [_, _], _ => rfl)
  exact ok_law F B ⟨h__law_cell, h__law_take, h__law_name, h__law_names, h__law_big, h__law_weights, h__law_turned, h__law_weight, h__law_same, h__law_made, h__law_scale_fits, hW, hA, hE, g, sf⟩
end
theorem walk {l : PySem.W.OpenLaw} {q : Program} {loose : List Str} {XP : (Str → Option Value) → Heap → Prop} {YP : World → Heap → Prop} {d : DefRec} {K : Params → PySem.W.Frag} (hn : l.most = some 63) (hdf : d.params.defaults = [])
    (hY : ∀ (w : World) (h : Heap), YP w h → (K w.params).In h)
    (F : ∀ (w : World) (mg : Str → Option Value) (fa : Addr) (h : Heap), (K w.params).In h → h.Ns mainGlobals mg → mg d.name = some (.ref fa) →
      ∃ fd : FuncData, (∀ (s : Shared) (u : Value), BindsTo s fd ⟨[u], []⟩ [("_law_script", u)]) ∧ ∀ base : Heap, (K w.params).In base → base.Ns mainGlobals mg → FnOk l.prog w (K w.params) mg base CX0 6 fa fd ["_law_script"] (spLaw (K w.params))) :
    PySem.W.WalkO q loose XP YP l.row.toRowW d [] (fun f vs => PySem.call f vs) :=
  L2.walk_of (n := 63) (k := 6) (x := "_law_script") (CX := fun _ => CX0) (sp := fun w => spLaw (K w.params)) hn (by decide) hdf ⟨rfl, by decide, by decide⟩ hY F (fun _ _ a ns hl _ hS => ⟨a, ns, rfl, hS, hl, fun _ => rfl⟩) fun _ _ _ _ _ z => z
end Qp
open PySem PySem.W PyProof.Rows
set_option maxRecDepth 100000 in
set_option maxHeartbeats 0 in
theorem PySem.Challenge.cw_quietpairs_k68_scales_holds : PySem.Challenge.rw_quietpairs_k68_scales.Holds := by
  w_on; o_law; k_head; (case hw => w_witness2)
  k_fill
  refine Qp.walk (l := PySem.Challenge.rw_quietpairs_k68_scales) rfl rfl (fun w h Y => PySem.W.kIn_of Y) ?F
  case F =>
    intro w mg fa h KX G hmg
    refine' Qp.all_mk KX G hmg (Qp.fnAt KX G ?a0 ?l0 ?c0 ?k0) (Qp.fnAt KX G ?a1 ?l1 ?c1 ?k1) (Qp.fnAt KX G ?a2 ?l2 ?c2 ?k2) (Qp.fnAt KX G ?a3 ?l3 ?c3 ?k3) (Qp.fnAt KX G ?a4 ?l4 ?c4 ?k4) (Qp.fnAt KX G ?a5 ?l5 ?c5 ?k5) (Qp.fnAt KX G ?a6 ?l6 ?c6 ?k6) (Qp.fnAt KX G ?a7 ?l7 ?c7 ?k7) (Qp.fnAt KX G ?a8 ?l8 ?c8 ?k8) (Qp.fnAt KX G ?a9 ?l9 ?c9 ?k9) (Qp.fnAt KX G ?a10 ?l10 ?c10 ?k10) (Qp.fnAt KX G ?a11 ?l11 ?c11 ?k11) (Qp.fnAt KX G ?a12 ?l12 ?c12 ?k12) (Qp.fnAt KX G ?a13 ?l13 ?c13 ?k13) (Qp.fnAt KX G ?a14 ?l14 ?c14 ?k14) (Qp.fnAt KX G ?a15 ?l15 ?c15 ?k15) (Qp.fnAt KX G ?a16 ?l16 ?c16 ?k16) ⟨mg_none_of KX G ?z0, mg_none_of KX G ?z1, mg_none_of KX G ?z2, mg_none_of KX G ?z3, mg_none_of KX G ?z4, mg_none_of KX G ?z5, mg_none_of KX G ?z6, mg_none_of KX G ?z7, mg_none_of KX G ?z8, mg_none_of KX G ?z9, mg_none_of KX G ?z10, mg_none_of KX G ?z11, mg_none_of KX G ?z12, mg_none_of KX G ?z13, mg_none_of KX G ?z14, mg_none_of KX G ?z15⟩ (Qp.stAt KX G ?aC ?pg ?hd ?po ?sa ?n1 ?n2) ⟨?mk, ?i1, ?i2, ?kc⟩ (Qp.sinitAt ?i3 ?i4 ?i5 ?i6) (Qp.sicAt (Qp.stAt KX G ?aC2 ?pg2 ?hd2 ?po2 ?sa2 ?n12 ?n22) ?y1 ?y2 ?y3 ?y4) ?sf (Qp.mAt ?ma0 ?mi0 ?ml0 ?mc0 ?mk0) (Qp.mAt ?ma1 ?mi1 ?ml1 ?mc1 ?mk1) (Qp.mAt ?ma2 ?mi2 ?ml2 ?mc2 ?mk2)
    (case a0 => k_is); (case l0 => k_is); (case c0 => k_is); (case k0 => k_is)
    (case a1 => k_is); (case l1 => k_is); (case c1 => k_is); (case k1 => k_is)
    (case a2 => k_is); (case l2 => k_is); (case c2 => k_is); (case k2 => k_is)
    (case a3 => k_is); (case l3 => k_is); (case c3 => k_is); (case k3 => k_is)
    (case a4 => k_is); (case l4 => k_is); (case c4 => k_is); (case k4 => k_is)
    (case a5 => k_is); (case l5 => k_is); (case c5 => k_is); (case k5 => k_is)
    (case a6 => k_is); (case l6 => k_is); (case c6 => k_is); (case k6 => k_is)
    (case a7 => k_is); (case l7 => k_is); (case c7 => k_is); (case k7 => k_is)
    (case a8 => k_is); (case l8 => k_is); (case c8 => k_is); (case k8 => k_is)
    (case a9 => k_is); (case l9 => k_is); (case c9 => k_is); (case k9 => k_is)
    (case a10 => k_is); (case l10 => k_is); (case c10 => k_is); (case k10 => k_is)
    (case a11 => k_is); (case l11 => k_is); (case c11 => k_is); (case k11 => k_is)
    (case a12 => k_is); (case l12 => k_is); (case c12 => k_is); (case k12 => k_is)
    (case a13 => k_is); (case l13 => k_is); (case c13 => k_is); (case k13 => k_is)
    (case a14 => k_is); (case l14 => k_is); (case c14 => k_is); (case k14 => k_is)
    (case a15 => k_is); (case l15 => k_is); (case c15 => k_is); (case k15 => k_is)
    (case a16 => k_is); (case l16 => k_is); (case c16 => k_is); (case k16 => k_is)
    (case z0 => k_is); (case z1 => k_is); (case z2 => k_is); (case z3 => k_is); (case z4 => k_is); (case z5 => k_is); (case z6 => k_is); (case z7 => k_is); (case z8 => k_is); (case z9 => k_is); (case z10 => k_is); (case z11 => k_is); (case z12 => k_is); (case z13 => k_is); (case z14 => k_is); (case z15 => k_is)
    (case aC => k_is)
    (case pg => k_is)
    (case hd => k_is)
    (case po => k_is)
    (case sa => k_is)
    (case n1 => k_is)
    (case n2 => k_is)
    (case mk => k_is)
    (case i1 => k_is)
    (case i2 => k_is)
    (case kc => k_is)
    (case i3 => k_is)
    (case i4 => k_is)
    (case i5 => k_is)
    (case i6 => k_is)
    (case aC2 => k_is)
    (case pg2 => k_is)
    (case hd2 => k_is)
    (case po2 => k_is)
    (case sa2 => k_is)
    (case n12 => k_is)
    (case n22 => k_is)
    (case y1 => k_is)
    (case y2 => k_is)
    (case y3 => k_is)
    (case y4 => k_is)
    (case sf => first | k_is | rfl | decide +kernel)
    (case ma0 => k_is); (case mi0 => k_is); (case ml0 => k_is); (case mc0 => k_is); (case mk0 => k_is)
    (case ma1 => k_is); (case mi1 => k_is); (case ml1 => k_is); (case mc1 => k_is); (case mk1 => k_is)
    (case ma2 => k_is); (case mi2 => k_is); (case ml2 => k_is); (case mc2 => k_is); (case mk2 => k_is)
