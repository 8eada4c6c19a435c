import PyProof.Rows.All
import Wide.All
import OpenK.AllK
import Wide.FinOn
import PyProof.EqAt
import PyProof.EqKinds
import PyProof.TupleCall
import KE.GoesEnum
import HandS.Base
import HandS.Call
import HandS.List
import HandS.Comp
import HandS.Dict
import HandS.Iter
import HandS.Walk
import HandS.Words
import KE.KEqDict
import HandS.More
import KE.KFromBytes
import KE.KExcSuper
import HandS.Ends
import HandS.Exc
import HandS.TryOnly
import HandS.ExcOwn
import HandS.WordsExc
import HandS.ForMost
import HandS.IsInst
import HandS.DictComp
import HandS.Deep
import HandS.TupAny
import PySem.Challenge.RW_quietpairs_k01_people_refused
set_option Elab.async false
set_option linter.all false
set_option maxRecDepth 100000
set_option maxHeartbeats 8000000
/-! enumerate over a tuple -/
namespace L2
open PySem PySem.Spec PyProof.Rows

theorem q_enum_newT {t : Addr} {items : Array Value} :
    Meets (Builtin.«enumerate.__new__» ⟨[.type "enumerate", .ref t], []⟩) (fun _ R s => s.heap.IsTuple t items ∧
      R (.ok (.ret (.ref (s.heap.push { cls := .type "tuple_iterator", data := .fields #[.ref t, .int 0 0] }).objs.size))) { s with heap := (s.heap.push { cls := .type "tuple_iterator", data := .fields #[.ref t, .int 0 0] }).push { cls := .type "enumerate", data := .fields #[.none, .bool false, .ref s.heap.objs.size, rawInt 0, .none, .none] } }) :=
  .of_wp fun prog w A R s h => by
    obtain ⟨hp, g, d, tk, os⟩ := s; obtain ⟨h1, h⟩ := h
    have hsub := sub_enumerate
    have q1 : ∀ {A' : Around} {E : Value → Shared → Prop} {Q : Value → Shared → Prop}, Q (.ref hp.objs.size) ⟨hp.push { cls := .type "tuple_iterator", data := .fields #[.ref t, .int 0 0] }, g, d, tk, os⟩ → wpAny (model prog w) A' (pyIter (.ref t)) Q E ⟨hp, g, d, tk, os⟩ :=
      fun q => (begins_tuple t items).iter prog w _ _ ⟨hp, g, d, tk, os⟩ _ h1 q
    wp_walk using q1
    refine wpAny_stack_any fun st => wpAny_pure ?_
    split
    · rename_i c _ _ _ _ _
      cases (c == Value.type "enumerate")
      · wp_walk using q1
        exact ⟨_, rfl, h⟩
      · wp_walk using q1
        exact ⟨_, rfl, h⟩
    · wp_walk using q1
      exact ⟨_, rfl, h⟩
theorem q_call_enumT {prog : Program} {w : World} {A : Around} {E : Value → Shared → Prop} {s : Shared} {l : Addr} {items : Array Value} {Q : Value → Shared → Prop} (hL : s.heap.IsTuple l items)
    (h : ∀ h', IsEnum h' (s.heap.objs.size + 1) s.heap.objs.size 0 .none → h'.IsTupleIter s.heap.objs.size l 0 → h'.objs.size = s.heap.objs.size + 2 →
      (∀ b o, s.heap.get? b = some o → h'.get? b = some o) → Q (.ref (s.heap.objs.size + 1)) { s with heap := h' }) :
    wpAny (model prog w) A (call (.type "enumerate") [.ref l]) Q E s := by
  refine callType_new F.called_enumerate (by decide) (F.typeCall_enumerate_1 _) (F.newCall_enumerate_1 _) (fun obj => F.args_object_init_2 obj _) F.entry_enumerate_new
    (q_enum_newT (items := items)) ⟨hL, ?_⟩
  have hz : (s.heap.push { cls := .type "tuple_iterator", data := .fields #[.ref l, .int 0 0] }).objs.size = s.heap.objs.size + 1 := Heap.size_push ..
  show _ ∧ _
  rw [hz]
  have he : IsEnum ((s.heap.push { cls := .type "tuple_iterator", data := .fields #[.ref l, .int 0 0] }).push
      { cls := .type "enumerate", data := .fields #[.none, .bool false, .ref s.heap.objs.size, rawInt 0, .none, .none] }) (s.heap.objs.size + 1) s.heap.objs.size 0 .none := by
    have := Heap.get?_push_size (s.heap.push { cls := .type "tuple_iterator", data := .fields #[.ref l, .int 0 0] })
      (o := { cls := .type "enumerate", data := .fields #[.none, .bool false, .ref s.heap.objs.size, rawInt 0, .none, .none] }) rfl
    rw [hz] at this; exact this
  refine ⟨⟨_, he, rfl⟩, h _ he ⟨_, Heap.get?_push_of_some _ (Heap.get?_push_size _ rfl), rfl, rfl⟩ (by rw [Heap.size_push, hz]) fun b o x => Heap.get?_push_of_some _ (Heap.get?_push_of_some _ x)⟩

def IteT (K : PySem.W.Frag) (a : Addr) : It :=
  ⟨fun i H => ∃ (xs : List V) (x : V), SqT K H a xs ∧ xs[i]? = some x, fun i H v H' => ∃ T x, v = .ref T ∧ H T = none ∧ H' = upd H T (.tup [.int (i : Nat), x]) ∧ ∀ xs, SqT K H a xs → xs[i]? = some x, fun i H => ∃ xs : List V, SqT K H a xs ∧ xs.length ≤ i⟩
theorem tupIter_isTuple {h : Heap} {a : Addr} {its : Array Value} (p : IsTup h a its) : h.IsTuple a its := p
theorem turn_enumT {P : Program} {w : World} {K : PySem.W.Frag} {elts : List Expr} {kk : Nat} {tpos : Pos} (a e it : Addr) :
    Turn P w K (.Tuple elts kk tpos) (IteT K a) [e, it] e (fun i h => (∃ old, IsEnum h e it ((i : Nat) : Int) old) ∧ h.IsTupleIter it a i ∧ e ≠ it) where
  mem := by simp
  obj := fun i h st b hb => by
    obtain ⟨⟨old, he⟩, ⟨o, ho, hc, hd⟩, _⟩ := st
    have e' : b = e ∨ b = it := by simpa using hb
    rcases e' with z | z
    · rw [z]; exact ⟨_, he, fun v q => nomatch q⟩
    · rw [z]; exact ⟨o, ho, fun v q => by rw [hd] at q; cases q⟩
  keep := fun i h h' st k => let ⟨⟨old, he⟩, hi, hne⟩ := st; ⟨⟨old, k e (by simp) _ he⟩, hi.at fun o q => k it (by simp) o q, hne⟩
  item := by
    intro X hP hw hK hc i pins s σ H E I hf st hg
    subst hP hw hK
    obtain ⟨⟨old, he⟩, hit, hne⟩ := st
    obtain ⟨xs, x, hq, hx⟩ := hg
    obtain ⟨its, rv, p, hz⟩ := I.tuple hq
    obtain ⟨u, hu, ru⟩ := rv.get hx
    have hel : e < s.heap.objs.size := Heap.lt_size he
    have hil : it < s.heap.objs.size := by obtain ⟨_, q, _⟩ := hit; exact Heap.lt_size q
    have hilt : i < its.toArray.size := by
      have := (List.getElem?_eq_some_iff.mp hu).1
      simpa using this
    have hai : a ≠ it := by
      obtain ⟨o1, e1, _, n1, d1⟩ := p
      obtain ⟨o2, e2, _, d2⟩ := hit
      intro z; rw [z, e2] at e1; cases e1; rw [d2] at d1; cases d1
    have hae : a ≠ e := by
      obtain ⟨o1, e1, _, n1, d1⟩ := p
      intro z
      rw [z, he] at e1; cases e1; cases d1
    have D := Draws.tuple (prog := X.prog) (w := X.w) (A := X.A.in1) (by rw [show X.A.in1.handled = none from I.ok.hd hc]) it a hai its.toArray
    refine wpAny_pyNext_enum_itemD D he ⟨hit, p⟩ hilt hne (by
      intro z
      have z' : e = it ∨ e = a := by simpa using z
      rcases z' with z | z
      · exact hne z
      · exact hae z.symm) fun x' h' tk hx' ho hst' hT hsz hk => ?_
    have hxu : x' = u := by
      have e1 : its.toArray[i]? = some u := by simpa using hu
      rw [e1] at hx'; exact (Option.some.inj hx').symm
    subst hxu
    obtain ⟨hit', _⟩ := hst'
    refine ⟨_, rfl, wpAny_letOwnedTupleGo_enum (s := { s with heap := h', toks := tk + 1 }) ho fun h'' he' sb => ?_⟩
    have hT2 : h''.get? s.heap.objs.size = some { cls := .type "tuple", data := .seq #[.int i tk, x'] } := (sb.2 _ (Nat.ne_of_gt hel)).trans hT
    have new : ObjOk X.prog X.w (upd H s.heap.objs.size (.tup [.int (i : Nat), x])) h'' s.heap.objs.size (.tup [.int (i : Nat), x]) :=
      ⟨by show 2 ≤ sizeLine; decide, [.int i tk, x'], .cons ⟨_, rfl⟩ (.cons ru .nil), ⟨_, hT2, rfl, _, rfl⟩⟩
    have I1 : Inv X pins σ (upd H s.heap.objs.size (.tup [.int (i : Nat), x])) { s with heap := h'', toks := tk + 1 } :=
      I.turnedNew (ch := [e, it]) (fun b ob hb q => (sb.2 b (fun z => hb (by simp [z]))).trans (hk b ob (fun z => hb (by simp [z])) (fun z => hb (by simp [z])) q)) hf (Nat.le_refl _) new
    refine ⟨.ref s.heap.objs.size, _, I1, rfl, ⟨_, x, rfl, I.hok.fresh (Nat.le_refl _), rfl, fun ys hy => by rw [I.tuple_inj hy hq]; exact hx⟩, ⟨⟨x', ?_⟩, hit'.at fun o q => (sb.2 it (Ne.symm hne)).trans q, hne⟩, fun b hb => ?_⟩
    · have e1 : ((i + 1 : Nat) : Int) = (i : Int) + 1 := by omega
      rw [e1]; exact he'
    · have hb' : b < s.heap.objs.size := by
        have e' : b = e ∨ b = it := by simpa using hb
        rcases e' with z | z
        · rw [z]; exact hel
        · rw [z]; exact hil
      rw [upd_ne (Nat.ne_of_lt hb')]
      exact (hf b hb).1
  done := by
    intro X hP hw hK hc i pins s σ H E I hf st hg
    subst hP hw hK
    obtain ⟨⟨old, he⟩, hit, hne⟩ := st
    obtain ⟨xs, hq, hx⟩ := hg
    obtain ⟨its, rv, p, hz⟩ := I.tuple hq
    obtain ⟨f0, f1, f2, f3, f4, f5⟩ := hf it (by simp)
    have hl := rv.length
    have hai : a ≠ it := by
      obtain ⟨o1, e1, _, n1, d1⟩ := p
      obtain ⟨o2, e2, _, d2⟩ := hit
      intro z; rw [z, e2] at e1; cases e1; rw [d2] at d1; cases d1
    have hnone : its.toArray[i]? = none := by simp; omega
    unfold pyNext
    have hT : s.TypeIs (.ref e) "enumerate" := ⟨_, he, rfl⟩
    refine wpAny_bind (wpAny_attempt (wpAny_callSpecial?_slot (name := Str.ofString "__next__") hT F.slot_enumerate_next
      (wpAny_call_entry F.slot_enumerate_next hT F.entry_enumerate_next ?_ (F.args_enumerate_next_1 _))))
    show wpAny _ _ (field (.ref e) 2 >>= _) _ _ _
    refine wpAny_bind (wpAny_field he rfl (x := .ref it) rfl ?_)
    refine wpAny_bind (wpAny_nextOf_tuple_end (by rw [show X.A.in1.handled = none from I.ok.hd hc]) hit p hnone fun h' x he' hx' => ?_)
    obtain ⟨o, ho, hc'⟩ := hx'
    refine wpAny_bind (wpAny_isInstance (T := "StopIteration") (b := true) ⟨o, ho, hc'⟩ isSubtype_stop ?_)
    exact wpAny_pure ⟨rfl, I.turned (t' := s.toks) (fun b o hb q => he' b o hb q) f0 f1 f3 f4 f5⟩
  self := fun A i s Q E st h => let ⟨⟨_, he⟩, _⟩ := st; wpAny_pyIter_enum he h
theorem walk_enumT {K : PySem.W.Frag} {a : Addr} {xs : List V} : Walk (IteT K a) xs.length (fun H => SqT K H a xs) (YPair (fun i => some (.int (i : Nat))) (fun i => xs[i]?)) := by
  refine ⟨fun i _ hi q => ⟨xs, xs[i], q, by simp [hi]⟩, fun _ q => ⟨xs, q, Nat.le_refl _⟩, fun i H v H' _ q y => ?_⟩
  obtain ⟨T, x, h1, h2, h3, h4⟩ := y
  exact ⟨T, .int (i : Nat), x, h1, h2, h3, rfl, h4 xs q⟩
theorem enum_or {K : PySem.W.Frag} {H : Hp} {a : Addr} {xs : List V} {R : It → Hp → Prop} (hq : SqL K H a xs ∨ SqT K H a xs)
    (key : ∀ (J : It) (G : Hp → Prop), Walk J xs.length G (YPair (fun i => some (.int (i : Nat))) (fun i => xs[i]?)) → (∀ H', Same H H' → G H') → R J H) : (SqL K H a xs ∧ R (Ite K a) H) ∨ (SqT K H a xs ∧ R (IteT K a) H) := by
  rcases hq with hq | hq
  · exact .inl ⟨hq, key _ _ walk_enum fun H' s => s.seq hq⟩
  · exact .inr ⟨hq, key _ _ walk_enumT fun H' s => by
      rcases hq with (h | ⟨o, h⟩) | h
      · exact .inl (.inl (s _ _ h))
      · exact .inl (.inr ⟨o, s _ _ h⟩)
      · exact .inr h⟩
def iEnumT (K : PySem.W.Frag) (ta : TA) : TI := fun σ H R => ta σ H fun vs H1 => ∃ a xs, vs = [.ref a] ∧ (SqL K H1 a xs ∨ SqT K H1 a xs) ∧
  ∀ (J : It) (G : Hp → Prop), Walk J xs.length G (YPair (fun i => some (.int (i : Nat))) (fun i => xs[i]?)) → (∀ H', Same H1 H' → G H') → R J H1
theorem pi_enumT {X : Cx} {e : Expr} {ta : TA} {p pos tpos : Pos} {elts : List Expr} {kk : Nat} (hg : Gl X "enumerate") (hm : X.mg "enumerate" = none) (ha : PA X [e] ta) (hs : starEach [e] X.env = [(false, eval e X.env)] := by rfl) :
    PI X (.Tuple elts kk tpos) (.Call (.Name "enumerate" p) [e] [] pos) (iEnumT X.K ta) := by
  refine ⟨fun pins s σ H R I h => ?_⟩
  refine Call_ (ld_blt I hg hm boot_enumerate (PyProof.Rows.callWith_type1 (thn (ha.run pos pins s σ H _ I h) fun us s1 ⟨vs, H1, I1, r1, q1⟩ => ?_) hs rfl))
  obtain ⟨a, xs, ex, hq0, key⟩ := q1
  have hq := enum_or (R := R) hq0 key
  subst ex
  cases r1 with
  | cons r rr =>
    cases rr
    cases r
    rcases hq with ⟨hq, q⟩ | ⟨hq, q⟩
    · obtain ⟨its, rv, p', hz⟩ := I1.list hq
      refine call_enumerate_list p'.isList fun h' he hit hsz hk => wpAny_pyIter_enum he ?_
      have I2 : Inv X pins σ H1 { s1 with heap := h' } := I1.kept (t' := s1.toks) hk
      refine ⟨s1.heap.objs.size + 1, [s1.heap.objs.size + 1, s1.heap.objs.size], _, _, H1, rfl, I2, turn_enum a (s1.heap.objs.size + 1) s1.heap.objs.size, ⟨⟨.none, he⟩, hit, Nat.succ_ne_self _⟩, fun b hb => ?_, q⟩
      have e' : b = s1.heap.objs.size + 1 ∨ b = s1.heap.objs.size := by simpa using hb
      have hle : s1.heap.objs.size ≤ b := by
        rcases e' with z | z
        · rw [z]; exact Nat.le_add_right _ _
        · rw [z]; exact Nat.le_refl _
      exact I1.fpOk hle (I1.hok.fresh hle)
    · obtain ⟨its, rv, p', hz⟩ := I1.tuple hq
      refine q_call_enumT p' fun h' he hit hsz hk => wpAny_pyIter_enum he ?_
      have I2 : Inv X pins σ H1 { s1 with heap := h' } := I1.kept (t' := s1.toks) hk
      refine ⟨s1.heap.objs.size + 1, [s1.heap.objs.size + 1, s1.heap.objs.size], _, _, H1, rfl, I2, turn_enumT a (s1.heap.objs.size + 1) s1.heap.objs.size, ⟨⟨.none, he⟩, hit, Nat.succ_ne_self _⟩, fun b hb => ?_, q⟩
      have e' : b = s1.heap.objs.size + 1 ∨ b = s1.heap.objs.size := by simpa using hb
      have hle : s1.heap.objs.size ≤ b := by
        rcases e' with z | z
        · rw [z]; exact Nat.le_add_right _ _
        · rw [z]; exact Nat.le_refl _
      exact I1.fpOk hle (I1.hok.fresh hle)
end L2
/-! x in a list or tuple of texts, x of any kind -/
namespace L2
open PySem PySem.Spec PyProof.Rows
open AutoSeq1 (wpAny_loadPart')
open MeetsSeq MeetsSeq2 MeetsSeq3 SeqRoads2 SeqAt
theorem q_str_eq_dict (b : Str) (u : Tok) (l : Addr) (o : Obj) (hc : o.cls = .type "dict") (hd : ∃ es ep, o.data = .dict es ep) :
    Meets (Builtin.«str.__eq__» ⟨[.str b u, .ref l], []⟩) (fun _ R s => s.heap.get? l = some o ∧ R (.ok (.ret .notImplemented)) s) :=
  .of_wp fun prog w A R s h => by
    obtain ⟨hp, g, d, tk, os⟩ := s; obtain ⟨hl, h⟩ := h
    obtain ⟨c, dd, dt, sl⟩ := o
    obtain ⟨es, ep, hd⟩ := hd
    simp only at hc hd
    subst hc hd
    wp_walk using wpAny_loadPart' hl, wpAny_load hl; exact ⟨_, rfl, h⟩
theorem q_dict_eq_str (l : Addr) (o : Obj) (hc : o.cls = .type "dict") (b : Str) (u : Tok) :
    Meets (Builtin.«dict.__eq__» ⟨[.ref l, .str b u], []⟩) (fun _ R s => s.heap.get? l = some o ∧ R (.ok (.ret .notImplemented)) s) :=
  .of_wp fun prog w A R s h => by
    obtain ⟨hp, g, d, tk, os⟩ := s; obtain ⟨hl, h⟩ := h
    have f1 := F.sub_str_dict
    show wpAny _ _ (Builtin.Dict.dictSlotArgs "__eq__" ⟨[.ref l, .str b u], []⟩ >>= _) _ _ _
    refine wpAny_bind ?_
    unfold Builtin.Dict.dictSlotArgs
    refine wpAny_bind (wpAny_notOrdered_dict (show Shared.TypeIs ⟨hp, g, d, tk, os⟩ (.ref l) "dict" from ⟨_, hl, hc⟩) ?_)
    show wpAny _ _ (pure (Value.ref l, Value.str b u)) _ _ _
    refine wpAny_pure ?_
    wp_walk
    exact ⟨_, rfl, h⟩
theorem q_str_dict {A : Around} {s : Shared} {l : Addr} {o : Obj} (b : Str) (u : Tok) (hl : s.heap.get? l = some o) (hc : o.cls = .type "dict") (hd : ∃ es ep, o.data = .dict es ep) (hu : A.units < cLine) : EqAt A s (.str b u) (.ref l) false := fun prog w E Q h => by
  unfold eqBool
  refine wpAny_holding ?_
  refine wpAny_ite_split (fun hab => absurd (eq_of_beq hab) nofun) (fun _ => ?_)
  refine wpAny_bind ?_
  refine rc_eq_decline_or (k := false) (typeIs_str s b u) ⟨_, hl, hc⟩ (by decide) F.sub_dict_str F.slot_str_eq F.slot_dict_eq_refl
    (fun _ hq => call_meets F.slot_str_eq (typeIs_str s b u) F.entry_str_eq (F.args_str_eq_2 _ _) (q_str_eq_dict b u l o hc hd) ⟨hl, hq⟩)
    (fun _ hq => call_meets F.slot_dict_eq_refl ⟨_, hl, hc⟩ F.entry_dict_eq (F.args_dict_eq_2 _ _) (q_dict_eq_str l o hc b u) ⟨hl, hq⟩)
    (fun _ hq => wpAny_of_eq (rfl : isSame (.str b u) (.ref l) = pure false) hq) (.inr hu) (wpAny_truthy_bool h)
/-- a value that may stand where a name is asked -/
inductive EltV (H : Hp) : V → Prop where
  | flat {x : V} (h : flatV x = true) : EltV H x
  | lst {a : Addr} {xs : List V} (h : H a = some (.lst xs)) : EltV H (.ref a)
  | tup {a : Addr} {xs : List V} (h : H a = some (.tup xs)) : EltV H (.ref a)
  | dct {a : Addr} {kvs : List (Key × V)} (h : H a = some (.dK kvs)) : EltV H (.ref a)
theorem EltV.same {H H' : Hp} (s : Same H H') {x : V} (h : EltV H x) : EltV H' x := by
  cases h with
  | flat h => exact .flat h
  | lst h => exact .lst (s _ _ h)
  | tup h => exact .tup (s _ _ h)
  | dct h => exact .dct (s _ _ h)
def inS (x : V) (ss : List Str) : Bool := ss.any fun z => decide (x = .str z)
theorem inS_iff {x : V} {ss : List Str} : inS x ss = true ↔ ∃ z ∈ ss, x = .str z := by
  unfold inS
  rw [List.any_eq_true]
  simp
theorem inS_str {z : Str} {ss : List Str} : inS (.str z) ss = decide (z ∈ ss) := by
  by_cases h : z ∈ ss
  · rw [decide_eq_true h]
    exact inS_iff.mpr ⟨z, h, rfl⟩
  · rw [decide_eq_false h]
    cases e : inS (.str z) ss with
    | false => rfl
    | true =>
      obtain ⟨y, hy, e⟩ := inS_iff.mp e
      cases e
      exact absurd hy h
def eqS (x : V) (u : Value) : Bool := match u with
  | .str z _ => decide (x = .str z)
  | _ => false
theorem any_eqS {x : V} : ∀ {ss : List Str} {us : List Value}, Vals (ss.map V.str) us → us.any (eqS x) = inS x ss
  | [], _, .nil => rfl
  | z :: ss, u :: us, .cons r t => by
    obtain ⟨k, rfl⟩ := r
    have e := any_eqS (x := x) (ss := ss) (us := us) t
    show (eqS x (.str z k) || us.any (eqS x)) = (decide (x = .str z) || ss.any fun z => decide (x = .str z))
    rw [e]
    rfl
theorem eqAt_S {X : Cx} {pins : List (Addr × Obj)} {σ : St} {H : Hp} {s : Shared} {A : Around} (I : Inv X pins σ H s) (hu : A.units < cLine) {x : V} {v : Value} (rx : RelV x v) (ex : EltV H x) (z : Str) (k : Tok) : EqAt A s (.str z k) v (decide (x = .str z)) := by
  cases ex with
  | flat fx =>
    cases x with
    | non => cases rx; exact EqAt.str_none z k
    | bl b => cases rx; exact EqAt.str_bool z k b
    | int b => obtain ⟨t, rfl⟩ := rx; exact EqAt.str_int z k b t
    | str b =>
      obtain ⟨t, rfl⟩ := rx
      have e := EqAt.str_str (A := A) (s := s) z k b t
      have q : (z == b) = decide (V.str b = V.str z) := by
        by_cases h : z = b
        · subst h; simp
        · have h2 : ¬ V.str b = V.str z := fun y => h (V.str.inj y).symm
          rw [decide_eq_false h2]
          simpa using h
      rw [← q]
      exact e
    | _ => exact absurd (show false = true from fx) Bool.false_ne_true
  | @lst a xs h =>
    cases (show v = Value.ref a from rx)
    obtain ⟨_, its, n, _, h1⟩ := (show ObjOk X.prog X.w H s.heap a (.lst xs) from I.hok a _ h)
    exact EqAt.str_list z k (items := its.toArray) ⟨_, h1, rfl, n, rfl⟩ hu
  | @tup a xs h =>
    cases (show v = Value.ref a from rx)
    obtain ⟨_, its, _, h1⟩ := (show ObjOk X.prog X.w H s.heap a (.tup xs) from I.hok a _ h)
    exact EqAt.str_tuple z k h1 hu
  | @dct a kvs h =>
    cases (show v = Value.ref a from rx)
    obtain ⟨_, _, vs, _, o, es, ep, h1, h2, h3, _⟩ := (show ObjOk X.prog X.w H s.heap a (.dK kvs) from I.hok a _ h)
    exact q_str_dict z k h1 h2.1 ⟨_, _, h3⟩ hu
theorem mem_eqS {X : Cx} {pins : List (Addr × Obj)} {σ : St} {H : Hp} {s : Shared} {A : Around} (I : Inv X pins σ H s) (hu : A.units < cLine) {x : V} {v : Value} (rx : RelV x v) (ex : EltV H x) : ∀ {ss : List Str} {us : List Value}, Vals (ss.map V.str) us → ∀ u ∈ us, EqAt A s u v (eqS x u)
  | [], _, .nil => fun u hu => by cases hu
  | z :: ss, u :: us, .cons r t => fun u' hu' => by
    rcases List.mem_cons.mp hu' with rfl | hu'
    · obtain ⟨k, rfl⟩ := r
      exact eqAt_S I hu rx ex z k
    · exact mem_eqS I hu rx ex t u' hu'
def rInS (K : PySem.W.Frag) (neg : Bool) : R2 := fun x y H Q => ∃ p ss, y = .ref p ∧ (SqL K H p (ss.map V.str) ∨ SqT K H p (ss.map V.str)) ∧ EltV H x ∧ Q (.bl (if neg then !inS x ss else inS x ss)) H
theorem op_inS {X : Cx} (hu : X.A.units + 64 < cLine) : OpR X (compareOp .In) (rInS X.K false) := by
  intro pins s σ H x y v u Q I rx ry h
  obtain ⟨p, ss, rfl, hq, ex, q⟩ := h
  cases ry
  rcases hq with hq | hq
  · obtain ⟨its, r, pl, hz⟩ := I.list hq
    refine SeqAt.in_listAt (eqS x) pl.isList (fun w hw => mem_eqS I (by first | exact Nat.lt_of_le_of_lt (Nat.le_add_right _ 64) hu | exact Nat.lt_of_le_of_lt (Nat.add_le_add_left (by decide) _) hu) rx ex r w (by simpa using hw)) ⟨.bl _, H, I, rfl, ?_⟩
    rw [show its.toArray.any (eqS x) = its.any (eqS x) by simp, any_eqS r]
    exact q
  · obtain ⟨its, r, pl, hz⟩ := I.tuple hq
    refine SeqAt.in_tupleAt (eqS x) pl (fun w hw => mem_eqS I (by first | exact Nat.lt_of_le_of_lt (Nat.le_add_right _ 64) hu | exact Nat.lt_of_le_of_lt (Nat.add_le_add_left (by decide) _) hu) rx ex r w (by simpa using hw)) ⟨.bl _, H, I, rfl, ?_⟩
    rw [show its.toArray.any (eqS x) = its.any (eqS x) by simp, any_eqS r]
    exact q
theorem op_notInS {X : Cx} (hu : X.A.units + 64 < cLine) : OpR X (compareOp .NotIn) (rInS X.K true) := by
  intro pins s σ H x y v u Q I rx ry h
  obtain ⟨p, ss, rfl, hq, ex, q⟩ := h
  cases ry
  rcases hq with hq | hq
  · obtain ⟨its, r, pl, hz⟩ := I.list hq
    refine SeqAt.notIn_listAt (eqS x) pl.isList (fun w hw => mem_eqS I (by first | exact Nat.lt_of_le_of_lt (Nat.le_add_right _ 64) hu | exact Nat.lt_of_le_of_lt (Nat.add_le_add_left (by decide) _) hu) rx ex r w (by simpa using hw)) ⟨.bl _, H, I, rfl, ?_⟩
    rw [show its.toArray.any (eqS x) = its.any (eqS x) by simp, any_eqS r]
    exact q
  · obtain ⟨its, r, pl, hz⟩ := I.tuple hq
    refine SeqAt.notIn_tupleAt (eqS x) pl (fun w hw => mem_eqS I (by first | exact Nat.lt_of_le_of_lt (Nat.le_add_right _ 64) hu | exact Nat.lt_of_le_of_lt (Nat.add_le_add_left (by decide) _) hu) rx ex r w (by simpa using hw)) ⟨.bl _, H, I, rfl, ?_⟩
    rw [show its.toArray.any (eqS x) = its.any (eqS x) by simp, any_eqS r]
    exact q
end L2
/-! sorted(t), t a tuple of texts -/
namespace L2
open PySem PySem.Spec PyProof.Rows
theorem q_collectT {prog : Program} {w : World} {A : Around} {E : Value → Shared → Prop} {s : Shared} {l : Addr} {vs : List Value} {Q : List Value → Shared → Prop} (hl : IsTup s.heap l vs.toArray)
    (h : ∀ h', (∀ b o, s.heap.get? b = some o → h'.get? b = some o) → Q vs { s with heap := h' }) (hsz : vs.length ≤ sizeLine) :
    wpAny (model prog w) A (collect (.ref l)) Q E s := by
  obtain ⟨o, ho, hc, n, hd⟩ := id hl
  have F := h ((s.heap.push (seqObj "list" #[] 0)).update s.heap.objs.size (Obj.mapSeq (· ++ vs.toArray))) (fun b u e => by
    rw [Heap.get?_update_ne _ _ _ _ (Nat.ne_of_lt (Heap.lt_size e))]
    exact Heap.get?_push_of_some _ e)
  unfold collect
  refine wpAny_bind (wpAny_runValue (codeAny_builtin entry_proto_collect' ?_))
  show wpAny _ _ (do again (.builtin "list.__iadd__" ⟨[← newList [], .ref l], []⟩)) _ _ s
  refine wpAny_bind (wpAny_newList (wpAny_pure ⟨Code.quiet_builtin _ (by decide +kernel), codeAny_builtin entry_list_iadd' ?_⟩))
  show wpAny _ _ (Builtin.List.listExtendWith (.ref s.heap.objs.size) (.ref l) (.ref s.heap.objs.size)) _ _ { s with heap := s.heap.push (seqObj "list" #[] 0) }
  unfold Builtin.List.listExtendWith
  have ho' : (s.heap.push (seqObj "list" #[] 0)).get? l = some o := Heap.get?_push_of_some _ ho
  refine wpAny_bind (wpAny_typeOf (T := "tuple") ⟨o, ho', hc⟩ ?_)
  rw [if_pos (by rw [show (Value.type "tuple" == Value.type "tuple") = true by rfl]; simp)]
  refine wpAny_bind (listItems_at ho' hd ?_)
  refine wpAny_bind (listItems_at (xs := #[]) (n := 0) (Heap.get?_push_size _ rfl) rfl ?_)
  rw [if_neg (by simp)]
  refine wpAny_bind (listUpdate_at (xs := #[]) (n := 0) (Heap.get?_push_size _ rfl) rfl ?_ (Nat.zero_le _) (by show (#[] ++ vs.toArray).size ≤ sizeLine + 1; simp only [Array.size_append, List.size_toArray, List.length_nil]; omega))
  refine wpAny_pure ?_
  show wpAny (model prog w) A (do
      let o ← load s.heap.objs.size
      match o.data with
      | .seq xs _ => pure xs.toList
      | _ => unsupported "internal:collect") Q E { s with heap := (s.heap.push (seqObj "list" #[] 0)).update s.heap.objs.size (Obj.mapSeq (· ++ vs.toArray)) }
  refine wpAny_bind (wpAny_load (get?_update_seq (Heap.get?_push_size _ rfl) _) ?_)
  show wpAny _ _ (pure ((#[] : Array Value) ++ vs.toArray).toList) Q E _
  rw [show ((#[] : Array Value) ++ vs.toArray).toList = vs by simp]
  exact wpAny_pure F
section
variable {X : Cx}
def rSortedST (K : PySem.W.Frag) : List V → Hp → VK → Prop := fun vs H Q => ∃ (a : Addr) (xs : List Str), vs = [V.ref a] ∧ SqT K H a (xs.map V.str) ∧ xs.length < 64 ∧
  ∀ (ys : List Str) (p : Addr), ys.Perm xs → sortedS ys = true → H p = none → Q (.ref p) (upd H p (.lst (ys.map V.str)))
theorem cr_sortedST : CallR X (.builtin "sorted") (rSortedST X.K) := by
  intro pins s σ H xs us Q I r q
  obtain ⟨a, ks, ex, hd, h64, q⟩ := q
  subst ex
  obtain ⟨u, eu, rx⟩ := vals1 r
  subst eu
  cases rx
  obtain ⟨its, rv, ht, hz⟩ := I.tuple hd
  have hal : its.length = ks.length := by
    have e := rv.length
    rw [List.length_map] at e
    exact e.symm
  have hS : StrsAre its ks := rv.strs
  refine Calls.call_function_entry PyProof.Rows.kind_sorted PyProof.Rows.plain_sorted PyProof.Rows.entry_sorted (PyProof.Rows.args_sorted1 _) ?_
  unfold Builtin.«sorted»
  refine wpAny_bind (m := checkCount "sorted" 1 1 _) (wpAny_pure ?_)
  refine wpAny_bind (q_collectT ht (fun h' hk => ?_) (by rw [hal, sizeLine_eq]; omega))
  have I1 : Inv X pins σ H { s with heap := h' } := I.kept (t' := s.toks) hk
  refine wpAny_bind (wpAny_newList ?_ (by rw [hal, sizeLine_eq]; omega))
  have hoL : (h'.push (seqObj "list" its.toArray 0)).get? h'.objs.size = some (seqObj "list" its.toArray 0) := Heap.get?_push_size _ rfl
  show wpAny _ _ _ _ _ { s with heap := h'.push (seqObj "list" its.toArray 0) }
  refine wpAny_bind (wpAny_holding (wpAny_call_entry PyProof.Rows.slot_list_sort ⟨_, hoL, rfl⟩ PyProof.Rows.entry_list_sort
    (list_sort_treeK strKind_oneLt (s := { s with heap := h'.push (seqObj "list" its.toArray 0) }) hoL hS.keysOf (fun v₁ v₂ rest e => keyKind_strs (by rw [← e]; exact hS)) (by rw [hal]; exact h64) fun st' hp hs => ⟨_, rfl, ?_⟩)
    (PyProof.Rows.args_list_sort _)))
  obtain ⟨ys, g1, g2, g3⟩ := sorted_out_str hS hp hs
  obtain ⟨e', he'⟩ := PyProof.Rows.sortedHeap_at (vs := its) (out := (arrOf st').map (·.2)) hoL
  have hlen : (ys.map V.str).length ≤ sizeLine := by
    rw [List.length_map, g2.length_eq]
    exact Nat.le_trans (Nat.le_of_lt h64) (by decide)
  refine wpAny_pure ⟨_, rfl, .ref h'.objs.size, upd H h'.objs.size (.lst (ys.map V.str)), I1.laid (t' := s.toks) (fun b u e => ?_) (Nat.le_refl _)
    (show ObjOk X.prog X.w _ _ _ (.lst (ys.map V.str)) from ⟨hlen, ((arrOf st').map (·.2)).toList, e', vals_of_strs g1, by rw [Array.toArray_toList]; exact he'⟩), rfl, q ys _ g2 g3 (I1.hok.fresh (Nat.le_refl _))⟩
  have hb : b < h'.objs.size := Heap.lt_size e
  rw [PyProof.Rows.sortedHeap_old (Nat.ne_of_lt hb) (by rw [size_push']; exact Nat.lt_succ_of_lt hb)]
  exact Heap.get?_push_of_some _ e
end
end L2
/-! an own error over ValueError whose __init__ says super().__init__('..') and then self.f = f -/
namespace PySem
namespace QX
open PySem.W PySem.Calls PyProof.Rows PySem.HandSPX
def iA (f : Str) (p1 p2 : Pos) : Arguments := { posonlyargs := [], args := [{ arg := "self", annotation := none, pos := p1 }, { arg := f, annotation := none, pos := p2 }], vararg := none, kwonlyargs := [], kw_defaults := [], kwarg := none, defaults := [] }
def iB (f t : Str) (k : Nat) (q1 q2 q3 q4 q5 q6 q7 q8 q9 q10 : Pos) : List Stmt :=
  [.Expr (.Call (.Attribute (.Call (.Name "super" q1) [] [] q2) "__init__" q3) [.Constant (.str t) k q4] [] q5) q6, .Assign [.Attribute (.Name "self" q7) f q8] (.Name f q9) q10]
def iS (f : Str) : Scope := { kind := .function, names := [("self", .local), (f, .local), ("__class__", .free), ("super", .globalImplicit)], isGenerator := false, isCoroutine := false, more := [] }
/-- what the written part says of the class at C (its __init__ at fI, the cell of __class__ at cc, the code at cda) -/
structure OwnTxt (P : Program) (K : Frag) (mg : Str → Option Value) (cn f : Str) (C fI : Addr) : Prop where
  gC : mg cn = some (.ref C)
  gS : mg "super" = none
  cls : ∃ nm q N bs bm sn sub ab col dd k0 k1 k2 k3 k5, K.lookup C = some (excClassObj nm q C N bs bm true sn sub ab col dd k0 k1 k2 k3 k5 "ValueError.__new__") ∧ refsVE bm = true ∧ alongIn K "__init__" bm = some (some (.builtin "ValueError.__init__"))
  sa : findIn K (.ref C) "__setattr__" = some (some (.builtin "object.__setattr__"))
  ga : findIn K (.ref C) "__getattribute__" = some (some (.builtin "BaseException.__getattribute__"))
  gg : findIn K (.ref C) "__getattr__" = some none
  noN : findIn K (.ref C) f = some none
  iC : findIn K (.ref C) "__init__" = some (some (.ref fI))
  tC : typeIn K (.ref fI) = some (.type "function")
  kC : keepIn K (.ref C) = true
  exC : subIn K (.ref C) (.type "BaseException") = some true
  veC : subIn K (.ref C) (.type "ValueError") = some true
  slC : mroIn K C (.ref C) = some true
  tyC : typeIn K (.ref C) = some (.type "type")
  hdC : hasDictIn K C = true
  te : exmOne K (.ref C) (.ref C) = some true
  op : nsIn K cStatics "thirdparty.any" = some none
  top : (P.main.scope.names.lookup ("super" : Str)).isSome = false
  fn : ∃ (qual t : Str) (kk : Nat) (oc : Value) (od : Option Addr) (doc pm : Value) (an : Option Addr) (cda cc : Addr) (ct : Value) (osl : Array (Option Value)) (p1 p2 q1 q2 q3 q4 q5 q6 q7 q8 q9 q10 : Pos),
    K.lookup fI = some ⟨oc, od, .func (ksFn "__init__" qual (iA f p1 p2) (iB f t kk q1 q2 q3 q4 q5 q6 q7 q8 q9 q10) (iS f) .none .none doc pm an (.ref cda) ct cc), osl⟩ ∧ codeIn K (.ref cda) qual = true ∧ (q3.endLine == q5.line) = true ∧
    (∃ ccl cdd vs ccs file tf, K.lookup cda = some ⟨ccl, cdd, .fields vs, ccs⟩ ∧ vs[2]? = some (.str file tf) ∧ ((P.main.file : Str) == file) = true) ∧
    ∃ cl cld csl, K.lookup cc = some ⟨cl, cld, .cell (some (.ref C)), csl⟩
  sc1 : (iS f).names.lookup f = some .local
  sc2 : (iS f).names.lookup ("super" : Str) = some .globalImplicit
  sc3 : (iS f).names.lookup ("__class__" : Str) = some .free
  sc4 : (iS f).names.lookup ("self" : Str) = some .local
  dbg : (f == ("__debug__" : Str)) = false
  bnd : ∀ (qual : Str) (p1 p2 : Pos) (b : List Stmt) (doc pm : Value) (an : Option Addr) (cdv ct : Value) (cc : Addr) (s : Shared) (u v : Value), BindsTo s (ksFn "__init__" qual (iA f p1 p2) b (iS f) .none .none doc pm an cdv ct cc) ⟨[u, v], []⟩ [("self", u), (f, v)]
  lk1 : ∀ (u v : Value), ([("self", u), (f, v)] : List (Str × Value)).reverse.lookup ("self" : Str) = some u
  lk2 : ∀ (u v : Value), ([("self", u), (f, v)] : List (Str × Value)).reverse.lookup f = some v
/-- what __init__ leaves of a fresh exception at x -/
structure InitEnd (f : Str) (h h' : Heap) (x C dx t1 : Addr) (v : Value) : Prop where
  keep : ∀ b o, b ≠ x → h.get? b = some o → h'.get? b = some o
  obj : h'.get? x = some { cls := .ref C, dict := some dx, data := .fields #[.ref t1, .none, .none, .none, .bool false, .none] }
  dbig : h.objs.size ≤ dx
  dne : dx ≠ x
  ns : h'.Ns1 dx (fun y => if y = f then some v else none)
section
variable {prog : Program} {w : World} {A : Around} {E : Value → Shared → Prop} {h : Heap} {g : Array GenState} {d : Drawn} {t : Nat} {os : OsState}
variable {nm q : Str} {C N : Addr} {bs bm : List Value} {hdct : Bool} {sn : List Str} {sub : List Value} {ab : Bool} {col : Option Bool} {dd : Option Addr} {k0 k1 k2 k3 k5 : Option Value}
/-- the bound ValueError.__init__, called -/
theorem q_call_bw {u e t0 : Addr} {rest : List Value} {Q : Value → Shared → Prop}
    (hC : h.get? C = some (excClassObj nm q C N bs bm hdct sn sub ab col dd k0 k1 k2 k3 k5 "ValueError.__new__")) (he : h.get? e = some (excO C t0)) (hu : h.get? u = some (kxs_mw "ValueError.__init__" e)) (hrest : rest.length ≤ sizeLine)
    (hq : ∀ h' t1, (∀ b o, b ≠ e → h.get? b = some o → h'.get? b = some o) → h'.get? e = some (excO C t1) → Q .none ⟨h', g, d, t, os⟩) :
    wpAny (model prog w) A (call (.ref u) rest) Q E ⟨h, g, d, t, os⟩ := by
  have F := F.excBase_ValueError
  refine wpAny_call (codeAny_of_tree ?_)
  show wpAny _ A.in1 (callAny (.ref u) ⟨rest, []⟩) _ _ _
  simp only [callAny]
  refine wpAny_bind (wpAny_load hu ?_)
  simp only [kxs_mw, show (Value.type "method-wrapper" == Value.type "method" || Value.type "method-wrapper" == Value.type "builtin_function_or_method" || Value.type "method-wrapper" == Value.type "method-wrapper") = true by decide, if_true]
  refine KFB.if_so (by decide) ?_
  refine wpAny_bind (check_bound_init F.toExcCallFacts hC he rfl ?_)
  refine wpAny_bind (wpAny_pure (wpAny_pure ?_))
  refine ⟨plainId_quiet F.init.plain _, codeAny_builtin F.initEntry ?_⟩
  rw [Around.under_plainId F.init.plain _]
  wp_walk
  refine hq _ h.objs.size (fun b o hb ho => ?_) ?_
  · rw [Heap.get?_update_other _ _ (Ne.symm hb)]
    exact Heap.get?_push_of_some _ ho
  · rw [Heap.get?_update_self _ (Heap.get?_push_of_some _ he) rfl]
    rfl
end
section
variable {prog : Program} {w : World} {A : Around} {E : Value → Shared → Prop} {R : Result → Shared → Prop} {s : Shared} {K : Frag} {mg : Str → Option Value} {C fI : Addr} {cn f : Str}
theorem one_size (v : Value) : [v].length ≤ sizeLine := by
  rw [sizeLine_eq]
  exact (by decide : 1 ≤ 16777216)
theorem ldX {M : Model} {s : Shared} {env : Env} {m : Str → Option Value} {x : Str} {pos : Pos} {v : Value} {Q : Value → Shared → Prop} {A : Around} {E : Value → Shared → Prop} (hn : s.heap.Ns env.locals m) (hv : m x = some v) (h : Q v s)
    (hk : env.scope.kind = .function) (hl : env.kindOf x = some .local) (hd : (x == ("__debug__" : Str)) = false) : wpAny M A (eval (.Name x pos) env) Q E s := wpAny_Name (wpAny_loadName_local hk hl hn hv h) hd
theorem own_init (T : OwnTxt prog K mg cn f C fI) {x t0 : Addr} {v : Value} (X : K.In s.heap) (hlim : s.heap.NoLimit) (hgl : s.heap.Ns mainGlobals mg) (hbl : ∃ mb, s.heap.Ns builtinsNs mb ∧ ∀ x : Str, x ≠ "__name__" → mb x = bootBuiltins x)
    (hx : s.heap.get? x = some (excO C t0)) (hnx : K.lookup x = none) (hroom : A.depth < recursionLimit)
    (hq : ∀ h' tk dx t1, InitEnd f s.heap h' x C dx t1 v → R (.ok (.ret .none)) { s with heap := h', toks := tk }) :
    codeAny (model prog w) A (.call (.ref fI) ⟨[.ref x, v], []⟩) R s := by
  obtain ⟨qual, tx, kk, oc, od, doc, pm, an, cda, cc, ct, osl, p1, p2, q1, q2, q3, q4, q5, q6, q7, q8, q9, q10, ho, hcd, hl, ⟨ccl, cdd, vs, ccs, file, tf, hcda, hvs, hfile⟩, ⟨cl, cld, csl, hcell⟩⟩ := T.fn
  obtain ⟨nm, q, N, bs, bm, sn, sub, ab, col, dd, k0, k1, k2, k3, k5, hC, hbm, hal⟩ := T.cls
  obtain ⟨mb, hmb, hmb2⟩ := hbl
  have hcl : clsIn K C = some { name := nm, bases := bs, mro := .ref C :: bm, ns := N, qualname := q, hasDict := true, slotNames := sn, subclasses := sub, abstract := ab, collection := col, hasDel := false } := by unfold clsIn; rw [hC] <;> rfl
  refine ks_codeAny_call_defAt (binds := [("self", .ref x), (f, v)]) hroom (X _ _ ho) rfl hlim (PySem.W.codeRec_of X hcd) rfl (T.bnd _ _ _ _ _ _ _ _ _ _ _ _ _) ?hcell ?hloc (fun h₁ hns k => ?_) rfl rfl rfl
  case hcell =>
    intro y hy
    have hy' : y = (("self" : Str), NameKind.local) ∨ y = (f, NameKind.local) ∨ y = (("__class__" : Str), NameKind.free) ∨ y = (("super" : Str), NameKind.globalImplicit) := by
      have z : y ∈ (iS f).names := hy
      simpa [iS] using z
    rcases hy' with e | e | e | e <;> (rw [e]; intro z; cases z)
  case hloc =>
    intro y hy
    have hy' : y = (("self" : Str), Value.ref x) ∨ y = (f, v) := by simpa using hy
    rcases hy' with e | e
    · rw [e]; rfl
    · rw [e]; exact T.sc1
  have hxL : s.heap.objs.size ≠ x := Nat.ne_of_gt (Heap.lt_size hx)
  have X₁ : K.In h₁ := X.keeps k
  have hx₁ := k _ _ hx
  have hC₁ := X₁ _ _ hC
  have lt₁ : s.heap.objs.size < h₁.objs.size := hns.lt
  have hgl₁ : h₁.Ns mainGlobals mg := hgl.keeps k
  have hmb₁ : h₁.Ns builtinsNs mb := hmb.keeps k
  have hsn : mb "super" = some (.type "super") := (hmb2 "super" (by decide)).trans (by first | boot_by_name | rfl | kernel_rfl)
  refine ks_wpAt_execs_cons (ks_wpAt_Expr_any (ks_wpAt_MethodCall (pl := (do return (← importBound (.Call (.Name "super" q1) [] [] q2) (callEnv (ksFn "__init__" qual (iA f p1 p2) (iB f tx kk q1 q2 q3 q4 q5 q6 q7 q8 q9 q10) (iS f) .none .none doc pm an (.ref cda) ct cc) s.heap.objs.size fI)).getD true)) ?_ (by
    rw [arm_eval_Call]
    unfold methodCall methodCallPos
    simp only [hl, Bool.or_true, if_true]
    rfl)) (by rfl) (by rfl))
  refine ks_wpAt_super_base T.sc2 T.sc3 (by decide) rfl (X₁ _ _ ho) rfl (by rfl) rfl (X₁ _ _ hcda) rfl hvs hfile T.top ?_
  refine ks_loadName_global rfl T.sc2 (Calls.loadGlobal_builtin hgl₁ T.gS hmb₁ hsn ⟨rfl, ?_⟩)
  refine wpAny_loadName_free rfl T.sc3 (by rfl) ⟨_, X₁ _ _ hcell, rfl⟩ ?_
  refine wpAny_loadName_local rfl T.sc4 hns (T.lk1 _ _) ?_
  refine ks_wpAny_isType_cls hC₁ rfl ⟨rfl, ?_⟩
  refine ks_wpAny_call_super hC₁ rfl hx₁ rfl (fun c e => by cases e) (looks_mroIn X₁ T.slC) (fun h₂ eso k₂ => ?_)
  have X₂ : K.In h₂ := X₁.keeps k₂
  have I₂ : PySem.W.InstAt h₂ x (excO C t0) C none := ⟨k₂ _ _ hx₁, rfl, rfl, trivial⟩
  have hxC : x ≠ C := fun z => by rw [z, hC] at hnx; cases hnx
  refine kxs_getMethod kxs_ValueError eso (looks_opaque X₂ T.op) (l₀ := .ref C :: bm) (l := bm) (fun A' Q' E' s' k' q' => wpAny_bind ((looks_clsIn X₂ hcl) A' _ E' s' k' (wpAny_pure q'))) (by simp [List.dropWhile_cons]) X₂ hal (I₂.type.andThen (looks_subIn X₂ T.veC)) hxC (by decide) ?_
  refine kxs_callWith (i := "ValueError.__init__") (x := x) (by rfl) ?_
  refine evalArgs_plain (Calls.spliced_cons (Calls.Constant_str (k := kk) (pos := q4) (Calls.spliced_nil ?_)))
  refine ⟨Heap.get?_push_at rfl rfl, ?_⟩
  have hC₃ : (h₂.push (kxs_mw "ValueError.__init__" x)).get? C = some (excClassObj nm q C N bs bm true sn sub ab col dd k0 k1 k2 k3 k5 "ValueError.__new__") := Heap.get?_push_of_some _ (k₂ _ _ hC₁)
  have hx₃ : (h₂.push (kxs_mw "ValueError.__init__" x)).get? x = some (excO C t0) := Heap.get?_push_of_some _ (k₂ _ _ hx₁)
  refine q_call_bw hC₃ hx₃ (Heap.get?_push_at rfl rfl) (one_size _) (fun h₄ t1 k₄ hx₄ => ?_)
  have kall : ∀ b o, b ≠ x → s.heap.get? b = some o → h₄.get? b = some o := fun b o hb e => k₄ b o hb (Heap.get?_push_of_some _ (k₂ _ _ (k _ _ e)))
  have k14 : ∀ b o, b ≠ x → h₁.get? b = some o → h₄.get? b = some o := fun b o hb e => k₄ b o hb (Heap.get?_push_of_some _ (k₂ _ _ e))
  have X₄ : K.In h₄ := fun a o e => by
    by_cases ha : a = x
    · rw [ha, hnx] at e; cases e
    · exact kall a o ha (X a o e)
  have hLx : s.heap.objs.size ≠ x := hxL
  have hns₄ : h₄.Ns s.heap.objs.size fun y => ([(("self" : Str), Value.ref x), (f, v)] : List (Str × Value)).reverse.lookup y := by
    obtain ⟨o, es, ep, e1, r⟩ := hns
    exact ⟨o, es, ep, k14 _ _ hLx e1, r⟩
  have sz₄ : s.heap.objs.size ≤ h₄.objs.size := Nat.le_of_lt hns₄.lt
  refine wpAt_of_wpAny ?_
  refine wpAny_execs_cons (plainObj_wpAny_Assign_Attribute ?_ (by rfl))
  refine ldX hns₄ (T.lk2 _ _) (ldX hns₄ (T.lk1 _ _) ?_ rfl T.sc4 (by decide)) rfl T.sc1 T.dbg
  refine set_plain X₄ (ox := excO C t1) (od := none) ⟨hx₄, rfl, rfl, trivial⟩ T.sa ?_
  refine exc_osa X₄ hx₄ hcl (show refsVE (.ref C :: bm) = true from hbm) rfl T.noN (fun h₅ tk₅ dx k₅ dn dne hx₅ hn₅ => ?_)
  show wpAny _ _ (execs _ _) _ _ _
  exact wpAny_execs_nil (hq h₅ tk₅ dx t1 ⟨fun b o hb e => k₅ b o hb (kall b o hb e), hx₅, Nat.le_trans sz₄ dn, dne, hn₅⟩)
end
/-- a made error -/
structure OwnMade (f : Str) (h h' : Heap) (e C d : Addr) (v : Value) : Prop where
  keep : ∀ b o, h.get? b = some o → h'.get? b = some o
  new : h.objs.size ≤ e
  obj : ∃ oe vs, h'.get? e = some oe ∧ oe.cls = .ref C ∧ oe.dict = some d ∧ oe.data = .fields vs ∧ vs[1]? = some .none
  dbig : h.objs.size ≤ d
  dne : d ≠ e
  ns : h'.Ns1 d (fun y => if y = f then some v else none)
section
variable {prog : Program} {w : World} {A : Around} {R : Result → Shared → Prop} {s : Shared} {K : Frag} {mg : Str → Option Value} {C fI : Addr} {cn f : Str}
theorem own_made (T : OwnTxt prog K mg cn f C fI) {v : Value} (X : K.In s.heap) (hlim : s.heap.NoLimit) (hgl : s.heap.Ns mainGlobals mg) (hbl : ∃ mb, s.heap.Ns builtinsNs mb ∧ ∀ x : Str, x ≠ "__name__" → mb x = bootBuiltins x)
    (hroom : A.depth + 1 < recursionLimit)
    (hq : ∀ h' tk e d, OwnMade f s.heap h' e C d v → R (.ok (.ret (.ref e))) { s with heap := h', toks := tk }) :
    codeAny (model prog w) A (.call (.ref C) ⟨[v], []⟩) R s := by
  obtain ⟨nm, q, N, bs, bm, sn, sub, ab, col, dd, k0, k1, k2, k3, k5, hC, hbm, _⟩ := T.cls
  obtain ⟨mb, hmb, hmb2⟩ := hbl
  obtain ⟨hp, g, dr, tk, os⟩ := s
  have k : ∀ b o, hp.get? b = some o → ((hp.push (kdv_tup [v])).push (excO C hp.objs.size)).get? b = some o := fun b o e => Heap.get?_push_of_some _ (Heap.get?_push_of_some _ e)
  have hget : ((hp.push (kdv_tup [v])).push (excO C hp.objs.size)).get? (hp.objs.size + 1) = some (excO C hp.objs.size) := by heap_get
  have hnx : K.lookup (hp.objs.size + 1) = none := by
    cases e : K.lookup (hp.objs.size + 1) with
    | none => rfl
    | some o =>
      have z : hp.get? (hp.objs.size + 1) = some o := X _ _ e
      exact absurd (Nat.lt_of_succ_lt (Heap.lt_size z)) (Nat.lt_irrefl _)
  refine call_own F.excBase_ValueError (fun X => refsVE_contains X bm hbm) (X _ _ hC) (looks_findIn X T.iC) (fun self => bind_fn X self T.tC) (one_size v) ?_
  refine own_init (s := ⟨(hp.push (kdv_tup [v])).push (excO C hp.objs.size), g, dr, tk, os⟩) T (X.keeps k) (hlim.keeps k) (hgl.keeps k) ⟨mb, hmb.keeps k, hmb2⟩ hget hnx ?_ fun h' tk' dx t1 ⟨k', hx, dn, dne, hns⟩ => ?_
  · show A.depth + 1 < recursionLimit
    exact hroom
  · have old : ∀ b o, hp.get? b = some o → h'.get? b = some o := fun b o e => k' b o (Nat.ne_of_lt (Nat.lt_succ_of_lt (Heap.lt_size e))) (k b o e)
    have z : hp.objs.size + 1 + 1 ≤ dx := by
      first
        | (simpa only [Heap.size_push] using dn)
        | exact dn
        | (have q := dn; rw [Heap.size_push, Heap.size_push] at q; exact q)
    exact ⟨rfl, hq h' tk' (hp.objs.size + 1) dx ⟨old, Nat.le_succ _, ⟨_, _, hx, rfl, rfl, rfl, rfl⟩, Nat.le_trans (Nat.le_trans (Nat.le_succ _) (Nat.le_succ _)) z, dne, hns⟩⟩
end
end QX
end PySem
namespace L2
open PySem PySem.Spec PyProof.Rows
theorem relO_one {f : Str} {v : V} {v' : Value} (r : RelV v v') (g : Str) : RelO (List.lookup g [(f, v)]) (if g = f then some v' else none) := by
  by_cases hw : g = f
  · subst hw
    rw [if_pos rfl]
    have q : List.lookup g [(g, v)] = some v := by simp [List.lookup]
    rw [q]
    exact r
  · rw [if_neg hw]
    have qw : (g == f) = false := by simpa using hw
    have q2 : List.lookup g [(f, v)] = none := by simp [List.lookup, qw]
    rw [q2]
    trivial
section
variable {X : Cx} {C fI : Addr} {cn f : Str}
/-- C(e) -/
def tMkOwn (C : Addr) (f : Str) (ta : TA) : St → Hp → XK → Prop := fun σ H Q => ta σ H fun vs H1 => ∃ v, vs = [v] ∧ ∀ d, H1 d = none → Q (.ref C) (some d) (upd H1 d (.xd [(f, v)]))
theorem pmk_ownS {a : Expr} {ta : TA} {p pos : Pos} {k : Nat} (T : PySem.QX.OwnTxt X.prog X.K X.mg cn f C fI) (hr : Room k X.A) (ha : PA X [a] ta) (hg : Gl X cn) (hdb : (cn == ("__debug__" : Str)) = false := by decide)
    (he : starEach (a :: []) X.env = (false, eval a X.env) :: starEach [] X.env := by rfl) (hpl : (backTo pos (starEach [] X.env)).any (·.1) = false := by rfl) :
    PMk X (.Call (.Name cn p) [a] [] pos) (tMkOwn C f ta) := by
  intro pins s σ H Q I h
  refine wpAny_Call_Name_kw (ld_glob I hg T.gC ?_ hdb)
  refine PySem.W.callWith_K (h₀ := X.base) I.ok.mod.kin T.kC (thn (ha.run pos pins s σ H _ I h) fun us s1 hh => ?_) he hpl
  obtain ⟨vs, H1, I1, r1, v, ev, q1⟩ := hh
  subst ev
  refine ⟨I1.kIn, ?_⟩
  cases r1 with
  | cons rv rn =>
    rename_i v' us'
    cases rn
    show wpAny _ _ (call (.ref C) [v']) _ _ _
    have hlim := I1.nolimit
    have hgl := I1.mod.glob.keeps I1.bk
    have hbl : ∃ mb, s1.heap.Ns builtinsNs mb ∧ ∀ x : Str, x ≠ "__name__" → mb x = bootBuiltins x := by
      obtain ⟨mb, h1, h2⟩ := I1.mod.blt
      exact ⟨mb, h1.keeps I1.bk, h2⟩
    obtain ⟨hp, g, dr, tk, os⟩ := s1
    refine wpAny_call (PySem.QX.own_made T I1.kIn hlim hgl hbl (by have := hr.dp; omega) fun h' tk' e d M => ?_)
    show MkP X pins σ Q (.ref e) ⟨h', g, dr, tk', os⟩
    obtain ⟨oe, fv, hoe, hc, hd, hdat, h1⟩ := M.obj
    have hns := M.ns
    obtain ⟨G', g1, g2⟩ := restrict h' fun b => decide (b ≠ e)
    have gk : ∀ b, b ≠ e → G'.get? b = h'.get? b := fun b hb => g1 b (decide_eq_true hb)
    have ge : G'.get? e = none := g2 e (by simp)
    have old : ∀ b o, hp.get? b = some o → G'.get? b = some o := fun b o q => (gk b (Nat.ne_of_lt (Nat.lt_of_lt_of_le (Heap.lt_size q) M.new))).trans (M.keep b o q)
    have ob : ObjOk X.prog X.w (upd H1 d (.xd [(f, v)])) G' d (.xd [(f, v)]) :=
      ⟨_, hns.at (fun o q => (gk d M.dne).trans q), fun g => relO_one rv g⟩
    have J : Inv X pins σ (upd H1 d (.xd [(f, v)])) ⟨G', g, dr, tk', os⟩ := I1.laid (t' := tk') old M.dbig ob
    refine ⟨e, oe, fv, ⟨G', g, dr, tk', os⟩, _, .ref C, some d, rfl, J, fun b o q => ?_, ge, hoe, ⟨hc, hd⟩, hdat, h1, ?_, rfl, I1.bare, raises_own T.exC T.tyC, q1 d (I1.hok.fresh M.dbig)⟩
    · by_cases hb : b = e
      · have q' : G'.get? b = some o := q
        rw [hb, ge] at q'; cases q'
      · exact (gk b hb).symm.trans q
    · rw [upd_ne (Ne.symm M.dne)]
      exact I1.hok.fresh M.new
/-- raise C(e) -/
def tRaiseS (C : Addr) (f : Str) (W : WX) (ta : TA) : TS := fun _ σ H => tMkOwn C f ta σ H fun cls d H' => W cls d σ H'
theorem ps_raiseS {a : Expr} {ta : TA} {W : WX} {p pos pos2 : Pos} {k : Nat} (hc : X.calm = true) (T : PySem.QX.OwnTxt X.prog X.K X.mg cn f C fI) (hr : Room k X.A) (tk : Takes X W) (ha : PA X [a] ta) (hg : Gl X cn) (hdb : (cn == ("__debug__" : Str)) = false := by decide)
    (he : starEach (a :: []) X.env = (false, eval a X.env) :: starEach [] X.env := by rfl) (hpl : (backTo pos (starEach [] X.env)).any (·.1) = false := by rfl) :
    PS X (.Raise (some (.Call (.Name cn p) [a] [] pos)) none pos2) (tRaiseS C f W ta) := ps_raise hc tk (pmk_ownS T hr ha hg hdb he hpl)
/-- e.f, e the exception that the suite holds (at a; its class cls, its dict d) -/
def tByOwn (C : Addr) (f : Str) (a : Addr) (cls : Value) (d : Option Addr) (te : TE) : TE := fun σ H Q => te σ H fun x H1 => x = .ref a ∧ cls = .ref C ∧ ∃ (dd : Addr) (v : V), d = some dd ∧ H1 dd = some (.xd [(f, v)]) ∧ Q v H1
theorem pe_byOwn {a : Addr} {oe : Obj} {cls : Value} {d : Option Addr} {pn : List (Addr × Obj)} {e : Expr} {te : TE} {pos : Pos} (T : PySem.QX.OwnTxt X.prog X.K X.mg cn f C fI) (hz : Zc cls d oe) (hf : ∃ vs, oe.data = .fields vs) (he : PE (X.suite a ((a, oe) :: pn)) e te)
    (hb : attributeBase e f X.env (eval e X.env) = eval e X.env := by rfl) :
    PE (X.suite a ((a, oe) :: pn)) (.Attribute e f pos) (tByOwn C f a cls d te) := by
  refine ⟨fun pins s σ H Q I h => ?_⟩
  refine attr_of hb (thn (he.run pins s σ H _ I h) fun u s1 hh => ?_)
  obtain ⟨x, H1, I1, rx, ex, ec, dd, v, ed, ea, q⟩ := hh
  subst ex
  obtain rfl : u = Value.ref a := rx
  subst ec
  subst ed
  obtain ⟨ha, _⟩ := I1.pin (a, oe) (List.mem_append_left _ List.mem_cons_self)
  obtain ⟨vs, hd⟩ := hf
  have hx : ObjOk X.prog X.w H1 s1.heap dd (.xd [(f, v)]) := I1.hok dd _ ea
  obtain ⟨mA, hns, hr⟩ := hx
  obtain ⟨od, ho, hl⟩ := lookIn_ns hns
  have l : List.lookup f [(f, v)] = some v := by simp [List.lookup]
  obtain ⟨u, hu, ru⟩ := RelO.some_of (v := v) (o := mA f) (by rw [← l]; exact hr f)
  have J : PySem.W.InstAt s1.heap a oe C (some od) := ⟨ha, hz.1, by unfold PySem.W.notCls; rw [hd] <;> rfl, by rw [hz.2]; exact ho⟩
  exact HandSPX.exc_get I1.kIn J T.ga T.gg T.exC (PySem.W.findObj_own T.hdC T.noN rfl (by rw [hl, hu])) (handed_of ru) ⟨v, H1, I1.tok _, ru, q⟩
end
end L2
namespace L2
open PySem PySem.Spec PyProof.Rows
/-! ### a def that is called -/
structure CF (P : Program) (w : World) (K : PySem.W.Frag) (mg : Str → Option Value) (base : Heap) (CX : CXT) (k : Nat) (x : Str) (ps : List Str) (sp : Sp) : Prop where
  ex : ∃ f fd, FnOk P w K mg base CX k f fd ps sp ∧ mg x = some (.ref f) ∧ PySem.W.keepIn K (.ref f) = true ∧ Binds K fd ps []
section
variable {X : Cx} {CX : CXT} {k : Nat} {ps : List Str} {sp : Sp} {E : XK} {x : Str} {p pos : Pos} {e : Expr} {es : List Expr} {ta : TE} {t : TA}
theorem pe_cf (c : CF X.prog X.w X.K X.mg X.base CX k x ps sp) (hr : Room k X.A) (hx : Passes CX X E) (ha : PA X (e :: es) t) (hg : Gl X x := by rfl)
    (hdb : (x == ("__debug__" : Str)) = false := by decide) (he : starEach (e :: es) X.env = (false, eval e X.env) :: starEach es X.env := by rfl) (hpl : (backTo pos (starEach es X.env)).any (·.1) = false := by rfl) :
    PE X (.Call (.Name x p) (e :: es) [] pos) (tCall sp [] E t) := by
  obtain ⟨f, fd, F, hm, hk, hb⟩ := c.ex
  exact pe_call F hr hg hm hk hb .nil hx ha hdb he hpl
theorem pe_cfS {E : St → XK} (c : CF X.prog X.w X.K X.mg X.base CX k x ps sp) (hr : Room k X.A) (hx : ∀ σ, PassesAt CX X σ (E σ)) (ha : PA X (e :: es) t) (hg : Gl X x := by rfl)
    (hdb : (x == ("__debug__" : Str)) = false := by decide) (he : starEach (e :: es) X.env = (false, eval e X.env) :: starEach es X.env := by rfl) (hpl : (backTo pos (starEach es X.env)).any (·.1) = false := by rfl) :
    PE X (.Call (.Name x p) (e :: es) [] pos) (tCallS sp E t) := by
  obtain ⟨f, fd, F, hm, hk, hb⟩ := c.ex
  exact pe_callS F hr hg hm hk hb hx ha hdb he hpl
end
/-! ### kinds -/
inductive Kd where | non | bl | int | str | lst | tup | dct
  deriving DecidableEq
def Kd.ty : Kd → String
  | .non => "NoneType" | .bl => "bool" | .int => "int" | .str => "str" | .lst => "list" | .tup => "tuple" | .dct => "dict"
/-- x is of that kind -/
inductive IsK (H : Hp) : V → Kd → Prop where
  | non : IsK H .non .non
  | bl (b : Bool) : IsK H (.bl b) .bl
  | int (i : Int) : IsK H (.int i) .int
  | str (z : Str) : IsK H (.str z) .str
  | lst {a : Addr} {xs : List V} (h : H a = some (.lst xs)) : IsK H (.ref a) .lst
  | tup {a : Addr} {xs : List V} (h : H a = some (.tup xs)) : IsK H (.ref a) .tup
  | dct {a : Addr} {kvs : List (Key × V)} (h : H a = some (.dK kvs)) : IsK H (.ref a) .dct
theorem IsK.same {H H' : Hp} (s : Same H H') {x : V} {k : Kd} (h : IsK H x k) : IsK H' x k := by
  cases h with
  | non => exact .non
  | bl b => exact .bl b
  | int i => exact .int i
  | str z => exact .str z
  | lst h => exact .lst (s _ _ h)
  | tup h => exact .tup (s _ _ h)
  | dct h => exact .dct (s _ _ h)
theorem IsK.elt {H : Hp} {x : V} {k : Kd} (h : IsK H x k) : EltV H x := by
  cases h with
  | non => exact .flat rfl
  | bl b => exact .flat rfl
  | int i => exact .flat rfl
  | str z => exact .flat rfl
  | lst h => exact .lst h
  | tup h => exact .tup h
  | dct h => exact .dct h
theorem IsK.tyX {K : PySem.W.Frag} {H : Hp} {x : V} {k : Kd} (h : IsK H x k) : TyX K H x (.type k.ty) := by
  cases h with
  | non => exact .base .non
  | bl b => exact .base (.bl b)
  | int i => exact .base (.int i)
  | str z => exact .base (.str z)
  | lst h => exact .base (.lst h)
  | tup h => exact .base (.tup h)
  | dct h => exact .base (.dK h)
/-- isinstance of a kind -/
def isaB (k : Kd) (T : String) : Bool := match k with
  | .bl => T == "bool" || T == "int"
  | k => T == k.ty
theorem kit_str (k : Kd) : kitB k.ty "str" = some (isaB k "str") := by cases k <;> decide +kernel
theorem kit_tuple (k : Kd) : kitB k.ty "tuple" = some (isaB k "tuple") := by cases k <;> decide +kernel
theorem kit_list (k : Kd) : kitB k.ty "list" = some (isaB k "list") := by cases k <;> decide +kernel
theorem kit_dict (k : Kd) : kitB k.ty "dict" = some (isaB k "dict") := by cases k <;> decide +kernel
theorem kit_int (k : Kd) : kitB k.ty "int" = some (isaB k "int") := by cases k <;> decide +kernel
theorem kit_bool (k : Kd) : kitB k.ty "bool" = some (isaB k "bool") := by cases k <;> decide +kernel
def rIs (T : String) : List V → Hp → VK → Prop := fun xs H Q => ∃ (x : V) (k : Kd), xs = [x, .ty T] ∧ IsK H x k ∧ Q (.bl (isaB k T)) H
section
variable {X : Cx} {p p2 pos : Pos} {e : Expr} {te : TE}
theorem call_is {T : String} (hk : ∀ k : Kd, kitB k.ty T = some (isaB k T)) : CallR X (.builtin "isinstance") (rIs T) := fun pins s σ H xs us Q I r ⟨x, k, ex, ik, q⟩ =>
  call_isi pins s σ H xs us Q I r ⟨x, .ty T, .type k.ty, .type T, isaB k T, ex, .ty T, ik.tyX, kit_ty (hk k), q⟩
theorem pe_isi {T : String} (hk : ∀ k : Kd, kitB k.ty T = some (isaB k T)) (hm : X.mg "isinstance" = none) (hT : X.mg T = none) (he : PE X e te) (hb : bootBuiltins T = some (.type T) := by decide +kernel) (hg : Gl X "isinstance" := by rfl) (hgT : Gl X T := by rfl)
    (hn : (PySem.Str.ofString T) ≠ "__name__" := by decide +kernel) (hd : ((PySem.Str.ofString T) == ("__debug__" : Str)) = false := by decide +kernel)
    (hs : starEach [e, .Name T p2] X.env = (false, eval e X.env) :: starEach [.Name T p2] X.env := by rfl) (hs2 : starEach [.Name T p2] X.env = (false, eval (.Name T p2) X.env) :: starEach [] X.env := by rfl) (hpl : (backTo pos (starEach [.Name T p2] X.env)).any (·.1) = false := by rfl) :
    PE X (.Call (.Name "isinstance" p) [e, .Name T p2] [] pos) (tCB (rIs T) (tCons te (tCons (tC (.ty T)) tNil))) :=
  pe_callB (X := X) (p := p) (pos := pos) (call_is hk) hg hm (by decide +kernel) (pa_cons he (pa_cons (pe_bltn (v := .ty T) hgT hT hb rfl hn hd) pa_nil hs2) hs) (by decide) (by decide) hs hpl
end
/-! ### slices of a list or a tuple -/
def rSlQ (K : PySem.W.Frag) : V → Option Int → Option Int → Hp → VK → Prop := fun x lo hi H Q => ∃ a xs, x = .ref a ∧ ((SqL K H a xs ∧ ∀ p, H p = none → Q (.ref p) (upd H p (.lst (cutV xs lo hi)))) ∨
  (SqT K H a xs ∧ (HT.sIx xs.length 0 lo = 0 ∧ HT.sIx xs.length xs.length hi = xs.length → Q (.ref a) H) ∧ (¬ (HT.sIx xs.length 0 lo = 0 ∧ HT.sIx xs.length xs.length hi = xs.length) → ∀ p, H p = none → Q (.ref p) (upd H p (.tup (cutV xs lo hi))))))
theorem Same.new {H : Hp} {p : Addr} {o : HO} (h : H p = none) : Same H (upd H p o) := fun b u e => by rw [upd_ne (ne_of_none e h)]; exact e
theorem sl_both {X : Cx} : SlR X (fun x lo hi H Q => rSlL X.K x lo hi H Q ∨ rSlA X.K x lo hi H Q) := sl_list.or sl_tupA
theorem cut_take (xs : List V) (i : Nat) (h : i ≤ xs.length) : cutV xs none (some (i : Int)) = xs.take i := by
  unfold cutV
  rw [HT.sIx_none, HT.sIx_nat, List.drop_zero, Nat.sub_zero, Nat.min_eq_left h]
/-- xs[:i], xs a list or a tuple -/
theorem take_both {K : PySem.W.Frag} {H : Hp} {a : Addr} {xs : List V} {i : Nat} {Q : VK} (hq : SqL K H a xs ∨ SqT K H a xs) (hi : i < xs.length) (h : ∀ p H', Same H H' → (SqL K H' p (xs.take i) ∨ SqT K H' p (xs.take i)) → Q (.ref p) H') :
    rSlL K (.ref a) none (some (i : Int)) H Q ∨ rSlA K (.ref a) none (some (i : Int)) H Q := by
  rcases hq with hq | hq
  · refine .inl ⟨a, xs, rfl, hq, fun p hp => h p _ (Same.new hp) (.inl (SqL.of ?_))⟩
    rw [upd_same, cut_take xs i (Nat.le_of_lt hi)]
  · refine .inr ⟨a, xs, rfl, hq, fun z => ?_, fun _ p hp => h p _ (Same.new hp) (.inr (SqT.of ?_))⟩
    · rw [HT.sIx_nat] at z
      have := z.2
      omega
    · rw [upd_same, cut_take xs i (Nat.le_of_lt hi)]
/-! ### names -/
def lowC (c : Nat) : Bool := decide (97 ≤ c) && decide (c ≤ 122)
def nameS (z : Str) : Bool := decide (1 ≤ z.length) && decide (z.length ≤ 8) && z.cps.toList.all lowC
def nameV : V → Bool
  | .str z => nameS z
  | _ => false
/-- the first place of an item that is not right or stands ahead; pre: what stands ahead of the rest -/
def badFrom (ok : V → Bool) : List V → List V → Option Nat
  | _, [] => none
  | pre, x :: r => if ok x && !pre.contains x then badFrom ok (pre ++ [x]) r else some pre.length
theorem badFrom_cons {ok : V → Bool} {pre r : List V} {x : V} : badFrom ok pre (x :: r) = if ok x && !pre.contains x then badFrom ok (pre ++ [x]) r else some pre.length := rfl
theorem badFrom_congr {ok ok' : V → Bool} : ∀ {pre l : List V}, (∀ x ∈ l, ok x = ok' x) → badFrom ok pre l = badFrom ok' pre l
  | _, [], _ => rfl
  | pre, x :: r, h => by
    unfold badFrom
    rw [h x List.mem_cons_self, badFrom_congr (pre := pre ++ [x]) (l := r) fun y hy => h y (List.mem_cons_of_mem _ hy)]
def vOpt : Option Nat → V
  | none => .non
  | some k => .int k
theorem badFrom_none {ok : V → Bool} : ∀ {pre l : List V}, pre.Nodup → badFrom ok pre l = none → (∀ x ∈ l, ok x = true) ∧ (pre ++ l).Nodup
  | pre, [], hn, _ => ⟨fun _ h => (by cases h), by simpa using hn⟩
  | pre, x :: r, hn, h => by
    unfold badFrom at h
    by_cases c : (ok x && !pre.contains x) = true
    · rw [if_pos c] at h
      rw [Bool.and_eq_true] at c
      have hx : x ∉ pre := by
        intro z
        have e : pre.contains x = true := by simpa using z
        rw [e] at c
        exact absurd c.2 (by decide)
      have hn' : (pre ++ [x]).Nodup := by
        rw [List.nodup_append]
        refine ⟨hn, by simp, fun a ha b hb => ?_⟩
        have : b = x := by simpa using hb
        subst this
        intro e
        subst e
        exact hx ha
      have ih := badFrom_none (pre := pre ++ [x]) (l := r) hn' h
      refine ⟨fun y hy => ?_, by simpa using ih.2⟩
      rcases List.mem_cons.mp hy with e | hy
      · rw [e]; exact c.1
      · exact ih.1 y hy
    · rw [if_neg c] at h
      cases h
theorem badFrom_lt {ok : V → Bool} : ∀ {pre l : List V} {k : Nat}, badFrom ok pre l = some k → k < pre.length + l.length
  | pre, [], _, h => by cases h
  | pre, x :: r, k, h => by
    unfold badFrom at h
    by_cases c : (ok x && !pre.contains x) = true
    · rw [if_pos c] at h
      have ih := badFrom_lt h
      simp only [List.length_append, List.length_cons, List.length_nil] at ih ⊢
      omega
    · rw [if_neg c] at h
      cases h
      simp only [List.length_cons]
      omega
theorem strs_of : ∀ {l : List V}, (∀ x ∈ l, nameV x = true) → ∃ zs : List Str, l = zs.map V.str ∧ ∀ z ∈ zs, nameS z = true
  | [], _ => ⟨[], rfl, fun _ h => by cases h⟩
  | x :: r, h => by
    obtain ⟨zs, e, hz⟩ := strs_of (l := r) fun y hy => h y (List.mem_cons_of_mem _ hy)
    have hx := h x List.mem_cons_self
    cases x with
    | str z => exact ⟨z :: zs, by rw [e]; rfl, fun y hy => by
        rcases List.mem_cons.mp hy with q | hy
        · rw [q]; exact hx
        · exact hz y hy⟩
    | _ => cases hx
theorem cmp_low1 (c : Nat) : (!decide (([c] : List Nat) < [97])) = decide (97 ≤ c) := by
  by_cases h : 97 ≤ c
  · have q : ¬ (([c] : List Nat) < [97]) := by
      intro z
      cases z with
      | cons z => cases z
      | rel z => exact absurd z (by omega)
    rw [decide_eq_true h, decide_eq_false q]
    rfl
  · have q : (([c] : List Nat) < [97]) := List.Lex.rel (by omega)
    rw [decide_eq_false h, decide_eq_true q]
    rfl
theorem cmp_low2 (c : Nat) : (!decide (([122] : List Nat) < [c])) = decide (c ≤ 122) := by
  by_cases h : c ≤ 122
  · have q : ¬ (([122] : List Nat) < [c]) := by
      intro z
      cases z with
      | cons z => cases z
      | rel z => exact absurd z (by omega)
    rw [decide_eq_true h, decide_eq_false q]
    rfl
  · have q : (([122] : List Nat) < [c]) := List.Lex.rel (by omega)
    rw [decide_eq_false h, decide_eq_true q]
    rfl
/-- a comprehension's turn that keeps its item -/
theorem lcTurn {te : TE} {σ : St} {H : Hp} {R : VK} {N : Hp → Prop} (h : te σ H R) : tYes σ H (fun b H3 => if b = true then te σ H3 R else N H3) := h
/-! ### heaps -/
/-- all but st as it was -/
def SameBut (st : Addr) (H H' : Hp) : Prop := ∀ b o, b ≠ st → H b = some o → H' b = some o
theorem SameBut.refl (st : Addr) (H : Hp) : SameBut st H H := fun _ _ _ h => h
theorem SameBut.trans {st : Addr} {H H1 H2 : Hp} (a : SameBut st H H1) (b : SameBut st H1 H2) : SameBut st H H2 := fun c o n h => b c o n (a c o n h)
theorem Same.but {H H' : Hp} (s : Same H H') (st : Addr) : SameBut st H H' := fun b o _ h => s b o h
theorem Same.seqT {K : PySem.W.Frag} {H H' : Hp} {a : Addr} {xs : List V} (e : Same H H') (h : SqT K H a xs) : SqT K H' a xs := by
  rcases h with (h | ⟨o, h⟩) | h
  · exact .inl (.inl (e _ _ h))
  · exact .inl (.inr ⟨o, e _ _ h⟩)
  · exact .inr h
/-- a drawing state: a list of two ints -/
def StAt (H : Hp) (st : Addr) : Prop := ∃ n s : Int, H st = some (.lst [.int n, .int s]) ∧ 0 ≤ n ∧ 0 ≤ s ∧ s < 2147483629
theorem SameBut.set {st : Addr} {H : Hp} {o : HO} : SameBut st H (upd H st o) := fun b u n e => by rw [upd_ne n]; exact e
theorem StAt.same {H H' : Hp} {st : Addr} (s : Same H H') (h : StAt H st) : StAt H' st := by
  obtain ⟨n, z, e, r⟩ := h
  exact ⟨n, z, s _ _ e, r⟩
/-! ### names are unlike each other -/
theorem nodup_sub_length {α : Type} [DecidableEq α] : ∀ {l m : List α}, l.Nodup → (∀ x ∈ l, x ∈ m) → l.length ≤ m.length
  | [], _, _, _ => Nat.zero_le _
  | x :: l, m, hn, h => by
    obtain ⟨hx, hl⟩ := List.nodup_cons.mp hn
    have hm : x ∈ m := h x List.mem_cons_self
    have ih := nodup_sub_length (l := l) (m := m.erase x) hl fun y hy => by
      have hne : y ≠ x := fun e => hx (e ▸ hy)
      exact (List.mem_erase_of_ne hne).mpr (h y (List.mem_cons_of_mem _ hy))
    rw [List.length_erase_of_mem hm] at ih
    have : 0 < m.length := List.length_pos_of_mem hm
    simp only [List.length_cons]
    omega
/-! ### for x in xs, xs a list or a tuple -/
def iSeq (K : PySem.W.Frag) (i : Nat) : TI := fun σ H R => ∃ (a : Addr) (xs : List V), σ[i]? = some (some (.ref a)) ∧ (SqL K H a xs ∨ SqT K H a xs) ∧ ∀ (J : It) (G : Hp → Prop), Walk J xs.length G (YAt xs) → (∀ H', Same H H' → G H') → R J H
theorem pi_seq {X : Cx} {tg : Expr} (i : Nat) {x : Str} {pos : Pos} (hN : X.N[i]? = some x := by rfl) (hv : Vis X.env.scope x := by first | exact Or.inl rfl | exact Or.inr (Or.inl rfl) | exact Or.inr (Or.inr rfl)) (hd : (x == ("__debug__" : Str)) = false := by decide)
    (hcd : (x == ("__classdict__" : Str)) = false := by decide) : PI X tg (.Name x pos) (iSeq X.K i) := by
  refine ⟨fun pins s σ H R I h => ?_⟩
  obtain ⟨a, xs, e, hq, key⟩ := h
  rcases hq with hq | hq
  · exact (pi_list (pe_var hN hv hd hcd)).run pins s σ H R I ⟨_, e, a, rfl, ⟨xs, hq⟩, key _ _ walk_list fun H' s => s.seq hq⟩
  · exact (pi_tup (pe_var hN hv hd hcd)).run pins s σ H R I ⟨_, e, a, rfl, ⟨xs, hq⟩, key _ _ walk_tup fun H' s => s.seqT hq⟩
def hasB (kvs : List (Key × V)) (ss : List Str) : Bool := decide (kvs.length = ss.length) && ss.all fun z => (valV kvs (Sum.inr z)).isSome
/-- an item of a list or tuple that is asked -/
def GoodE (H : Hp) (x : V) : Prop := (∃ k, IsK H x k) ∧ ∀ z, x = .str z → z.length ≤ 1000
theorem GoodE.same {H H' : Hp} (s : Same H H') {x : V} (h : GoodE H x) : GoodE H' x := ⟨h.1.imp fun _ q => q.same s, h.2⟩
theorem GoodE.elt {H : Hp} {x : V} (h : GoodE H x) : EltV H x := by
  obtain ⟨⟨k, q⟩, _⟩ := h
  exact q.elt
theorem GoodE.str {H : Hp} {z : Str} (h : z.length ≤ 1000) : GoodE H (.str z) := ⟨⟨_, .str z⟩, fun y e => by
  cases e
  exact h⟩
end L2
namespace L2
open PySem PySem.Spec PyProof.Rows
/-- a dict comprehension over it -/
theorem dc_it {J : It} {n : Nat} {G : Hp → Prop} {Y : Nat → Hp → V → Hp → Prop} (w : Walk J n G Y) {g : TG} {tt : TT} {tk tv : TE} {vs : List Nat} {σ : St} {H1 : Hp} {D : Addr} {Qd : Hp → Prop} (Pv : Nat → Hp → Prop) (h0 : Pv 0 (upd H1 D (.dK []))) (hG : ∀ i H, i ≤ n → Pv i H → G H)
    (hs : ∀ i x H H', i < n → Pv i H → Y i H x H' → g x (wipe σ vs) H' fun σ2 H2 => wipe σ2 vs = wipe σ vs ∧ tt σ2 H2 fun b H3 =>
      if b = true then tk σ2 H3 fun y H4 => tv σ2 H4 fun z H5 => ∃ kvs k, y = kV k ∧ H5 D = some (.dK kvs) ∧ kvs.length < sizeLine ∧ Pv (i + 1) (upd H5 D (.dK (putK kvs k z))) else Pv (i + 1) H3) (hd : ∀ H, Pv n H → Qd H) :
    ∃ W : Nat → Nat → Hp → Prop, (∃ m, W 0 m (upd H1 D (.dK []))) ∧ ∀ i m H, W i m H →
      (J.stop i H ∧ Qd H) ∨ (J.go i H ∧ ∃ Nx : Hp → Prop, (∀ H', Nx H' → ∃ m', m' < m ∧ W (i + 1) m' H') ∧ ∀ x H', J.yld i H x H' → g x (wipe σ vs) H' fun σ2 H2 => wipe σ2 vs = wipe σ vs ∧ tt σ2 H2 fun b H3 =>
        if b = true then tk σ2 H3 fun y H4 => tv σ2 H4 fun z H5 => ∃ kvs k, y = kV k ∧ H5 D = some (.dK kvs) ∧ kvs.length < sizeLine ∧ Nx (upd H5 D (.dK (putK kvs k z))) else Nx H3) := by
  refine ⟨fun i m H => m = n - i ∧ i ≤ n ∧ Pv i H, ⟨n, by simp, Nat.zero_le _, h0⟩, ?_⟩
  rintro i m H ⟨rfl, hi, p⟩
  have q := hG i H hi p
  by_cases hlt : i < n
  · exact .inr ⟨w.goes i H hlt q, Pv (i + 1), fun H' p' => ⟨n - (i + 1), by omega, rfl, hlt, p'⟩, fun x H' y => hs i x H H' hlt p (w.yields i H x H' hlt q y)⟩
  · have e : i = n := by omega
    subst e
    exact .inl ⟨w.stops H q, hd H p⟩
theorem dcTurn {tk tv : TE} {σ : St} {H : Hp} {R : V → VK} {N : Hp → Prop} (h : tk σ H fun y H4 => tv σ H4 (R y)) : tYes σ H (fun b H3 => if b = true then tk σ H3 (fun y H4 => tv σ H4 (R y)) else N H3) := h
/-- a dict from names to objects -/
def RowsG (H : Hp) (d : Addr) (ps : List Str) (cnt : Str → HO) : Prop := ∃ ad : Str → Addr, H d = some (.dK (ps.map fun a => (Sum.inr a, V.ref (ad a)))) ∧ ∀ a ∈ ps, H (ad a) = some (cnt a) ∧ ad a ≠ d
theorem RowsG.same {H H' : Hp} (s : Same H H') {d : Addr} {ps : List Str} {cnt : Str → HO} (h : RowsG H d ps cnt) : RowsG H' d ps cnt := by
  obtain ⟨ad, e, q⟩ := h
  exact ⟨ad, s _ _ e, fun a ha => ⟨s _ _ (q a ha).1, (q a ha).2⟩⟩
theorem RowsG.nil {H : Hp} {d : Addr} {cnt : Str → HO} (h : H d = some (.dK [])) : RowsG H d [] cnt := ⟨fun _ => 0, h, fun _ h => by cases h⟩
theorem valV_rows {ad : Str → Addr} : ∀ {ps : List Str} {a : Str}, a ∈ ps → valV (ps.map fun a => ((Sum.inr a : Key), V.ref (ad a))) (Sum.inr a) = some (.ref (ad a))
  | [], _, h => by cases h
  | b :: ps, a, h => by
    rw [List.map_cons]
    by_cases e : b = a
    · rw [valV_pos (by rw [e]), e]
    · rw [valV_neg (fun q => e (Sum.inr.inj q))]
      refine valV_rows ?_
      rcases List.mem_cons.mp h with q | q
      · exact absurd q.symm e
      · exact q
theorem valV_rows_none {ad : Str → Addr} : ∀ {ps : List Str} {a : Str}, a ∉ ps → valV (ps.map fun a => ((Sum.inr a : Key), V.ref (ad a))) (Sum.inr a) = none
  | [], _, _ => rfl
  | b :: ps, a, h => by
    rw [List.map_cons, valV_neg (fun q => h (by rw [Sum.inr.inj q]; exact List.mem_cons_self))]
    exact valV_rows_none fun q => h (List.mem_cons_of_mem _ q)
theorem RowsG.snoc {H H1 : Hp} {D p : Addr} {qs : List Str} {cnt : Str → HO} {a : Str} (R : RowsG H D qs cnt) (s : Same H H1) (ha : a ∉ qs) (hp : H1 p = some (cnt a)) (hpd : p ≠ D) :
    ∃ kvs, H1 D = some (.dK kvs) ∧ kvs.length = qs.length ∧ RowsG (upd H1 D (.dK (putK kvs (Sum.inr a) (.ref p)))) D (qs ++ [a]) cnt := by
  obtain ⟨ad, e, q⟩ := R
  refine ⟨_, s _ _ e, by rw [List.length_map], fun x => if x = a then p else ad x, ?_, fun x hx => ?_⟩
  · rw [upd_same, putK_new _ (valV_rows_none ha), List.map_append]
    have e1 : (qs.map fun x => ((Sum.inr x : Key), V.ref (if x = a then p else ad x))) = qs.map fun x => (Sum.inr x, V.ref (ad x)) := by
      refine List.map_congr_left fun x hx => ?_
      rw [if_neg (fun z : x = a => ha (z ▸ hx))]
    rw [e1]
    simp
  · by_cases hxa : x = a
    · subst hxa
      show upd H1 D _ (if x = x then p else ad x) = some (cnt x) ∧ (if x = x then p else ad x) ≠ D
      rw [if_pos rfl, upd_ne hpd]
      exact ⟨hp, hpd⟩
    · show upd H1 D _ (if x = a then p else ad x) = some (cnt x) ∧ (if x = a then p else ad x) ≠ D
      rw [if_neg hxa]
      have hx' : x ∈ qs := by
        rcases List.mem_append.mp hx with h | h
        · exact h
        · exact absurd (by simpa using h) hxa
      rw [upd_ne (q x hx').2]
      exact ⟨s _ _ (q x hx').1, (q x hx').2⟩
/-- a list of texts, as it stands -/
def lstO (ss : List Str) : HO := .lst (ss.map V.str)
/-- a dict of indexes -/
def rnkO (ss : List Str) : HO := .dK (ss.zipIdx.map fun q => (Sum.inr q.1, V.int (q.2 : Nat)))
def opn (ws : Str → List Str) (a : Str) : List Str := (ws a).filter fun b => decide (a ∈ ws b)
theorem take_snoc {α : Type} {l : List α} {i : Nat} {x : α} (h : l[i]? = some x) : l.take (i + 1) = l.take i ++ [x] := by
  rw [List.take_add_one, h]
  rfl
theorem not_mem_take {α : Type} {l : List α} (hn : l.Nodup) {i : Nat} {x : α} (h : l[i]? = some x) : x ∉ l.take i := by
  intro hm
  obtain ⟨j, hj⟩ := List.mem_iff_getElem?.mp hm
  have hji : j < i := by
    have := (List.getElem?_eq_some_iff.mp hj).1
    rw [List.length_take] at this
    omega
  rw [List.getElem?_take_of_lt hji] at hj
  have := nd_ix hn hj h
  omega
/-! ### the scope of a comprehension -/
def cScope (e : Expr) : Scope := match e with
  | .DictComp _ _ _ sc _ => sc
  | .ListComp _ _ sc _ => sc
  | _ => { kind := .function, names := [], isGenerator := false, isCoroutine := false }
def retE (b : List Stmt) (i : Nat) : Expr := match b.getD i (.Pass ⟨0, 0, 0, 0⟩) with
  | .Return (some e) _ => e
  | .Assign _ e _ => e
  | .Expr e _ => e
  | _ => .Constant .none 0 ⟨0, 0, 0, 0⟩
theorem lookup_rel {env : Env} : ∀ {names : List (Str × NameKind)} {x : Str}, names.lookup x = some .cell ∨ names.lookup x = some .free →
    (names.map fun (n, k) => if (k == NameKind.free && env.scope.kind == .function && env.kindOf n == some .cell) then (n, NameKind.cell) else (n, k)).lookup x = some .cell ∨
    (names.map fun (n, k) => if (k == NameKind.free && env.scope.kind == .function && env.kindOf n == some .cell) then (n, NameKind.cell) else (n, k)).lookup x = some .free
  | [], _, h => by simp at h
  | (n, k) :: r, x, h => by
    have ih := @lookup_rel env r x
    rw [List.map_cons]
    by_cases e : x = n
    · subst e
      have hk : k = .cell ∨ k = .free := by simpa [List.lookup] using h
      by_cases c : (k == NameKind.free && env.scope.kind == .function && env.kindOf x == some .cell) = true
      · refine .inl ?_
        simp only [if_pos c]
        simp [List.lookup]
      · simp only [if_neg c]
        rcases hk with hk | hk
        · exact .inl (by simp [List.lookup, hk])
        · exact .inr (by simp [List.lookup, hk])
    · have e' : (x == n) = false := by simpa using e
      have h' : r.lookup x = some .cell ∨ r.lookup x = some .free := by simpa [List.lookup, e'] using h
      have q := ih h'
      by_cases c : (k == NameKind.free && env.scope.kind == .function && env.kindOf n == some .cell) = true
      · simp only [if_pos c]
        simpa [List.lookup, e'] using q
      · simp only [if_neg c]
        simpa [List.lookup, e'] using q
/-- a comprehension within a comprehension -/
theorem BlkOk.rel {N : List Str} {sc scope : Scope} {own : List (Str × Nat)} {env : Env} (h : BlkOk N sc scope own) : BlkOk N (relabel sc env) scope own :=
  ⟨h.kind, h.uniq, h.ix, fun y hy e => lookup_rel (h.free y hy e), h.own⟩
/-! ### rules that name the written part, for a block within a block -/
section
variable {X : Cx} {K : PySem.W.Frag}
theorem pi_listK {tg e : Expr} {te : TE} (hK : X.K = K) (he : PE X e te) : PI X tg e (iList K te) := by
  subst hK
  exact pi_list he
theorem op_inSK (hK : X.K = K) (hu : X.A.units + 64 < cLine) : OpR X (compareOp .In) (rInS K false) := by
  subst hK
  exact op_inS hu
theorem pi_enumK {e : Expr} {ta : TA} {p pos tpos : Pos} {elts : List Expr} {kk : Nat} (hK : X.K = K) (hg : Gl X "enumerate") (hm : X.mg "enumerate" = none) (ha : PA X [e] ta) (hs : starEach [e] X.env = [(false, eval e X.env)] := by rfl) :
    PI X (.Tuple elts kk tpos) (.Call (.Name "enumerate" p) [e] [] pos) (iEnumT K ta) := by
  subst hK
  exact pi_enumT hg hm ha hs
theorem pg_tupK {es : List Expr} {k : Nat} {t : TGs} {n : Nat} {pos : Pos} (hK : X.K = K) (hc : X.calm = true) (h : PGs X es t)
    (hn : (assignEach es X.env).length = n := by rfl) (hst : (assignEach es X.env).findIdx? (·.1) = none := by rfl) : PG X (.Tuple es k pos) (gTup K n t) := by
  subst hK
  exact pg_tup hc h hn hst
end
theorem valV_rnk_none : ∀ {ss : List Str} {k : Nat} {a : Str}, a ∉ ss → valV ((ss.zipIdx k).map fun q => ((Sum.inr q.1 : Key), V.int (q.2 : Nat))) (Sum.inr a) = none
  | [], _, _, _ => rfl
  | b :: ss, k, a, h => by
    rw [List.zipIdx_cons, List.map_cons, valV_neg (fun q => h (by
      have e : b = a := Sum.inr.inj q
      rw [e]; exact List.mem_cons_self))]
    exact valV_rnk_none fun q => h (List.mem_cons_of_mem _ q)
theorem zip_snoc {ss : List Str} {b : Str} : ((ss ++ [b]).zipIdx.map fun q => ((Sum.inr q.1 : Key), V.int (q.2 : Nat))) = (ss.zipIdx.map fun q => ((Sum.inr q.1 : Key), V.int (q.2 : Nat))) ++ [(Sum.inr b, V.int (ss.length : Nat))] := by
  rw [List.zipIdx_append, List.map_append]
  simp
theorem call_listK {X : Cx} {K : PySem.W.Frag} (hK : X.K = K) : CallR X (.type "list") (fun xs H Q => ∃ p ys, xs = [.ref p] ∧ (SqL K H p ys ∨ SqT K H p ys) ∧ ∀ l, H l = none → Q (.ref l) (upd H l (.lst ys))) := by
  subst hK
  exact call_list_of
end L2
namespace Qp
open PySem L2
def topS (i : Nat) : Stmt := PySem.Challenge.pw_quietpairs_k01_people_refused.main.body.getD i (.Pass ⟨0, 0, 0, 0⟩)
abbrev swall : Stmt := topS 0
abbrev scopied : Stmt := topS 2
abbrev sBadPeopleinit : Stmt := inClass (topS 4) 0
abbrev sBadWishesinit : Stmt := inClass (topS 5) 0
abbrev sNoPersoninit : Stmt := inClass (topS 6) 0
abbrev sisname : Stmt := topS 8
abbrev shaskeys : Stmt := topS 9
abbrev sbadindex : Stmt := topS 10
abbrev sislot : Stmt := topS 11
abbrev scheckpeople : Stmt := topS 14
abbrev scheckwishes : Stmt := topS 15
abbrev sopenrows : Stmt := topS 16
abbrev srankrows : Stmt := topS 17
abbrev sGroupinit : Stmt := inClass (topS 18) 0
abbrev sGrouppeople : Stmt := inClass (topS 18) 1
abbrev sGroupwishes : Stmt := inClass (topS 18) 2
abbrev sGroupopento : Stmt := inClass (topS 18) 3
abbrev sGrouprank : Stmt := inClass (topS 18) 4
abbrev sGrouppairs : Stmt := inClass (topS 18) 5
abbrev sGroupwithwishes : Stmt := inClass (topS 18) 6
abbrev sGroupwithout : Stmt := inClass (topS 18) 7
abbrev sGroupjoined : Stmt := inClass (topS 18) 8
abbrev sGrouprenamed : Stmt := inClass (topS 18) 9
abbrev sGroupinside : Stmt := inClass (topS 18) 10
abbrev sGroupoutside : Stmt := inClass (topS 18) 11
abbrev sGroupexchanged : Stmt := inClass (topS 18) 12
abbrev sGroupstruck : Stmt := inClass (topS 18) 13
abbrev sGrouplen : Stmt := inClass (topS 18) 14
abbrev sGroupcontains : Stmt := inClass (topS 18) 15
abbrev sGroupgetitem : Stmt := inClass (topS 18) 16
abbrev sGroupiter : Stmt := inClass (topS 18) 17
abbrev sGroupeq : Stmt := inClass (topS 18) 18
abbrev sGrouphas : Stmt := inClass (topS 18) 19
abbrev sGroupcheckperson : Stmt := inClass (topS 18) 20
abbrev sGroupcheckopen : Stmt := inClass (topS 18) 21
abbrev sGroupcheckplaces : Stmt := inClass (topS 18) 22
abbrev sGroupchecknames : Stmt := inClass (topS 18) 23
abbrev sGroupchecklot : Stmt := inClass (topS 18) 24
abbrev sGroupwithrow : Stmt := inClass (topS 18) 25
abbrev sGroupwithonly : Stmt := inClass (topS 18) 26
abbrev sLisinteger : Stmt := topS 20
abbrev sLcell : Stmt := topS 21
abbrev sLtake : Stmt := topS 22
abbrev sLname : Stmt := topS 23
abbrev sLnames : Stmt := topS 24
abbrev sLrow : Stmt := topS 25
abbrev sLisname : Stmt := topS 26
abbrev sLvalue : Stmt := topS 27
abbrev sLdue : Stmt := topS 28
abbrev slaw : Stmt := topS 29
theorem scisname : FnScope ["value", "letter"] ["value"] (defScope sisname) := ⟨rfl, rfl, rfl, by decide +kernel, rfl, by decide +kernel, by decide +kernel⟩
theorem schaskeys : FnScope ["value", "names", "name"] ["value", "names"] (defScope shaskeys) := ⟨rfl, rfl, rfl, by decide +kernel, rfl, by decide +kernel, by decide +kernel⟩
theorem scbadindex : FnScope ["items", "names", "index", "item"] ["items", "names"] (defScope sbadindex) := ⟨rfl, rfl, rfl, by decide +kernel, rfl, by decide +kernel, by decide +kernel⟩
theorem scislot : FnScope ["value", "names"] ["value", "names"] (defScope sislot) := ⟨rfl, rfl, rfl, by decide +kernel, rfl, by decide +kernel, by decide +kernel⟩
theorem sccheckpeople : FnScope ["people", "index", "person"] ["people"] (defScope scheckpeople) := ⟨rfl, rfl, rfl, by decide +kernel, rfl, by decide +kernel, by decide +kernel⟩
theorem sccheckwishes : FnScope ["people", "wishes", "person", "other"] ["people", "wishes"] (defScope scheckwishes) := ⟨rfl, rfl, rfl, by decide +kernel, rfl, by decide +kernel, by decide +kernel⟩
theorem scopenrows : FnScope ["wishes", "a", "b"] ["wishes"] (defScope sopenrows) := ⟨rfl, rfl, rfl, by decide +kernel, rfl, by decide +kernel, by decide +kernel⟩
theorem scrankrows : FnScope ["rows", "a", "index", "b"] ["rows"] (defScope srankrows) := ⟨rfl, rfl, rfl, by decide +kernel, rfl, by decide +kernel, by decide +kernel⟩
theorem scGroupinit : FnScope ["self", "people", "wishes", "a"] ["self", "people", "wishes"] (defScope sGroupinit) := ⟨rfl, rfl, rfl, by decide +kernel, rfl, by decide +kernel, by decide +kernel⟩
theorem scGrouppeople : FnScope ["self"] ["self"] (defScope sGrouppeople) := ⟨rfl, rfl, rfl, by decide +kernel, rfl, by decide +kernel, by decide +kernel⟩
theorem scLisinteger : FnScope ["_law_actual"] ["_law_actual"] (defScope sLisinteger) := ⟨rfl, rfl, rfl, by decide +kernel, rfl, by decide +kernel, by decide +kernel⟩
theorem scLcell : FnScope ["_law_script", "_law_k", "_law_number", "_law_seed"] ["_law_script", "_law_k"] (defScope sLcell) := ⟨rfl, rfl, rfl, by decide +kernel, rfl, by decide +kernel, by decide +kernel⟩
theorem scLtake : FnScope ["_law_state", "_law_many", "_law_digit", "_law_mixed"] ["_law_state", "_law_many"] (defScope sLtake) := ⟨rfl, rfl, rfl, by decide +kernel, rfl, by decide +kernel, by decide +kernel⟩
theorem scLname : FnScope ["_law_state", "_law_taken", "_law_letters", "_law_size", "_law_k", "_law_name_here", "_law_last", "_law_other"] ["_law_state", "_law_taken"] (defScope sLname) := ⟨rfl, rfl, rfl, by decide +kernel, rfl, by decide +kernel, by decide +kernel⟩
theorem scLnames : FnScope ["_law_state", "_law_many", "_law_names_here", "_law_k"] ["_law_state", "_law_many"] (defScope sLnames) := ⟨rfl, rfl, rfl, by decide +kernel, rfl, by decide +kernel, by decide +kernel⟩
theorem scLrow : FnScope ["_law_actual", "_law_due_here"] ["_law_actual", "_law_due_here"] (defScope sLrow) := ⟨rfl, rfl, rfl, by decide +kernel, rfl, by decide +kernel, by decide +kernel⟩
theorem scLisname : FnScope ["_law_value_here", "_law_letter"] ["_law_value_here"] (defScope sLisname) := ⟨rfl, rfl, rfl, by decide +kernel, rfl, by decide +kernel, by decide +kernel⟩
theorem scLvalue : FnScope ["_law_state", "_law_deep", "_law_k", "_law_values"] ["_law_state"] (defScope sLvalue) := ⟨rfl, rfl, rfl, by decide +kernel, rfl, by decide +kernel, by decide +kernel⟩
theorem scLdue : FnScope ["_law_people", "_law_k"] ["_law_people"] (defScope sLdue) := ⟨rfl, rfl, rfl, by decide +kernel, rfl, by decide +kernel, by decide +kernel⟩
theorem sclaw : FnScope ["_law_script", "_law_state", "_law_spoil", "_law_names_here", "_law_other", "_law_people", "_law_due_here", "_law_wishes", "_law_a", "_law_told", "_law_shown", "_law_group", "e"] ["_law_script"] (defScope slaw) := ⟨rfl, rfl, rfl, by decide +kernel, rfl, by decide +kernel, by decide +kernel⟩
/-- built-in names that the module does not bind -/
structure Bl (mg : Str → Option Value) : Prop where
  len : mg "len" = none
  isi : mg "isinstance" = none
  all : mg "all" = none
  enum : mg "enumerate" = none
  str : mg "str" = none
  tup : mg "tuple" = none
  lst : mg "list" = none
  dct : mg "dict" = none
  srt : mg "sorted" = none
  rng : mg "range" = none
  abs : mg "abs" = none
  int : mg "int" = none
  min : mg "min" = none
  bool : mg "bool" = none
end Qp
namespace Qp
open PySem L2
section
variable {P : Program} {w : World} {K : PySem.W.Frag} {mg : Str → Option Value} {base : Heap}
/-- is_name(value) -/
def spIsName : Sp := fun vs H Q _ => ∃ (x : V) (k : Kd), vs = [x] ∧ IsK H x k ∧ (∀ z, x = .str z → z.length ≤ 1000) ∧ ∀ H', Same H H' → Q (.bl (nameV x)) H'
theorem ok_isname {f : Addr} {fd : FuncData} (F : Fun K "is_name" "is_name" sisname f fd) (B : Bl mg) : FnOk P w K mg base CX0 1 f fd ["value"] spIsName := by
  refine F.ok scisname (fun vs H Q E h => ?_) (fun cdv A outer s H vs Q E hr h => ?_)
  · obtain ⟨x, k, rfl, _⟩ := h
    rfl
  · obtain ⟨x, k, rfl, ik, hz, kq⟩ := h
    refine ⟨_, pss_one (ps_ret (pe_and (pe_isi kit_str B.isi B.str (pv 0)) (pe_and (pe_chain op_le op_le pe_int (pe_callB call_len (by rfl) B.len PySem.boot_len (pa_cons (pv 0) pa_nil)) pe_int)
      (pe_one (pe_callB (cr_all rfl) (by rfl) B.all (by decide +kernel) (pa_cons (pe_lc (own := [("letter", 1)]) (g := gName 1) (tt := tYes) rfl scisname.nd (pi_str (pv 0)) (blkOk_by (own := [("letter", 1)]) (N := ["value", "letter"]) (sc := defScope sisname) (by decide +kernel))
        (fun _ _ _ _ _ => pg_name (i := 1) scisname.nd rfl (Or.inl rfl)) (fun _ _ _ _ _ => pts_nil) (fun _ _ _ _ _ => pe_chain op_le_str op_le_str pe_str (pv 1) pe_str)) pa_nil)))))), ?_⟩
    refine ⟨_, rfl, x, k, rfl, ik, ?_⟩
    cases ik with
    | str z =>
      refine ⟨true, rfl, iteT ?_⟩
      have hl := hz z rfl
      have e2 : sizeLine = 16777216 := sizeLine_eq
      refine ⟨_, rfl, .str z, z.length, rfl, ⟨by omega, rfl⟩, _, _, rfl, rfl, _, rfl, ?_⟩
      have nf : ∀ {b : Bool}, nameS z = b → nameV (V.str z) = b := fun e => e
      refine ite2 (fun h1 => ?_) (fun h1 => ?_)
      · refine ⟨_, _, rfl, rfl, _, rfl, ite2 (fun h2 => ?_) (fun h2 => ?_)⟩
        · refine ⟨_, rfl, z, rfl, fun D hD => lc_it walk_str (fun i H' => H' = upd H D (.lst (((z.cps.toList.take i).map lowC).map V.bl))) rfl (fun _ _ _ _ => True.intro) ?_ ?_⟩
          · rintro i y H1 H' hi rfl ⟨rfl, c, hc, rfl⟩
            have ea : ("a" : Str).cps.toList = [97] := by decide +kernel
            have ez : ("z" : Str).cps.toList = [122] := by decide +kernel
            have k1 : (!decide (((⟨#[c]⟩ : Str).cps.toList) < ("a" : Str).cps.toList)) = decide (97 ≤ c) := by rw [ea]; exact cmp_low1 c
            have k2 : (!decide (("z" : Str).cps.toList < ((⟨#[c]⟩ : Str).cps.toList))) = decide (c ≤ 122) := by rw [ez]; exact cmp_low2 c
            have hc' : z.cps.toList[i]? = some c := by rw [Array.getElem?_toList]; exact hc
            have tk : (((z.cps.toList.take (i + 1)).map lowC).map V.bl) = (((z.cps.toList.take i).map lowC).map V.bl) ++ [V.bl (lowC c)] := by
              rw [List.take_add_one, hc']
              simp
            have sz : z.cps.toList.length = z.length := by simp [Str.length]
            have fin : ∀ b, b = lowC c → ∃ acc, (upd H D (.lst (((z.cps.toList.take i).map lowC).map V.bl))) D = some (.lst acc) ∧ acc.length < sizeLine ∧
                upd (upd H D (.lst (((z.cps.toList.take i).map lowC).map V.bl))) D (.lst (acc ++ [V.bl b])) = upd H D (.lst (((z.cps.toList.take (i + 1)).map lowC).map V.bl)) := by
              intro b eb
              refine ⟨_, upd_same, ?_, ?_⟩
              · rw [List.length_map, List.length_map, List.length_take]
                omega
              · rw [upd_upd, eb, tk]
            refine ⟨rfl, lcTurn ⟨_, rfl, _, _, rfl, rfl, _, rfl, ite2 (fun h3 => ?_) (fun h3 => ?_)⟩⟩
            · refine ⟨_, _, rfl, rfl, fin _ ?_⟩
              rw [k1] at h3
              rw [k2]
              unfold lowC
              rw [h3, Bool.true_and]
            · refine fin _ ?_
              rw [k1] at h3
              unfold lowC
              cases e : decide (97 ≤ c) with
              | true => exact absurd e h3
              | false => rw [Bool.false_and]
          · rintro H' rfl
            refine ⟨D, z.cps.toList.map lowC, rfl, SqL.of ?_, ?_⟩
            · rw [upd_same, List.take_of_length_le (by simp)]
            · have e : nameV (V.str z) = ((z.cps.toList.map lowC).all id) := by
                refine nf ?_
                have h1' : decide (1 ≤ z.length) = true := by
                  have := of_decide_eq_true h1
                  exact decide_eq_true (by omega)
                have h2' : decide (z.length ≤ 8) = true := by
                  have := of_decide_eq_true h2
                  exact decide_eq_true (by omega)
                unfold nameS
                rw [h1', h2', List.all_map]
                rfl
              rw [← e]
              exact kq _ (Same.new hD)
        · have e : nameV (V.str z) = false := by
            refine nf ?_
            have h2' : decide (z.length ≤ 8) = false := decide_eq_false fun q => h2 (decide_eq_true (by omega))
            unfold nameS
            rw [h2', Bool.and_false, Bool.false_and]
          have q := kq H (Same.refl H)
          rw [e] at q
          exact q
      · have e : nameV (V.str z) = false := by
          refine nf ?_
          have h1' : decide (1 ≤ z.length) = false := decide_eq_false fun q => h1 (decide_eq_true (by omega))
          unfold nameS
          rw [h1', Bool.false_and, Bool.false_and]
        have q := kq H (Same.refl H)
        rw [e] at q
        exact ⟨false, rfl, iteF q⟩
    | _ => exact ⟨false, rfl, iteF (kq H (Same.refl H))⟩
end
end Qp
namespace Qp
open PySem L2
section
variable {P : Program} {w : World} {K : PySem.W.Frag} {mg : Str → Option Value} {base : Heap}
/-- bad_index(items, names) -/
def spBad (K : PySem.W.Frag) : Sp := fun vs H Q _ => ∃ (a b : Addr) (xs : List V) (ss : List Str), vs = [.ref a, .ref b] ∧ (SqL K H a xs ∨ SqT K H a xs) ∧ (SqL K H b (ss.map V.str) ∨ SqT K H b (ss.map V.str)) ∧ (∀ x ∈ xs, EltV H x) ∧
  ∀ H', Same H H' → Q (vOpt (badFrom (fun x => inS x ss) [] xs)) H'
theorem sq_same {K : PySem.W.Frag} {H H' : Hp} {a : Addr} {xs : List V} (s : Same H H') (h : SqL K H a xs ∨ SqT K H a xs) : SqL K H' a xs ∨ SqT K H' a xs := h.imp s.seq s.seqT
theorem ok_bad {f : Addr} {fd : FuncData} (F : Fun K "bad_index" "bad_index" sbadindex f fd) (B : Bl mg) : FnOk P w K mg base CX0 1 f fd ["items", "names"] (spBad K) := by
  refine F.ok scbadindex (fun vs H Q E h => ?_) (fun cdv A outer s H vs Q E hr h => ?_)
  · obtain ⟨a, b, xs, ss, rfl, _⟩ := h
    rfl
  · obtain ⟨a, b, xs, ss, rfl, ha, hb, hx, kq⟩ := h
    refine ⟨_, pss_cons (ps_for PassesOwn.never rfl (pi_enumT (by rfl) B.enum (pa_cons (pv 0) pa_nil))
        (pg_tup rfl (pgs_cons (pg_name (i := 2) scbadindex.nd rfl (Or.inl rfl)) (pgs_cons (pg_name (i := 3) scbadindex.nd rfl (Or.inl rfl)) pgs_nil)))
        (pss_one (ps_if (PW.pt (pw_or (pt_cmpR (op_notInS hr.units) (pv 3) (pv 1) (by rfl)) (pw_or1 (pt_cmpR (op_inS hr.units) (pv 3) (pe_slice sl_both (pv 0) po_none (po_some (pv 2))) (by rfl)))))
          (pss_one (ps_ret (pv 2))) pss_nil)))
      (pss_one (ps_ret pe_non)), ?_⟩
    refine ⟨_, rfl, a, xs, rfl, ha, fun J G wk hG => for_it wk (fun i σ H' => ∃ (v2 v3 : Option V) (zs : List Str), σ = [some (.ref a), some (.ref b), v2, v3] ∧ Same H H' ∧ xs.take i = zs.map V.str ∧
      badFrom (fun x => inS x ss) (xs.take i) (xs.drop i) = badFrom (fun x => inS x ss) [] xs) ⟨none, none, [], rfl, Same.refl H, rfl, rfl⟩ (fun i σ H' _ ⟨_, _, _, _, s, _⟩ => hG H' s) ?_ ?_⟩
    · rintro i v σ H1 H2 hi ⟨v2, v3, zs, rfl, s, htk, hbf⟩ ⟨T, x, y, rfl, hT, rfl, ex, ey⟩
      cases ex
      have ey : xs[i]? = some y := ey
      have s2 : Same H (upd H1 T (.tup [.int (i : Nat), y])) := s.trans (Same.new hT)
      have hlen : xs.drop i = y :: xs.drop (i + 1) := by
        have h1 := (List.getElem?_eq_some_iff.mp ey)
        rw [List.drop_eq_getElem_cons hi, h1.2]
      have htk2 : xs.take (i + 1) = xs.take i ++ [y] := by
        rw [List.take_add_one, ey]
        rfl
      have hli : (xs.take i).length = i := by
        rw [List.length_take]
        omega
      rw [hlen, badFrom_cons] at hbf
      have ey' : EltV (upd H1 T (.tup [.int (i : Nat), y])) y := (hx y (List.mem_of_getElem? ey)).same s2
      refine ⟨T, [.int (i : Nat), y], rfl, SqT.of upd_same, rfl, _, _, rfl, _, _, rfl, rfl, ?_⟩
      refine ⟨_, rfl, _, rfl, b, ss, rfl, sq_same s2 hb, ey', _, rfl, ?_⟩
      cases e1 : inS y ss with
      | false =>
        refine iteT (iteT ⟨_, rfl, ?_⟩)
        have q := kq _ s2
        rw [← hbf, e1, Bool.false_and, if_neg Bool.false_ne_true, hli] at q
        exact q
      | true =>
        obtain ⟨z, hz, rfl⟩ := inS_iff.mp e1
        refine iteF ⟨_, rfl, _, rfl, _, rfl, _, rfl, take_both (sq_same s2 ha) hi fun p H3 s3 hp => ⟨p, zs, rfl, by rw [← htk]; exact hp, ey'.same s3, _, rfl, ?_⟩⟩
        have ec : (xs.take i).contains (V.str z) = inS (V.str z) zs := by
          rw [htk, inS_str]
          simp
        cases e2 : inS (V.str z) zs with
        | true =>
          refine iteT ⟨_, rfl, ?_⟩
          have q := kq _ (s2.trans s3)
          rw [← hbf, e1, ec, e2, Bool.not_true, Bool.and_false, if_neg Bool.false_ne_true, hli] at q
          exact q
        | false =>
          refine iteF ⟨_, _, zs ++ [z], rfl, s2.trans s3, by rw [htk2, htk, List.map_append]; rfl, ?_⟩
          rw [e1, ec, e2, Bool.not_false, Bool.true_and, if_pos rfl] at hbf
          rw [htk2]
          exact hbf
    · rintro σ H1 ⟨v2, v3, zs, rfl, s, htk, hbf⟩
      have q := kq H1 s
      rw [← hbf, List.drop_length] at q
      exact q
end
end Qp
namespace Qp
open PySem L2
section
variable {P : Program} {w : World} {K : PySem.W.Frag} {mg : Str → Option Value} {base : Heap}
/-- has_keys(value, names) -/
def spHas (K : PySem.W.Frag) : Sp := fun vs H Q _ => ∃ (x : V) (k : Kd) (b : Addr) (ss : List Str), vs = [x, .ref b] ∧ IsK H x k ∧ (SqL K H b (ss.map V.str) ∨ SqT K H b (ss.map V.str)) ∧ ss.length ≤ 1000 ∧
  (k ≠ .dct → ∀ H', Same H H' → Q (.bl false) H') ∧ ∀ d kvs, x = .ref d → H d = some (.dK kvs) → ∀ H', Same H H' → Q (.bl (hasB kvs ss)) H'
theorem ok_has {f : Addr} {fd : FuncData} (F : Fun K "has_keys" "has_keys" shaskeys f fd) (B : Bl mg) : FnOk P w K mg base CX0 1 f fd ["value", "names"] (spHas K) := by
  refine F.ok schaskeys (fun vs H Q E h => ?_) (fun cdv A outer s H vs Q E hr h => ?_)
  · obtain ⟨x, k, b, ss, rfl, _⟩ := h
    rfl
  · obtain ⟨x, k, b, ss, rfl, ik, hb, hl, kn, kq⟩ := h
    have hu := hu_of hr
    refine ⟨_, pss_one (ps_ret (pe_and (pe_isi kit_dict B.isi B.dct (pv 0)) (pe_and (pe_cmpR op_eq (pe_callB call_lenD (by rfl) B.len PySem.boot_len (pa_cons (pv 0) pa_nil)) (pe_callB call_len_seq (by rfl) B.len PySem.boot_len (pa_cons (pv 1) pa_nil)) (nomark _))
      (pe_one (pe_callB (cr_all rfl) (by rfl) B.all (by decide +kernel) (pa_cons (pe_lc (own := [("name", 2)]) (g := gName 2) (tt := tYes) rfl schaskeys.nd (pi_seq 1) (blkOk_by (own := [("name", 2)]) (N := ["value", "names", "name"]) (sc := defScope shaskeys) (by decide +kernel))
        (fun _ _ _ _ _ => pg_name (i := 2) schaskeys.nd rfl (Or.inl rfl)) (fun _ _ _ _ _ => pts_nil) (fun _ _ _ _ _ => pe_cmp (pc_din hu (pv 2) (pv 0)) rfl)) pa_nil)))))), ?_⟩
    refine ⟨_, rfl, x, k, rfl, ik, ?_⟩
    cases ik with
    | @dct d kvs hd =>
      have kq' := kq d kvs rfl hd
      have e2 : sizeLine = 16777216 := sizeLine_eq
      refine ⟨true, rfl, iteT ?_⟩
      refine ⟨_, rfl, d, kvs, rfl, hd, _, rfl, b, _, rfl, hb, rfl, ?_⟩
      by_cases hc : kvs.length = ss.length
      · have e1 : decide (V.int (kvs.length : Int) = V.int ((ss.map V.str).length : Int)) = true := by
          rw [List.length_map, hc]
          exact decide_eq_true rfl
        refine ⟨_, rfl, ?_⟩
        rw [e1]
        refine iteT ⟨b, ss.map V.str, rfl, hb, fun J G wk hG D hD => lc_it wk (fun i H' => Same H H' ∧ H' D = some (.lst (((ss.take i).map fun z => (valV kvs (Sum.inr z)).isSome).map V.bl))) ⟨Same.new hD, upd_same⟩ (fun i H' _ z => hG H' z.1) ?_ ?_⟩
        · rintro i y H1 H' hi ⟨s1, hD1⟩ ⟨rfl, hy⟩
          rw [List.getElem?_map] at hy
          cases ez : ss[i]? with
          | none => rw [ez] at hy; cases hy
          | some z =>
            rw [ez] at hy
            cases hy
            refine ⟨rfl, lcTurn ⟨_, rfl, _, rfl, d, _, rfl, DGet.k (k := Sum.inr z) (s1 _ _ hd), _, hD1, ?_, fun b' o' e' => ?_, ?_⟩⟩
            · rw [List.length_map, List.length_map, List.length_take]
              omega
            · rw [upd_ne (ne_of_none e' hD)]
              exact s1 _ _ e'
            · rw [upd_same, List.take_add_one, ez]
              simp
        · rintro H' ⟨s1, hD1⟩
          refine ⟨D, ss.map fun z => (valV kvs (Sum.inr z)).isSome, rfl, SqL.of ?_, ?_⟩
          · rw [hD1, List.take_of_length_le (by simp)]
          · have e : hasB kvs ss = (ss.map fun z => (valV kvs (Sum.inr z)).isSome).all id := by
              unfold hasB
              rw [decide_eq_true hc, Bool.true_and, List.all_map]
              rfl
            rw [← e]
            exact kq' _ s1
      · have e1 : decide (V.int (kvs.length : Int) = V.int ((ss.map V.str).length : Int)) = false := by
          rw [List.length_map]
          refine decide_eq_false fun z => hc ?_
          have := V.int.inj z
          omega
        refine ⟨_, rfl, ?_⟩
        rw [e1]
        have e : hasB kvs ss = false := by
          unfold hasB
          rw [decide_eq_false hc, Bool.false_and]
        have q := kq' H (Same.refl H)
        rw [e] at q
        exact iteF q
    | _ => exact ⟨false, rfl, iteF (kn (by intro z; cases z) H (Same.refl H))⟩
/-- is_lot(value, names) -/
def spLot (K : PySem.W.Frag) : Sp := fun vs H Q _ => ∃ (x : V) (k : Kd) (b : Addr) (ss : List Str), vs = [x, .ref b] ∧ IsK H x k ∧ (SqL K H b (ss.map V.str) ∨ SqT K H b (ss.map V.str)) ∧
  (k ≠ .lst → ∀ H', Same H H' → Q (.bl false) H') ∧ ∀ a xs, x = .ref a → H a = some (.lst xs) → (∀ y ∈ xs, EltV H y) ∧ ∀ H', Same H H' → Q (.bl (decide (vOpt (badFrom (fun x => inS x ss) [] xs) = .non))) H'
theorem ok_lot {f : Addr} {fd : FuncData} (F : Fun K "is_lot" "is_lot" sislot f fd) (B : Bl mg) (cB : CF P w K mg base CX0 1 "bad_index" ["items", "names"] (spBad K)) : FnOk P w K mg base CX0 2 f fd ["value", "names"] (spLot K) := by
  refine F.ok scislot (fun vs H Q E h => ?_) (fun cdv A outer s H vs Q E hr h => ?_)
  · obtain ⟨x, k, b, ss, rfl, _⟩ := h
    rfl
  · obtain ⟨x, k, b, ss, rfl, ik, hb, kn, kq⟩ := h
    refine ⟨_, pss_one (ps_ret (pe_and (pe_isi kit_list B.isi B.lst (pv 0)) (pe_one (pe_cmp (pc_isN (pe_cf cB hr pass0 (pa_cons (pv 0) (pa_cons (pv 1) pa_nil)))) rfl)))), ?_⟩
    refine ⟨_, rfl, x, k, rfl, ik, ?_⟩
    cases ik with
    | @lst a xs ha =>
      obtain ⟨hx, kq⟩ := kq a xs rfl ha
      exact ⟨true, rfl, iteT ⟨_, rfl, _, rfl, a, b, xs, ss, rfl, .inl (SqL.of ha), hb, hx, kq⟩⟩
    | _ => exact ⟨false, rfl, iteF (kn (by intro z; cases z) H (Same.refl H))⟩
end
end Qp
namespace Qp
open PySem L2
/-- what is wrong with people: none, or the index of BadPeople -/
def dueP : Option (List V) → Option Int
  | none => some (-1)
  | some xs => if xs.length ≤ 16 then (badFrom nameV [] xs).map Int.ofNat else some (-1)
section
variable {P : Program} {w : World} {K : PySem.W.Frag} {mg : Str → Option Value} {base : Heap}
/-- an error of the class at C with one field leaves -/
def Leaves (C : Addr) (f : Str) (v : V) (H : Hp) (E : XK) : Prop := ∀ (d : Addr) (H' : Hp), Same H H' → H' d = some (.xd [(f, v)]) → E (.ref C) (some d) H'
theorem Leaves.go {C : Addr} {f : Str} {v : V} {H H1 : Hp} {E : XK} (h : Leaves C f v H E) (s : Same H H1) (d : Addr) (hd : H1 d = none) : E (.ref C) (some d) (upd H1 d (.xd [(f, v)])) := h d _ (s.trans (Same.new hd)) upd_same
/-- people as a tuple, or none -/
def TupOf (H : Hp) (x : V) (o : Option (List V)) : Prop := ∃ k, IsK H x k ∧ match o with
  | none => k ≠ .tup
  | some xs => ∃ a, x = .ref a ∧ H a = some (.tup xs) ∧ (∀ y ∈ xs, GoodE H y) ∧ xs.length ≤ 1000
/-- _check_people(people) -/
def spCP (C : Addr) : Sp := fun vs H Q E => ∃ (x : V) (o : Option (List V)), vs = [x] ∧ TupOf H x o ∧ (dueP o = none → ∀ H', Same H H' → Q .non H') ∧ ∀ i, dueP o = some i → Leaves C "index" (.int i) H E
theorem names_ok {xs : List V} {zs : List Str} (h : xs.filter nameV = zs.map V.str) : badFrom (fun x => inS x zs) [] xs = badFrom nameV [] xs := by
  refine badFrom_congr fun x hx => ?_
  cases e : nameV x with
  | true =>
    have hm : x ∈ xs.filter nameV := List.mem_filter.mpr ⟨hx, e⟩
    rw [h] at hm
    obtain ⟨z, hz, rfl⟩ := List.mem_map.mp hm
    exact inS_iff.mpr ⟨z, hz, rfl⟩
  | false =>
    cases e2 : inS x zs with
    | false => rfl
    | true =>
      obtain ⟨z, hz, rfl⟩ := inS_iff.mp e2
      have hm : V.str z ∈ zs.map V.str := List.mem_map.mpr ⟨z, hz, rfl⟩
      rw [← h] at hm
      have := (List.mem_filter.mp hm).2
      rw [e] at this
      cases this
theorem ok_cp {f C fI : Addr} {fd : FuncData} {tk : Tok} (F : Fun K "_check_people" "_check_people" scheckpeople f fd) (B : Bl mg) (T : PySem.QX.OwnTxt P K mg "BadPeople" "index" C fI) (hM : mg "MOST_PEOPLE" = some (.int 16 tk))
    (cN : CF P w K mg base CX0 1 "is_name" ["value"] spIsName) (cB : CF P w K mg base CX0 1 "bad_index" ["items", "names"] (spBad K)) : FnOk P w K mg base (L2.CX P w) 2 f fd ["people"] (spCP C) := by
  refine F.okX sccheckpeople (fun vs H Q E h => ?_) (fun cdv A outer s H vs Q E hr h => ?_)
  · obtain ⟨x, o, rfl, _⟩ := h
    rfl
  · obtain ⟨x, o, rfl, ⟨k, ik, hx⟩, kq, kx⟩ := h
    refine ⟨_, pss_cons (ps_if (PW.pt (pw_or (pt_not (pt_val (pe_isi kit_tuple B.isi B.tup (pv 0)))) (pw_or1 (pt_cmpR op_gt (pe_callB call_len_seq (by rfl) B.len PySem.boot_len (pa_cons (pv 0) pa_nil)) (pe_glob (v := .int 16) rfl hM ⟨_, rfl⟩) (nomark _)))))
        (pss_one (ps_raiseS rfl T hr (takes_of rfl rfl rfl rfl) (pa_cons (pe_un un_neg pe_int) pa_nil) rfl)) pss_nil)
      (pss_cons (ps_set (i := 1) sccheckpeople.nd rfl (Or.inl rfl) (pe_cf cB hr pass0 (pa_cons (pv 0) (pa_cons
          (pe_lc (own := [("person", 2)]) (g := gName 2) rfl sccheckpeople.nd (pi_seq 0) (blkOk_by (own := [("person", 2)]) (N := ["people", "index", "person"]) (sc := defScope scheckpeople) (by decide +kernel))
            (fun _ _ _ _ _ => pg_name (i := 2) sccheckpeople.nd rfl (Or.inl rfl)) (fun _ _ _ _ _ => pts_one (pt_val (pe_cf cN hr pass0 (pa_cons (pv 2) pa_nil)))) (fun _ _ _ _ _ => pv 2)) pa_nil))))
      (pss_one (ps_if (pt_cmp (pc_notN (pv 1))) (pss_one (ps_raiseS rfl T hr (takes_of rfl rfl rfl rfl) (pa_cons (pv 1) pa_nil) rfl)) pss_nil))), ?_⟩
    refine ⟨_, rfl, x, k, rfl, ik, _, rfl, ?_⟩
    cases o with
    | none =>
      have e : isaB k "tuple" = false := by
        have hk : k ≠ .tup := hx
        cases k <;> first | rfl | exact absurd rfl hk
      rw [e]
      refine iteT (iteT ?_)
      exact ⟨_, rfl, _, rfl, fun d hd => (kx (-1) rfl).go (Same.refl H) d hd⟩
    | some xs =>
      obtain ⟨a, rfl, ha, hg, hlen⟩ := hx
      have e : isaB k "tuple" = true := by
        cases ik with
        | lst h => rw [ha] at h; cases h
        | tup h => rfl
        | dct h => rw [ha] at h; cases h
      rw [e]
      refine iteF ⟨_, rfl, a, xs, rfl, .inr (SqT.of ha), _, _, rfl, rfl, _, rfl, ?_⟩
      refine ite2 (fun h1 => ?_) (fun h1 => ?_)
      · have h2 := of_decide_eq_true h1
        have e2 : dueP (some xs) = some (-1) := if_neg (by omega)
        exact ⟨_, rfl, _, rfl, fun d hd => (kx (-1) e2).go (Same.refl H) d hd⟩
      · have h2 : xs.length ≤ 16 := by
          have q : ¬ ((16 : Int) < xs.length) := fun z => h1 (decide_eq_true z)
          omega
        have e2 : dueP (some xs) = (badFrom nameV [] xs).map Int.ofNat := if_pos h2
        have esz : sizeLine = 16777216 := sizeLine_eq
        refine ⟨_, rfl, a, xs, rfl, .inr (SqT.of ha), fun J G wk hG D hD => lc_it wk (fun i H' => Same H H' ∧ H' D = some (.lst ((xs.take i).filter nameV))) ⟨Same.new hD, upd_same⟩ (fun i H' _ z => hG H' z.1) ?_ ?_⟩
        · rintro i y H1 H' hi ⟨s1, hD1⟩ ⟨rfl, hy⟩
          obtain ⟨⟨ky, iy⟩, hz⟩ := hg y (List.mem_of_getElem? hy)
          refine ⟨rfl, _, rfl, y, ky, rfl, iy.same s1, hz, fun H2 s2 => ⟨_, rfl, ?_⟩⟩
          have tk : (xs.take (i + 1)).filter nameV = (xs.take i).filter nameV ++ [y].filter nameV := by
            rw [List.take_add_one, hy, List.filter_append]
            rfl
          have hD2 := s2 _ _ hD1
          have hlt : ((xs.take i).filter nameV).length < sizeLine := by
            have q1 := List.length_filter_le nameV (xs.take i)
            rw [List.length_take] at q1
            omega
          cases en : nameV y with
          | true =>
            refine iteT ⟨_, rfl, _, hD2, hlt, fun b' o' e' => ?_, ?_⟩
            · rw [upd_ne (ne_of_none e' hD)]
              exact s2 _ _ (s1 _ _ e')
            · rw [upd_same, tk, List.filter_cons_of_pos (by exact en)]
              rfl
          | false =>
            refine iteF ⟨s1.trans s2, ?_⟩
            rw [hD2, tk, List.filter_cons_of_neg (by rw [en]; decide), List.filter_nil, List.append_nil]
        · rintro H1 ⟨s1, hD1⟩
          obtain ⟨zs, ez, _⟩ := strs_of (l := xs.filter nameV) fun y hy => (List.mem_filter.mp hy).2
          rw [List.take_of_length_le (Nat.le_refl _), ez] at hD1
          refine ⟨a, D, xs, zs, rfl, .inr (SqT.of (s1 _ _ ha)), .inl (SqL.of hD1), fun y hy => (hg y hy).elt.same s1, fun H2 s2 => ?_⟩
          rw [names_ok ez]
          refine ⟨_, rfl, _, rfl, ?_⟩
          cases eb : badFrom nameV [] xs with
          | none =>
            refine iteF (kq ?_ H2 (s1.trans s2))
            rw [e2, eb]
            rfl
          | some i =>
            refine iteT ⟨_, rfl, _, rfl, fun d hd => (kx i ?_).go (s1.trans s2) d hd⟩
            rw [e2, eb]
            rfl
end
end Qp
namespace Qp
open PySem L2
/-- a list, or something else -/
def LstOf (H : Hp) (v : V) (o : Option (List V)) : Prop := ∃ k, IsK H v k ∧ match o with
  | none => k ≠ .lst
  | some xs => ∃ a, v = .ref a ∧ H a = some (.lst xs) ∧ ∀ y ∈ xs, EltV H y
theorem LstOf.same {H H' : Hp} (s : Same H H') {v : V} {o : Option (List V)} (h : LstOf H v o) : LstOf H' v o := by
  obtain ⟨k, ik, q⟩ := h
  refine ⟨k, ik.same s, ?_⟩
  cases o with
  | none => exact q
  | some xs =>
    obtain ⟨a, e, h, hy⟩ := q
    exact ⟨a, e, s _ _ h, fun y m => (hy y m).same s⟩
/-- the wishes of p are as they should be -/
def okW (ps : List Str) (p : Str) : Option (List V) → Bool
  | none => false
  | some xs => decide (vOpt (badFrom (fun x => inS x (ps.filter fun z => !decide (z = p))) [] xs) = .non)
section
variable {P : Program} {w : World} {K : PySem.W.Frag} {mg : Str → Option Value} {base : Heap}
/-- _check_wishes(people, wishes) -/
def spCW (C : Addr) : Sp := fun vs H Q E => ∃ (a : Addr) (x : V) (k : Kd) (ps : List Str), vs = [.ref a, x] ∧ H a = some (.tup (ps.map V.str)) ∧ ps.length ≤ 60 ∧ IsK H x k ∧
  (k ≠ .dct → Leaves C "person" (.str "") H E) ∧
  ∀ d kvs, x = .ref d → H d = some (.dK kvs) → (hasB kvs ps = false → Leaves C "person" (.str "") H E) ∧ (hasB kvs ps = true → ∃ wo : Str → Option (List V),
    (∀ p ∈ ps, ∃ v, valV kvs (Sum.inr p) = some v ∧ LstOf H v (wo p)) ∧ ((∀ p ∈ ps, okW ps p (wo p) = true) → ∀ H', Same H H' → Q .non H') ∧
    ∀ (ys pre post : List Str) (p : Str), ys.Perm ps → PyProof.Rows.sortedS ys = true → ys = pre ++ p :: post → (∀ q ∈ pre, okW ps q (wo q) = true) → okW ps p (wo p) = false → Leaves C "person" (.str p) H E)
theorem ok_cw {f C fI : Addr} {fd : FuncData} (F : Fun K "_check_wishes" "_check_wishes" scheckwishes f fd) (B : Bl mg) (T : PySem.QX.OwnTxt P K mg "BadWishes" "person" C fI)
    (cH : CF P w K mg base CX0 1 "has_keys" ["value", "names"] (spHas K)) (cL : CF P w K mg base CX0 2 "is_lot" ["value", "names"] (spLot K)) : FnOk P w K mg base (L2.CX P w) 3 f fd ["people", "wishes"] (spCW C) := by
  refine F.okX sccheckwishes (fun vs H Q E h => ?_) (fun cdv A outer s H vs Q E hr h => ?_)
  · obtain ⟨a, x, k, ps, rfl, _⟩ := h
    rfl
  · obtain ⟨a, x, k, ps, rfl, ha, hlen, ik, kn, kq⟩ := h
    have hu := hu_of hr
    have esz : sizeLine = 16777216 := sizeLine_eq
    refine ⟨_, pss_cons (ps_if (pt_not (pt_val (pe_cf cH (hr.mono (by decide)) pass0 (pa_cons (pv 1) (pa_cons (pv 0) pa_nil))))) (pss_one (ps_raiseS rfl T hr (takes_of rfl rfl rfl rfl) (pa_cons pe_str pa_nil) rfl)) pss_nil)
      (pss_one (ps_for (passes_of rfl) rfl (pi_list (pe_callB cr_sortedST (by rfl) B.srt (by decide +kernel) (pa_cons (pv 0) pa_nil))) (pg_name (i := 2) sccheckwishes.nd rfl (Or.inr rfl))
        (pss_one (ps_if (pt_not (pt_val (pe_cf cL hr pass0 (pa_cons (pe_dget hu (pv 1) (pv 2) (fun _ _ => rfl)) (pa_cons
          (pe_lc (own := [("other", 3)]) (g := gName 3) rfl sccheckwishes.nd (pi_seq 0) (blkOk_by (own := [("other", 3)]) (N := ["people", "wishes", "person", "other"]) (sc := defScope scheckwishes) (by decide +kernel))
            (fun _ _ _ _ _ => pg_name (i := 3) sccheckwishes.nd rfl (Or.inl rfl)) (fun _ _ _ _ _ => pts_one (pt_cmpR op_ne (pv 3) (pv 2) (nomark _))) (fun _ _ _ _ _ => pv 3)) pa_nil)))))
          (pss_one (ps_raiseS rfl T hr (takes_of rfl rfl rfl rfl) (pa_cons (pv 2) pa_nil) rfl)) pss_nil)))), ?_⟩
    refine ⟨_, rfl, _, rfl, x, k, a, ps, rfl, ik, .inr (SqT.of ha), by omega, fun hk H1 s1 => ?_, fun d kvs ex hd H1 s1 => ?_⟩
    · exact ⟨false, rfl, iteT ⟨_, rfl, fun d hd => (kn hk).go s1 d hd⟩⟩
    · subst ex
      obtain ⟨k1, k2⟩ := kq d kvs rfl hd
      refine ⟨_, rfl, ?_⟩
      cases eb : hasB kvs ps with
      | false => exact iteT ⟨_, rfl, fun d hd => (k1 eb).go s1 d hd⟩
      | true =>
        obtain ⟨wo, hw, kok, kbad⟩ := k2 eb
        refine iteF ⟨_, rfl, a, ps, rfl, SqT.of (s1 _ _ ha), by omega, fun ys l hp hs hl => ⟨l, rfl, ⟨_, SqL.of upd_same⟩, ?_⟩⟩
        have s2 : Same H (upd H1 l (.lst (ys.map V.str))) := s1.trans (Same.new hl)
        refine for_it (walk_list (xs := ys.map V.str)) (fun i σ H' => ∃ (v2 : Option V), σ = [some (.ref a), some (.ref d), v2, none] ∧ Same (upd H1 l (.lst (ys.map V.str))) H' ∧ ∀ q ∈ ys.take i, okW ps q (wo q) = true)
          ⟨none, rfl, Same.refl _, fun q hq => by simp at hq⟩ (fun i σ H' _ ⟨_, _, s3, _⟩ => SqL.of (s3 _ _ upd_same)) ?_ ?_
        · rintro i y σ Hx H2 hi ⟨v2, rfl, s3, hok⟩ ⟨rfl, hy⟩
          rw [List.length_map] at hi
          rw [List.getElem?_map] at hy
          cases ep : ys[i]? with
          | none => rw [ep] at hy; cases hy
          | some p =>
            rw [ep] at hy
            cases hy
            have hpm : p ∈ ps := hp.mem_iff.mp (List.mem_of_getElem? ep)
            obtain ⟨v, hv, hlv⟩ := hw p hpm
            have s4 : Same H H2 := s2.trans s3
            refine ⟨_, rfl, _, rfl, d, v, rfl, by rw [← hv]; exact DGet.k (k := Sum.inr p) (s4 _ _ hd), a, ps.map V.str, rfl, .inr (SqT.of (s4 _ _ ha)), fun J G wk hG D hD => lc_it wk (fun j H' => Same H2 H' ∧ H' D = some (.lst (((ps.take j).filter fun z => !decide (z = p)).map V.str))) ⟨Same.new hD, upd_same⟩ (fun j H' _ z => hG H' z.1) ?_ ?_⟩
            · rintro j y H3 H' hj ⟨s5, hD5⟩ ⟨rfl, hy⟩
              rw [List.length_map] at hj
              rw [List.getElem?_map] at hy
              cases eo : ps[j]? with
              | none => rw [eo] at hy; cases hy
              | some z =>
                rw [eo] at hy
                cases hy
                refine ⟨rfl, _, rfl, _, rfl, rfl, _, rfl, ?_⟩
                have tk : (ps.take (j + 1)).filter (fun z => !decide (z = p)) = (ps.take j).filter (fun z => !decide (z = p)) ++ [z].filter (fun z => !decide (z = p)) := by
                  rw [List.take_add_one, eo, List.filter_append]
                  rfl
                have hlt : (((ps.take j).filter fun z => !decide (z = p)).map V.str).length < sizeLine := by
                  have q1 := List.length_filter_le (fun z => !decide (z = p)) (ps.take j)
                  rw [List.length_take] at q1
                  rw [List.length_map]
                  omega
                by_cases ez : z = p
                · have e1 : decide (V.str z = V.str p) = true := decide_eq_true (by rw [ez])
                  rw [e1]
                  refine iteF ⟨s5, ?_⟩
                  rw [hD5, tk, List.filter_cons_of_neg (by rw [decide_eq_true ez]; decide), List.filter_nil, List.append_nil]
                · have e1 : decide (V.str z = V.str p) = false := decide_eq_false fun q => ez (V.str.inj q)
                  rw [e1]
                  refine iteT ⟨_, rfl, _, hD5, hlt, fun b' o' e' => ?_, ?_⟩
                  · rw [upd_ne (ne_of_none e' hD)]
                    exact s5 _ _ e'
                  · rw [upd_same, tk, List.filter_cons_of_pos (by rw [decide_eq_false ez]; decide), List.filter_nil, List.map_append]
                    rfl
            · rintro H3 ⟨s5, hD5⟩
              rw [List.length_map, List.take_of_length_le (Nat.le_refl _)] at hD5
              have s6 : Same H H3 := s4.trans s5
              obtain ⟨kv, ikv, hq⟩ := hlv.same s6
              have go_ok : okW ps p (wo p) = true → ∀ H4, Same H3 H4 → ∃ v2 : Option V, ([some (.ref a), some (.ref d), v2, none].set 2 (some (V.str p)) : List (Option V)) = [some (.ref a), some (.ref d), some (V.str p), none] := fun _ _ _ => ⟨none, rfl⟩
              have step : okW ps p (wo p) = true → ∀ q ∈ ys.take (i + 1), okW ps q (wo q) = true := fun e q hq => by
                rw [List.take_add_one, ep] at hq
                rcases List.mem_append.mp hq with h | h
                · exact hok q h
                · have : q = p := by simpa using h
                  rw [this]
                  exact e
              have bad : okW ps p (wo p) = false → Leaves C "person" (.str p) H E := fun e => by
                have hd1 : ys.drop i = p :: ys.drop (i + 1) := by
                  have h1 := (List.getElem?_eq_some_iff.mp ep)
                  rw [List.drop_eq_getElem_cons h1.1, h1.2]
                have es : ys = ys.take i ++ p :: ys.drop (i + 1) := by rw [← hd1, List.take_append_drop]
                exact kbad ys (ys.take i) (ys.drop (i + 1)) p hp hs es hok e
              refine ⟨v, kv, D, ps.filter (fun z => !decide (z = p)), rfl, ikv, .inl (SqL.of hD5), fun hk H4 s7 => ?_, fun av xs ev hav => ⟨fun y hy => ?_, fun H4 s7 => ?_⟩⟩
              · have e1 : okW ps p (wo p) = false := by
                  cases e : wo p with
                  | none => rfl
                  | some xs =>
                    rw [e] at hq
                    obtain ⟨a', e', h', _⟩ := hq
                    subst e'
                    cases ikv with
                    | lst h => exact absurd rfl hk
                    | tup h => rw [h'] at h; cases h
                    | dct h => rw [h'] at h; cases h
                exact ⟨_, rfl, iteT ⟨_, rfl, _, rfl, fun d' hd' => (bad e1).go (s6.trans s7) d' hd'⟩⟩
              · cases e : wo p with
                | none =>
                  rw [e] at hq
                  subst ev
                  cases ikv with
                  | lst h => exact absurd rfl hq
                  | tup h => rw [hav] at h; cases h
                  | dct h => rw [hav] at h; cases h
                | some xs' =>
                  rw [e] at hq
                  obtain ⟨a', e', h', hy'⟩ := hq
                  rw [ev] at e'
                  cases e'
                  rw [hav] at h'
                  cases h'
                  exact hy' y hy
              · have e1 : okW ps p (wo p) = decide (vOpt (badFrom (fun x => inS x (ps.filter fun z => !decide (z = p))) [] xs) = .non) := by
                  cases e : wo p with
                  | none =>
                    rw [e] at hq
                    subst ev
                    cases ikv with
                    | lst h => exact absurd rfl hq
                    | tup h => rw [hav] at h; cases h
                    | dct h => rw [hav] at h; cases h
                  | some xs' =>
                    rw [e] at hq
                    obtain ⟨a', e', h', hy'⟩ := hq
                    rw [ev] at e'
                    cases e'
                    rw [hav] at h'
                    cases h'
                    rfl
                refine ⟨_, rfl, ?_⟩
                rw [← e1]
                cases eo : okW ps p (wo p) with
                | false => exact iteT ⟨_, rfl, _, rfl, fun d' hd' => (bad eo).go (s6.trans s7) d' hd'⟩
                | true => exact iteF ⟨some (V.str p), rfl, s3.trans (s5.trans s7), step eo⟩
        · rintro σ H2 ⟨v2, rfl, s3, hok⟩
          rw [List.length_map, List.take_of_length_le (Nat.le_refl _)] at hok
          exact kok (fun q hq => hok q (hp.mem_iff.mpr hq)) _ (s2.trans s3)
end
end Qp
namespace Qp
open PySem L2
section
variable {P : Program} {w : World} {K : PySem.W.Frag} {mg : Str → Option Value} {base : Heap}
/-- _open_rows(wishes) -/
def spOR : Sp := fun vs H Q _ => ∃ (d : Addr) (ps : List Str) (ws : Str → List Str), vs = [.ref d] ∧ RowsG H d ps (fun a => lstO (ws a)) ∧ ps.Nodup ∧ ps.length ≤ 1000 ∧ (∀ a ∈ ps, (ws a).length ≤ 1000 ∧ ∀ b ∈ ws a, b ∈ ps) ∧
  ∀ D H', Same H H' → RowsG H' D ps (fun a => lstO (opn ws a)) → Q (.ref D) H'
theorem ok_or {f : Addr} {fd : FuncData} (F : Fun K "_open_rows" "_open_rows" sopenrows f fd) : FnOk P w K mg base CX0 1 f fd ["wishes"] spOR := by
  refine F.ok scopenrows (fun vs H Q E h => ?_) (fun cdv A outer s H vs Q E hr h => ?_)
  · obtain ⟨d, ps, ws, rfl, _⟩ := h
    rfl
  · obtain ⟨d, ps, ws, rfl, hR, hnd, hlen, hcl, kq⟩ := h
    have hu := hu_of hr
    have esz : sizeLine = 16777216 := sizeLine_eq
    refine ⟨_, pss_one (ps_ret (pe_lock (pe_dc (own := [("a", 1)]) (g := gName 1) (tt := tYes) rfl scopenrows.nd (pi_keys (pv 0)) (blkOk_by (own := [("a", 1)]) (N := ["wishes", "a", "b"]) (sc := defScope sopenrows) (by decide +kernel))
      (fun _ _ _ _ _ => pg_name (i := 1) scopenrows.nd rfl (Or.inr rfl)) (fun _ _ _ _ _ => pts_nil) (fun _ _ _ _ _ => pv 1)
      (fun _ _ _ _ _ => pe_lc (own := [("b", 2)]) (g := gName 2) rfl scopenrows.nd (pi_listK (K := K) rfl (pe_dget hu (pv 0) (pv 1) (fun _ _ => rfl))) (blkOk_by (own := [("b", 2)]) (N := ["wishes", "a", "b"]) (sc := cScope (retE (defBody sopenrows) 0)) (by decide +kernel)).rel
        (fun _ _ _ _ _ => pg_name (i := 2) scopenrows.nd rfl (Or.inl rfl)) (fun _ _ _ _ _ => pts_one (pt_cmpR (op_inSK (K := K) rfl hr.units) (pv 1) (pe_dget hu (pv 0) (pv 2) (fun _ _ => rfl)) (by rfl))) (fun _ _ _ _ _ => pv 2))))), ?_⟩
    obtain ⟨ad, hd, hrows⟩ := hR
    refine ⟨d, _, hd, True.intro, fun od => ?_⟩
    have sl : ∀ b o, b ≠ d → H b = some o → (upd H d (.frz od (.dK (ps.map fun a => (Sum.inr a, V.ref (ad a)))))) b = some o := fun b o n e => by rw [upd_ne n]; exact e
    generalize hL : upd H d (.frz od (.dK (ps.map fun a => (Sum.inr a, V.ref (ad a))))) = HL at sl
    have hf : HL d = some (.frz od (.dK (ps.map fun a => (Sum.inr a, V.ref (ad a))))) := by rw [← hL]; exact upd_same
    have back : ∀ H', Same HL H' → Same H (upd H' d (.dK (ps.map fun a => (Sum.inr a, V.ref (ad a))))) := fun H' s b o e => by
      by_cases hb : b = d
      · rw [hb, upd_same]
        rw [hb, hd] at e
        exact e
      · rw [upd_ne hb]
        exact s _ _ (sl b o hb e)
    have look : ∀ H', Same HL H' → ∀ a ∈ ps, DGet H' d (.str a) (some (.ref (ad a))) ∧ H' (ad a) = some (lstO (ws a)) := fun H' s a ha =>
      ⟨.inl ⟨_, Sum.inr a, .inr ⟨od, s _ _ hf⟩, rfl, (valV_rows ha).symm⟩, s _ _ (sl _ _ (hrows a ha).2 (hrows a ha).1)⟩
    refine ⟨_, rfl, d, od, rfl, .inl ⟨_, hf, fun D hD => dc_it walk_keys (fun i H' => Same HL H' ∧ RowsG H' D (ps.take i) (fun a => lstO (opn ws a))) ⟨Same.new hD, RowsG.nil upd_same⟩ (fun i H' _ z => z.1 _ _ hf) ?_ ?_⟩⟩
    · rintro i x Hx H1 hi ⟨s1, hR1⟩ ⟨rfl, k, v, hk, rfl⟩
      rw [List.length_map] at hi
      rw [List.getElem?_map] at hk
      cases ea : ps[i]? with
      | none => rw [ea] at hk; cases hk
      | some a =>
        rw [ea] at hk
        cases hk
        have ha : a ∈ ps := List.mem_of_getElem? ea
        obtain ⟨g1, g2⟩ := look H1 s1 a ha
        obtain ⟨hl1, hl2⟩ := hcl a ha
        have gL : SqL K H1 (ad a) ((ws a).map V.str) := SqL.of g2
        refine ⟨rfl, dcTurn ⟨_, rfl, _, rfl, _, rfl, d, _, rfl, g1, _, rfl, ⟨_, gL⟩, fun L hL2 => lc_it (walk_list (xs := (ws a).map V.str)) (fun j H' => Same H1 H' ∧ H' L = some (.lst ((((ws a).take j).filter fun b => decide (a ∈ ws b)).map V.str))) ⟨Same.new hL2, upd_same⟩ (fun j H' _ z => z.1.seq gL) ?_ ?_⟩⟩
        · rintro j y Hy H2 hj ⟨s2, hL3⟩ ⟨rfl, hy⟩
          rw [List.length_map] at hj
          rw [List.getElem?_map] at hy
          cases eb : (ws a)[j]? with
          | none => rw [eb] at hy; cases hy
          | some b =>
            rw [eb] at hy
            cases hy
            have hb : b ∈ ps := hl2 b (List.mem_of_getElem? eb)
            obtain ⟨g3, g4⟩ := look H2 (s1.trans s2) b hb
            have g4' : SqL K H2 (ad b) ((ws b).map V.str) := SqL.of g4
            refine ⟨rfl, _, rfl, _, rfl, _, rfl, d, _, rfl, g3, ad b, ws b, rfl, .inl g4', .flat rfl, _, rfl, ?_⟩
            have einS : inS (kV (Sum.inr a)) (ws b) = decide (a ∈ ws b) := inS_str
            rw [einS]
            have tk : ((ws a).take (j + 1)).filter (fun b => decide (a ∈ ws b)) = ((ws a).take j).filter (fun b => decide (a ∈ ws b)) ++ [b].filter (fun b => decide (a ∈ ws b)) := by
              rw [take_snoc eb, List.filter_append]
            have hlt : ((((ws a).take j).filter fun b => decide (a ∈ ws b)).map V.str).length < sizeLine := by
              have q1 := List.length_filter_le (fun b => decide (a ∈ ws b)) ((ws a).take j)
              rw [List.length_take] at q1
              rw [List.length_map]
              omega
            by_cases em : a ∈ ws b
            · rw [decide_eq_true em]
              refine iteT ⟨_, rfl, _, hL3, hlt, fun b' o' e' => ?_, ?_⟩
              · rw [upd_ne (ne_of_none e' hL2)]
                exact s2 _ _ e'
              · rw [upd_same, tk, List.filter_cons_of_pos (by exact decide_eq_true em), List.filter_nil, List.map_append]
                rfl
            · rw [decide_eq_false em]
              refine iteF ⟨s2, ?_⟩
              rw [hL3, tk, List.filter_cons_of_neg (by rw [decide_eq_false em]; decide), List.filter_nil, List.append_nil]
        · rintro H2 ⟨s2, hL3⟩
          rw [List.length_map, List.take_of_length_le (Nat.le_refl _)] at hL3
          have hDL : L ≠ D := by
            obtain ⟨ad2, e2, _⟩ := hR1
            intro z
            rw [z, e2] at hL2
            cases hL2
          obtain ⟨kvs, h1, h2, h3⟩ := hR1.snoc s2 (not_mem_take hnd ea) (p := L) hL3 hDL
          refine ⟨kvs, Sum.inr a, rfl, h1, ?_, ?_, ?_⟩
          · rw [h2, List.length_take]
            omega
          · intro b o e
            have hbD : b ≠ D := ne_of_none e hD
            rw [upd_ne hbD]
            exact s2 _ _ (s1 _ _ e)
          · rw [take_snoc ea]
            exact h3
    · rintro H1 ⟨s1, hR1⟩
      rw [List.length_map, List.take_of_length_le (Nat.le_refl _)] at hR1
      refine ⟨s1 _ _ hf, kq D _ (back H1 s1) ?_⟩
      obtain ⟨ad2, e2, q2⟩ := hR1
      have hDd : D ≠ d := fun z => by
        rw [z, hf] at hD
        cases hD
      refine ⟨ad2, by rw [upd_ne hDd]; exact e2, fun a ha => ⟨?_, (q2 a ha).2⟩⟩
      have hne : ad2 a ≠ d := fun z => by
        have q := (q2 a ha).1
        rw [z, s1 _ _ hf] at q
        cases q
      rw [upd_ne hne]
      exact (q2 a ha).1
end
end Qp
namespace Qp
open PySem L2
section
variable {P : Program} {w : World} {K : PySem.W.Frag} {mg : Str → Option Value} {base : Heap}
/-- _rank_rows(rows) -/
def spRR : Sp := fun vs H Q _ => ∃ (d : Addr) (ps : List Str) (ws : Str → List Str), vs = [.ref d] ∧ RowsG H d ps (fun a => lstO (ws a)) ∧ ps.Nodup ∧ ps.length ≤ 1000 ∧ (∀ a ∈ ps, (ws a).length ≤ 1000 ∧ (ws a).Nodup) ∧
  ∀ D H', Same H H' → RowsG H' D ps (fun a => rnkO (ws a)) → Q (.ref D) H'
theorem ok_rr {f : Addr} {fd : FuncData} (F : Fun K "_rank_rows" "_rank_rows" srankrows f fd) (B : Bl mg) : FnOk P w K mg base CX0 1 f fd ["rows"] spRR := by
  refine F.ok scrankrows (fun vs H Q E h => ?_) (fun cdv A outer s H vs Q E hr h => ?_)
  · obtain ⟨d, ps, ws, rfl, _⟩ := h
    rfl
  · obtain ⟨d, ps, ws, rfl, hR, hnd, hlen, hcl, kq⟩ := h
    have hu := hu_of hr
    have esz : sizeLine = 16777216 := sizeLine_eq
    refine ⟨_, pss_one (ps_ret (pe_lock (pe_dc (own := [("a", 1)]) (g := gName 1) (tt := tYes) rfl scrankrows.nd (pi_keys (pv 0)) (blkOk_by (own := [("a", 1)]) (N := ["rows", "a", "index", "b"]) (sc := defScope srankrows) (by decide +kernel))
      (fun _ _ _ _ _ => pg_name (i := 1) scrankrows.nd rfl (Or.inl rfl)) (fun _ _ _ _ _ => pts_nil) (fun _ _ _ _ _ => pv 1)
      (fun _ _ _ _ _ => pe_dc (own := [("index", 2), ("b", 3)]) (g := gTup K 2 (gCons (gName 2) (gCons (gName 3) gNil))) (tt := tYes) rfl scrankrows.nd (pi_enumK (K := K) rfl (by rfl) B.enum (pa_cons (pe_dget hu (pv 0) (pv 1) (fun _ _ => rfl)) pa_nil))
        (blkOk_by (own := [("index", 2), ("b", 3)]) (N := ["rows", "a", "index", "b"]) (sc := cScope (retE (defBody srankrows) 0)) (by decide +kernel)).rel
        (fun _ _ _ _ _ => pg_tupK (K := K) rfl rfl (pgs_cons (pg_name (i := 2) scrankrows.nd rfl (Or.inl rfl)) (pgs_cons (pg_name (i := 3) scrankrows.nd rfl (Or.inl rfl)) pgs_nil))) (fun _ _ _ _ _ => pts_nil) (fun _ _ _ _ _ => pv 3) (fun _ _ _ _ _ => pv 2))))), ?_⟩
    obtain ⟨ad, hd, hrows⟩ := hR
    refine ⟨d, _, hd, True.intro, fun od => ?_⟩
    have sl : ∀ b o, b ≠ d → H b = some o → (upd H d (.frz od (.dK (ps.map fun a => (Sum.inr a, V.ref (ad a)))))) b = some o := fun b o n e => by rw [upd_ne n]; exact e
    generalize hL : upd H d (.frz od (.dK (ps.map fun a => (Sum.inr a, V.ref (ad a))))) = HL at sl
    have hf : HL d = some (.frz od (.dK (ps.map fun a => (Sum.inr a, V.ref (ad a))))) := by rw [← hL]; exact upd_same
    have back : ∀ H', Same HL H' → Same H (upd H' d (.dK (ps.map fun a => (Sum.inr a, V.ref (ad a))))) := fun H' s b o e => by
      by_cases hb : b = d
      · rw [hb, upd_same]
        rw [hb, hd] at e
        exact e
      · rw [upd_ne hb]
        exact s _ _ (sl b o hb e)
    have look : ∀ H', Same HL H' → ∀ a ∈ ps, DGet H' d (.str a) (some (.ref (ad a))) ∧ H' (ad a) = some (lstO (ws a)) := fun H' s a ha =>
      ⟨.inl ⟨_, Sum.inr a, .inr ⟨od, s _ _ hf⟩, rfl, (valV_rows ha).symm⟩, s _ _ (sl _ _ (hrows a ha).2 (hrows a ha).1)⟩
    refine ⟨_, rfl, d, od, rfl, .inl ⟨_, hf, fun D hD => dc_it walk_keys (fun i H' => Same HL H' ∧ RowsG H' D (ps.take i) (fun a => rnkO (ws a))) ⟨Same.new hD, RowsG.nil upd_same⟩ (fun i H' _ z => z.1 _ _ hf) ?_ ?_⟩⟩
    · rintro i x Hx H1 hi ⟨s1, hR1⟩ ⟨rfl, k, v, hk, rfl⟩
      rw [List.length_map] at hi
      rw [List.getElem?_map] at hk
      cases ea : ps[i]? with
      | none => rw [ea] at hk; cases hk
      | some a =>
        rw [ea] at hk
        cases hk
        have ha : a ∈ ps := List.mem_of_getElem? ea
        obtain ⟨g1, g2⟩ := look H1 s1 a ha
        obtain ⟨hl1, hl2⟩ := hcl a ha
        have gL : SqL K H1 (ad a) ((ws a).map V.str) := SqL.of g2
        refine ⟨rfl, dcTurn ⟨_, rfl, _, rfl, _, rfl, d, _, rfl, g1, ad a, (ws a).map V.str, rfl, .inl gL, fun J G wk hG L hL2 => dc_it wk (fun j H' => Same H1 H' ∧ H' L = some (rnkO ((ws a).take j))) ⟨Same.new hL2, upd_same⟩ (fun j H' _ z => hG H' z.1) ?_ ?_⟩⟩
        · rintro j y H2 Hy hj ⟨s2, hL3⟩ ⟨T, x, y, rfl, hT, rfl, ex, ey⟩
          cases ex
          rw [List.length_map] at hj
          have ey : ((ws a).map V.str)[j]? = some y := ey
          rw [List.getElem?_map] at ey
          cases eb : (ws a)[j]? with
          | none => rw [eb] at ey; cases ey
          | some b =>
            rw [eb] at ey
            cases ey
            have hTL : L ≠ T := ne_of_none hL3 hT
            refine ⟨T, [.int (j : Nat), .str b], rfl, SqT.of upd_same, rfl, _, _, rfl, _, _, rfl, rfl, rfl, dcTurn ⟨_, rfl, _, rfl, _, Sum.inr b, rfl, by rw [upd_ne hTL]; exact hL3, ?_, fun b' o' e' => ?_, ?_⟩⟩
            · rw [List.length_map, List.length_zipIdx, List.length_take]
              omega
            · rw [upd_ne (ne_of_none e' hL2), upd_ne (ne_of_none (s2 _ _ e') hT)]
              exact s2 _ _ e'
            · have hlt : ((ws a).take j).length = j := by
                rw [List.length_take]
                omega
              rw [upd_same, putK_new _ (valV_rnk_none (not_mem_take hl2 eb)), take_snoc eb]
              unfold rnkO
              rw [zip_snoc, hlt]
        · rintro H2 ⟨s2, hL3⟩
          rw [List.length_map, List.take_of_length_le (Nat.le_refl _)] at hL3
          have hDL : L ≠ D := by
            obtain ⟨ad2, e2, _⟩ := hR1
            intro z
            rw [z, e2] at hL2
            cases hL2
          obtain ⟨kvs, h1, h2, h3⟩ := hR1.snoc s2 (not_mem_take hnd ea) (p := L) hL3 hDL
          refine ⟨kvs, Sum.inr a, rfl, h1, ?_, ?_, ?_⟩
          · rw [h2, List.length_take]
            omega
          · intro b o e
            have hbD : b ≠ D := ne_of_none e hD
            rw [upd_ne hbD]
            exact s2 _ _ (s1 _ _ e)
          · rw [take_snoc ea]
            exact h3
    · rintro H1 ⟨s1, hR1⟩
      rw [List.length_map, List.take_of_length_le (Nat.le_refl _)] at hR1
      refine ⟨s1 _ _ hf, kq D _ (back H1 s1) ?_⟩
      obtain ⟨ad2, e2, q2⟩ := hR1
      have hDd : D ≠ d := fun z => by
        rw [z, hf] at hD
        cases hD
      refine ⟨ad2, by rw [upd_ne hDd]; exact e2, fun a ha => ⟨?_, (q2 a ha).2⟩⟩
      have hne : ad2 a ≠ d := fun z => by
        have q := (q2 a ha).1
        rw [z, s1 _ _ hf] at q
        cases q
      rw [upd_ne hne]
      exact (q2 a ha).1
end
end Qp
namespace Qp
open PySem L2
/-- a group's attributes -/
def gF (a d1 d2 d3 : Addr) : List (Str × V) := putF "_ranks" (.ref d3) (putF "_opens" (.ref d2) (putF "_wishes" (.ref d1) (putF "_people" (.ref a) [])))
theorem n12 : ¬ ("_wishes" : Str) = "_people" := by decide +kernel
theorem n13 : ¬ ("_opens" : Str) = "_people" := by decide +kernel
theorem n14 : ¬ ("_ranks" : Str) = "_people" := by decide +kernel
theorem n23 : ¬ ("_opens" : Str) = "_wishes" := by decide +kernel
theorem n24 : ¬ ("_ranks" : Str) = "_wishes" := by decide +kernel
theorem n34 : ¬ ("_ranks" : Str) = "_opens" := by decide +kernel
theorem gF_people (a d1 d2 d3 : Addr) : (gF a d1 d2 d3).lookup ("_people" : Str) = some (.ref a) := by
  unfold gF
  rw [lookup_putF, if_neg (fun z => n14 z.symm), lookup_putF, if_neg (fun z => n13 z.symm), lookup_putF, if_neg (fun z => n12 z.symm), lookup_putF, if_pos rfl]
theorem gF_wishes (a d1 d2 d3 : Addr) : (gF a d1 d2 d3).lookup ("_wishes" : Str) = some (.ref d1) := by
  unfold gF
  rw [lookup_putF, if_neg (fun z => n24 z.symm), lookup_putF, if_neg (fun z => n23 z.symm), lookup_putF, if_pos rfl]
theorem gF_opens (a d1 d2 d3 : Addr) : (gF a d1 d2 d3).lookup ("_opens" : Str) = some (.ref d2) := by
  unfold gF
  rw [lookup_putF, if_neg (fun z => n34 z.symm), lookup_putF, if_pos rfl]
theorem gF_ranks (a d1 d2 d3 : Addr) : (gF a d1 d2 d3).lookup ("_ranks" : Str) = some (.ref d3) := by
  unfold gF
  rw [lookup_putF, if_pos rfl]
theorem gF_no (a d1 d2 d3 : Addr) {m : Str} (h1 : ¬ m = "_people") (h2 : ¬ m = "_wishes") (h3 : ¬ m = "_opens") (h4 : ¬ m = "_ranks") : (gF a d1 d2 d3).lookup m = none := by
  unfold gF
  rw [lookup_putF, if_neg h4, lookup_putF, if_neg h3, lookup_putF, if_neg h2, lookup_putF, if_neg h1]
  rfl
/-- a Group of the people ps with the wishes ws stands at p -/
def GroupAt (C : Addr) (H : Hp) (p : Addr) (ps : List Str) (ws : Str → List Str) : Prop := ∃ dx a d1 d2 d3, H p = some (.ins C dx (gF a d1 d2 d3)) ∧ H a = some (.tup (ps.map V.str)) ∧
  RowsG H d1 ps (fun x => lstO (ws x)) ∧ RowsG H d2 ps (fun x => lstO (opn ws x)) ∧ RowsG H d3 ps (fun x => rnkO (opn ws x))
/-- what the walk asks of the class -/
structure GTxt (K : PySem.W.Frag) (mg : Str → Option Value) (C : Addr) : Prop where
  cl : Cls K C
  n1 : NoAttr K C "_people"
  n2 : NoAttr K C "_wishes"
  n3 : NoAttr K C "_opens"
  n4 : NoAttr K C "_ranks"
  mgC : mg "Group" = some (.ref C)
theorem Leaves.on {C : Addr} {f : Str} {v : V} {H H1 : Hp} {E : XK} (h : Leaves C f v H E) (s : Same H H1) : Leaves C f v H1 E := fun d H' s' e => h d H' (s.trans s') e
def unS : Option (List V) → List Str
  | none => []
  | some xs => xs.filterMap fun x => match x with
    | .str z => some z
    | _ => none
theorem unS_map : ∀ zs : List Str, unS (some (zs.map V.str)) = zs
  | [] => rfl
  | z :: zs => by
    have ih := unS_map zs
    show z :: unS (some (zs.map V.str)) = z :: zs
    rw [ih]
theorem _root_.L2.RowsG.but {H H' : Hp} {p C dx : Addr} {fs : List (Str × V)} {d : Addr} {ps : List Str} {cnt : Str → HO} (R : RowsG H d ps cnt) (s : SameBut p H H') (hp : H p = some (.ins C dx fs)) (hc : ∀ a, cnt a ≠ .ins C dx fs) : RowsG H' d ps cnt := by
  obtain ⟨ad, e, q⟩ := R
  refine ⟨ad, s _ _ (ne_of e hp (by intro z; cases z)) e, fun a ha => ⟨s _ _ (ne_of (q a ha).1 hp (hc a)) (q a ha).1, (q a ha).2⟩⟩
theorem lst_ins (ss : List Str) (C dx : Addr) (fs : List (Str × V)) : lstO ss ≠ .ins C dx fs := by intro z; cases z
theorem rnk_ins (ss : List Str) (C dx : Addr) (fs : List (Str × V)) : rnkO ss ≠ .ins C dx fs := by intro z; cases z
section
variable {P : Program} {w : World} {K : PySem.W.Frag} {mg : Str → Option Value} {base : Heap}
/-- Group.__init__(self, people, wishes) -/
def spGI (C B W : Addr) : Sp := fun vs H Q E => ∃ (p dx : Addr) (x y : V) (o : Option (List V)) (k : Kd), vs = [.ref p, x, y] ∧ H p = some (.ins C dx []) ∧ TupOf H x o ∧ IsK H y k ∧
  (∀ i, dueP o = some i → Leaves B "index" (.int i) H E) ∧
  ∀ (a : Addr) (ps : List Str), dueP o = none → o = some (ps.map V.str) → x = .ref a → ps.Nodup → (∀ z ∈ ps, nameS z = true) → ps.length ≤ 16 →
    (k ≠ .dct → Leaves W "person" (.str "") H E) ∧
    ∀ d kvs, y = .ref d → H d = some (.dK kvs) → (hasB kvs ps = false → Leaves W "person" (.str "") H E) ∧ (hasB kvs ps = true → ∃ wo : Str → Option (List V),
      (∀ p ∈ ps, ∃ v, valV kvs (Sum.inr p) = some v ∧ LstOf H v (wo p)) ∧
      ((∀ p ∈ ps, okW ps p (wo p) = true) → ∀ (ws : Str → List Str) (H' : Hp), (∀ p ∈ ps, wo p = some ((ws p).map V.str)) → (∀ p ∈ ps, (ws p).Nodup ∧ (∀ q ∈ ws p, q ∈ ps ∧ q ≠ p) ∧ (ws p).length ≤ 1000) → SameBut p H H' → GroupAt C H' p ps ws → Q .non H') ∧
      ∀ (ys pre post : List Str) (p : Str), ys.Perm ps → PyProof.Rows.sortedS ys = true → ys = pre ++ p :: post → (∀ q ∈ pre, okW ps q (wo q) = true) → okW ps p (wo p) = false → Leaves W "person" (.str p) H E)
theorem due_none {xs : List V} (h : dueP (some xs) = none) : ∃ ps : List Str, xs = ps.map V.str ∧ ps.Nodup ∧ (∀ z ∈ ps, nameS z = true) ∧ ps.length ≤ 16 := by
  unfold dueP at h
  by_cases c : xs.length ≤ 16
  · simp only [if_pos c] at h
    cases e : badFrom nameV [] xs with
    | some i => rw [e] at h; cases h
    | none =>
      obtain ⟨h1, h2⟩ := badFrom_none List.nodup_nil e
      obtain ⟨ps, rfl, hz⟩ := strs_of h1
      rw [List.length_map] at c
      refine ⟨ps, rfl, ?_, hz, c⟩
      rw [List.nil_append] at h2
      exact List.Pairwise.of_map V.str (fun a b h e => h (by rw [e])) h2
  · simp only [if_neg c] at h
    cases h
theorem okW_some {ps : List Str} {p : Str} {o : Option (List V)} (h : okW ps p o = true) : ∃ zs : List Str, o = some (zs.map V.str) ∧ zs.Nodup ∧ ∀ q ∈ zs, q ∈ ps ∧ q ≠ p := by
  cases o with
  | none => cases h
  | some xs =>
    have h1 := of_decide_eq_true h
    cases e : badFrom (fun x => inS x (ps.filter fun z => !decide (z = p))) [] xs with
    | some i => rw [e] at h1; cases h1
    | none =>
      obtain ⟨g1, g2⟩ := badFrom_none List.nodup_nil e
      rw [List.nil_append] at g2
      have : ∃ zs : List Str, xs = zs.map V.str := by
        clear h h1 e g2
        induction xs with
        | nil => exact ⟨[], rfl⟩
        | cons x r ih =>
          obtain ⟨zs, ez⟩ := ih fun y hy => g1 y (List.mem_cons_of_mem _ hy)
          obtain ⟨z, _, hz⟩ := inS_iff.mp (g1 x List.mem_cons_self)
          exact ⟨z :: zs, by rw [hz, ez]; rfl⟩
      obtain ⟨zs, rfl⟩ := this
      refine ⟨zs, rfl, List.Pairwise.of_map V.str (fun a b h e => h (by rw [e])) g2, fun q hq => ?_⟩
      obtain ⟨z, hz, e2⟩ := inS_iff.mp (g1 (.str q) (List.mem_map.mpr ⟨q, hq, rfl⟩))
      cases e2
      obtain ⟨z1, z2⟩ := List.mem_filter.mp hz
      exact ⟨z1, by simpa using z2⟩
theorem ok_gi {f C CB CW : Addr} {fd : FuncData} (F : Fun K "__init__" "Group.__init__" sGroupinit f fd) (B : Bl mg) (T : GTxt K mg C) (cP : CF P w K mg base (L2.CX P w) 2 "_check_people" ["people"] (spCP CB)) (cW : CF P w K mg base (L2.CX P w) 3 "_check_wishes" ["people", "wishes"] (spCW CW))
    (cO : CF P w K mg base CX0 1 "_open_rows" ["wishes"] spOR) (cR : CF P w K mg base CX0 1 "_rank_rows" ["rows"] spRR) : FnOk P w K mg base (L2.CX P w) 4 f fd ["self", "people", "wishes"] (spGI C CB CW) := by
  refine F.okX scGroupinit (fun vs H Q E h => ?_) (fun cdv A outer s H vs Q E hr h => ?_)
  · obtain ⟨p, dx, x, y, o, k, rfl, _⟩ := h
    rfl
  · obtain ⟨p, dx, x, y, o, k, rfl, hp, hx, hy, kP, kW⟩ := h
    have hu := hu_of hr
    have esz : sizeLine = 16777216 := sizeLine_eq
    have hr1 : Room 1 _ := hr.mono (by decide)
    have hr2 : Room 2 _ := hr.mono (by decide)
    refine ⟨_, pss_cons (ps_expr (pe_cf cP hr2 (passes_call (takes_of rfl rfl rfl rfl) (fun _ _ _ _ h => h)) (pa_cons (pv 1) pa_nil)))
      (pss_cons (ps_expr (pe_cf cW hr (passes_call (takes_of rfl rfl rfl rfl) (fun _ _ _ _ h => h)) (pa_cons (pv 1) (pa_cons (pv 2) pa_nil))))
      (pss_cons (ps_fld (pv 0) (pv 1) rfl)
      (pss_cons (ps_fld (pv 0) (pe_dc (own := [("a", 3)]) (g := gName 3) (tt := tYes) rfl scGroupinit.nd (pi_seq 1) (blkOk_by (own := [("a", 3)]) (N := ["self", "people", "wishes", "a"]) (sc := defScope sGroupinit) (by decide +kernel))
        (fun _ _ _ _ _ => pg_name (i := 3) scGroupinit.nd rfl (Or.inl rfl)) (fun _ _ _ _ _ => pts_nil) (fun _ _ _ _ _ => pv 3)
        (fun _ _ _ _ _ => pe_callTy (call_listK (K := K) rfl) (by rfl) B.lst (by decide +kernel) (pa_cons (pe_dget hu (pv 2) (pv 3) (fun _ _ => rfl)) pa_nil))) rfl)
      (pss_cons (ps_fld (pv 0) (pe_cf cO hr1 pass0 (pa_cons (pe_fld (pv 0) rfl) pa_nil)) rfl)
      (pss_one (ps_fld (pv 0) (pe_cf cR hr1 pass0 (pa_cons (pe_fld (pv 0) rfl) pa_nil)) rfl)))))), ?_⟩
    refine ⟨_, rfl, x, o, rfl, hx, fun hdue H1 s1 => ?_, fun i hi => kP i hi⟩
    cases o with
    | none => cases hdue
    | some xs =>
      obtain ⟨ps, rfl, hnd, hnm, hl16⟩ := due_none hdue
      obtain ⟨kx, ikx, a, rfl, ha, hgood, _⟩ := hx
      obtain ⟨kW1, kW2⟩ := kW a ps hdue rfl rfl hnd hnm hl16
      refine ⟨_, rfl, _, rfl, a, y, k, ps, rfl, s1 _ _ ha, by omega, hy.same s1, fun hk => (kW1 hk).on s1, fun d kvs ey hd1 => ?_⟩
      subst ey
      have hd : H d = some (.dK kvs) := by
        cases hy with
        | lst h => rw [s1 _ _ h] at hd1; cases hd1
        | tup h => rw [s1 _ _ h] at hd1; cases hd1
        | dct h =>
          rw [s1 _ _ h] at hd1
          cases hd1
          exact h
      obtain ⟨k1, k2⟩ := kW2 d kvs rfl hd
      refine ⟨fun e => (k1 e).on s1, fun e => ?_⟩
      obtain ⟨wo, hw, kok, kbad⟩ := k2 e
      refine ⟨wo, fun q hq => ?_, fun hok H2 s2' => ?_, fun ys pre post q hys hs es hpre hq => (kbad ys pre post q hys hs es hpre hq).on s1⟩
      · obtain ⟨v, hv, hl⟩ := hw q hq
        exact ⟨v, hv, hl.same s1⟩
      · have s2 : Same H H2 := s1.trans s2'
        have hws : ∀ q ∈ ps, wo q = some ((unS (wo q)).map V.str) ∧ (unS (wo q)).Nodup ∧ (∀ r ∈ unS (wo q), r ∈ ps ∧ r ≠ q) ∧ (unS (wo q)).length ≤ 1000 := fun q hq => by
          obtain ⟨zs, ez, hz1, hz2⟩ := okW_some (hok q hq)
          rw [ez, unS_map]
          refine ⟨rfl, hz1, hz2, ?_⟩
          have := nodup_sub_length hz1 fun r hr => (hz2 r hr).1
          omega
        have K2 := fun H' => kok hok (fun q => unS (wo q)) H' (fun q hq => (hws q hq).1) (fun q hq => (hws q hq).2)
        generalize hwsd : (fun q => unS (wo q)) = ws at K2
        have hws' : ∀ q ∈ ps, wo q = some ((ws q).map V.str) ∧ (ws q).Nodup ∧ (∀ r ∈ ws q, r ∈ ps ∧ r ≠ q) ∧ (ws q).length ≤ 1000 := by
          rw [← hwsd]
          exact hws
        have hp2 := s2 _ _ hp
        -- self._people = people
        refine ⟨_, rfl, _, rfl, p, C, dx, _, rfl, hp2, T.cl, T.n1, (by show 0 < 1000; decide), ?_⟩
        have b3 : SameBut p H (upd H2 p (.ins C dx (putF "_people" (.ref a) []))) := (s2.but p).trans SameBut.set
        generalize hH3 : upd H2 p (.ins C dx (putF "_people" (.ref a) [])) = H3 at b3
        have hp3 : H3 p = some (.ins C dx (putF "_people" (.ref a) [])) := by rw [← hH3]; exact upd_same
        have nap : a ≠ p := ne_of ha hp (by intro z; cases z)
        have ndp : d ≠ p := ne_of hd hp (by intro z; cases z)
        -- self._wishes = {a: list(wishes[a]) for a in people}
        refine ⟨a, ps.map V.str, rfl, .inr (SqT.of (b3 _ _ nap ha)), fun J G wk hG D hD => dc_it wk (fun i H' => Same H3 H' ∧ RowsG H' D (ps.take i) (fun x => lstO (ws x))) ⟨Same.new hD, RowsG.nil upd_same⟩ (fun i H' _ z => hG H' z.1) ?_ ?_⟩
        · rintro i z Hz H4 hi ⟨s4, R4⟩ ⟨rfl, hz⟩
          rw [List.length_map] at hi
          rw [List.getElem?_map] at hz
          cases ez : ps[i]? with
          | none => rw [ez] at hz; cases hz
          | some q =>
            rw [ez] at hz
            cases hz
            have hq : q ∈ ps := List.mem_of_getElem? ez
            obtain ⟨v, hv, kv, ikv, hl⟩ := hw q hq
            obtain ⟨e1, _⟩ := hws' q hq
            rw [e1] at hl
            obtain ⟨av, rfl, hav, _⟩ := hl
            have navp : av ≠ p := ne_of hav hp (by intro z; cases z)
            refine ⟨rfl, dcTurn ⟨_, rfl, _, rfl, _, rfl, d, _, rfl, by rw [← hv]; exact DGet.k (k := Sum.inr q) (s4 _ _ (b3 _ _ ndp hd)), av, _, rfl, .inl (SqL.of (s4 _ _ (b3 _ _ navp hav))), fun L hL => ?_⟩⟩
            have hLD : L ≠ D := by
              obtain ⟨ad2, e2, _⟩ := R4
              intro z
              rw [z, e2] at hL
              cases hL
            obtain ⟨kv2, h1, h2, h3⟩ := R4.snoc (Same.new (o := .lst ((ws q).map V.str)) hL) (not_mem_take hnd ez) (p := L) upd_same hLD
            refine ⟨kv2, Sum.inr q, rfl, h1, ?_, ?_, ?_⟩
            · rw [h2, List.length_take]
              omega
            · intro b o e
              rw [upd_ne (ne_of_none e hD), upd_ne (ne_of_none (s4 _ _ e) hL)]
              exact s4 _ _ e
            · rw [take_snoc ez]
              exact h3
        · rintro H4 ⟨s4, R4⟩
          rw [List.length_map, List.take_of_length_le (Nat.le_refl _)] at R4
          have hp4 := s4 _ _ hp3
          have l1 := length_putF "_people" (V.ref a) []
          have l2 := length_putF "_wishes" (V.ref D) (putF "_people" (V.ref a) [])
          refine ⟨_, rfl, p, C, dx, _, rfl, hp4, T.cl, T.n2, Nat.lt_of_le_of_lt l1 (by show 1 < 1000; decide), ?_⟩
          have b5 : SameBut p H4 (upd H4 p (.ins C dx (putF "_wishes" (.ref D) (putF "_people" (.ref a) [])))) := SameBut.set
          have R5 := R4.but b5 hp4 (fun _ => lst_ins _ _ _ _)
          generalize hH5 : upd H4 p (.ins C dx (putF "_wishes" (.ref D) (putF "_people" (.ref a) []))) = H5 at b5 R5
          have hp5 : H5 p = some (.ins C dx (putF "_wishes" (.ref D) (putF "_people" (.ref a) []))) := by rw [← hH5]; exact upd_same
          have t5 : SameBut p H H5 := (b3.trans (s4.but p)).trans b5
          -- self._opens = _open_rows(self._wishes)
          refine ⟨_, rfl, p, C, dx, _, _, rfl, hp5, T.cl, T.n2, by rw [lookup_putF, if_pos rfl], D, ps, ws, rfl, R5, hnd, by omega, fun q hq => ⟨(hws' q hq).2.2.2, fun r hr => ((hws' q hq).2.2.1 r hr).1⟩, fun D2 H6 s6 R6 => ?_⟩
          have hp6 := s6 _ _ hp5
          refine ⟨_, rfl, p, C, dx, _, rfl, hp6, T.cl, T.n3, Nat.lt_of_le_of_lt l2 (Nat.lt_of_le_of_lt (Nat.add_le_add_right l1 1) (by show 2 < 1000; decide)), ?_⟩
          have b7 : SameBut p H6 (upd H6 p (.ins C dx (putF "_opens" (.ref D2) (putF "_wishes" (.ref D) (putF "_people" (.ref a) []))))) := SameBut.set
          have R7 := R6.but b7 hp6 (fun _ => lst_ins _ _ _ _)
          have R7w := (R5.same s6).but b7 hp6 (fun _ => lst_ins _ _ _ _)
          have l3 := length_putF "_opens" (V.ref D2) (putF "_wishes" (V.ref D) (putF "_people" (V.ref a) []))
          generalize hH7 : upd H6 p (.ins C dx (putF "_opens" (.ref D2) (putF "_wishes" (.ref D) (putF "_people" (.ref a) [])))) = H7 at b7 R7 R7w
          have hp7 : H7 p = some (.ins C dx (putF "_opens" (.ref D2) (putF "_wishes" (.ref D) (putF "_people" (.ref a) [])))) := by rw [← hH7]; exact upd_same
          have t7 : SameBut p H H7 := (t5.trans (s6.but p)).trans b7
          -- self._ranks = _rank_rows(self._opens)
          refine ⟨_, rfl, p, C, dx, _, _, rfl, hp7, T.cl, T.n3, by rw [lookup_putF, if_pos rfl], D2, ps, opn ws, rfl, R7, hnd, by omega, fun q hq => ⟨?_, (hws' q hq).2.1.filter _⟩, fun D3 H8 s8 R8 => ?_⟩
          · exact Nat.le_trans (List.length_filter_le _ _) (hws' q hq).2.2.2
          have hp8 := s8 _ _ hp7
          refine ⟨_, rfl, p, C, dx, _, rfl, hp8, T.cl, T.n4, Nat.lt_of_le_of_lt l3 (Nat.lt_of_le_of_lt (Nat.add_le_add_right (Nat.le_trans l2 (Nat.add_le_add_right l1 1)) 1) (by show 3 < 1000; decide)), ?_⟩
          have b9 : SameBut p H8 (upd H8 p (.ins C dx (gF a D D2 D3))) := SameBut.set
          refine K2 _ ((t7.trans (s8.but p)).trans b9) ⟨dx, a, D, D2, D3, upd_same, ?_, (R7w.same s8).but b9 hp8 (fun _ => lst_ins _ _ _ _), (R7.same s8).but b9 hp8 (fun _ => lst_ins _ _ _ _), R8.but b9 hp8 (fun _ => rnk_ins _ _ _ _)⟩
          exact ((t7.trans (s8.but p)).trans b9) _ _ nap ha
end
end Qp
namespace Qp
open PySem L2
section
variable {P : Program} {w : World} {K : PySem.W.Frag} {mg : Str → Option Value} {base : Heap}
/-- Group.people(self) -/
def spPeople (C : Addr) : Sp := fun vs H Q _ => ∃ (p : Addr) (ps : List Str) (ws : Str → List Str), vs = [.ref p] ∧ GroupAt C H p ps ws ∧ ∀ l, H l = none → Q (.ref l) (upd H l (.lst (ps.map V.str)))
theorem ok_people {f C : Addr} {fd : FuncData} (F : Fun K "people" "Group.people" sGrouppeople f fd) (B : Bl mg) (T : GTxt K mg C) : FnOk P w K mg base CX0 1 f fd ["self"] (spPeople C) := by
  refine F.ok scGrouppeople (fun vs H Q E h => ?_) (fun cdv A outer s H vs Q E hr h => ?_)
  · obtain ⟨p, ps, ws, rfl, _⟩ := h
    rfl
  · obtain ⟨p, ps, ws, rfl, ⟨dx, a, d1, d2, d3, hp, ha, _⟩, kq⟩ := h
    refine ⟨_, pss_one (ps_ret (pe_callTy call_list_of (by rfl) B.lst (by decide +kernel) (pa_cons (pe_fld (pv 0) rfl) pa_nil))), ?_⟩
    exact ⟨_, rfl, p, C, dx, _, _, rfl, hp, T.cl, T.n1, gF_people _ _ _ _, a, _, rfl, .inr (SqT.of ha), kq⟩
/-- _law_is_integer -/
def spInt : Sp := fun vs H Q _ => ∃ (x : V) (k : Kd), vs = [x] ∧ IsK H x k ∧ Q (.bl (decide (k = .int))) H
theorem ok_int {f : Addr} {fd : FuncData} (F : Fun K "_law_is_integer" "_law_is_integer" sLisinteger f fd) (B : Bl mg) : FnOk P w K mg base CX0 1 f fd ["_law_actual"] spInt := by
  refine F.ok scLisinteger (fun vs H Q E h => ?_) (fun cdv A outer s H vs Q E hr h => ?_)
  · obtain ⟨x, k, rfl, _⟩ := h
    rfl
  · obtain ⟨x, k, rfl, ik, kq⟩ := h
    refine ⟨_, pss_one (ps_ret (pe_and (pe_isi kit_int B.isi B.int (pv 0)) (pe_one (pe_not (pe_isi kit_bool B.isi B.bool (pv 0)))))), ?_⟩
    refine ⟨_, rfl, x, k, rfl, ik, _, rfl, ?_⟩
    cases k with
    | int => exact iteT ⟨_, rfl, x, _, rfl, ik, _, rfl, kq⟩
    | bl => exact iteT ⟨_, rfl, x, _, rfl, ik, _, rfl, kq⟩
    | _ => exact iteF kq
/-- two lists of the same names -/
theorem dpAll_strs {H : Hp} : ∀ zs : List Str, DpAll K H (zs.map V.str) (zs.map PyData.str)
  | [] => .nil
  | z :: zs => .cons (.str z) (dpAll_strs zs)
theorem lay_strs : ∀ {zs : List Str}, (∀ z ∈ zs, nameS z = true) → PyData.canLayAll0 (zs.map PyData.str) = true
  | [], _ => by simp [PyData.canLayAll0]
  | z :: zs, h => by
    have ih := lay_strs (zs := zs) fun y hy => h y (List.mem_cons_of_mem _ hy)
    have hz := h z List.mem_cons_self
    unfold nameS at hz
    rw [Bool.and_eq_true] at hz
    have h2 := hz.2
    rw [List.all_eq_true] at h2
    rw [List.map_cons]
    unfold PyData.canLayAll0
    rw [ih, Bool.and_true]
    show PyData.strOk z = true
    unfold PyData.strOk
    rw [Array.all_eq_true']
    intro c hc
    have q := h2 c (by simpa using hc)
    unfold lowC at q
    rw [Bool.and_eq_true] at q
    have := of_decide_eq_true q.2
    exact decide_eq_true (by omega)
theorem depth_strs : ∀ zs : List Str, PyData.depthAll (zs.map PyData.str) = 0
  | [] => by simp [PyData.depthAll]
  | z :: zs => by
    rw [List.map_cons]
    simp [PyData.depthAll, PyData.depth, depth_strs zs]
theorem shaped_strs {zs : List Str} (h : ∀ z ∈ zs, nameS z = true) : SeqAt.shaped (.list (zs.map PyData.str)) = true := by
  unfold SeqAt.shaped
  rw [Bool.and_eq_true]
  refine ⟨?_, decide_eq_true ?_⟩
  · unfold PyData.canLay0
    exact lay_strs h
  · simp [PyData.depth, depth_strs]
/-- _law_row -/
def spRow : Sp := fun vs H Q _ => ∃ (a b : Addr) (ps : List Str), vs = [.ref a, .ref b] ∧ H a = some (lstO ps) ∧ H b = some (lstO ps) ∧ (∀ z ∈ ps, nameS z = true) ∧ Q (.bl true) H
theorem ok_row {f : Addr} {fd : FuncData} (F : Fun K "_law_row" "_law_row" sLrow f fd) (B : Bl mg) : FnOk P w K mg base CX0 1 f fd ["_law_actual", "_law_due_here"] spRow := by
  refine F.ok scLrow (fun vs H Q E h => ?_) (fun cdv A outer s H vs Q E hr h => ?_)
  · obtain ⟨a, b, ps, rfl, _⟩ := h
    rfl
  · obtain ⟨a, b, ps, rfl, ha, hb, hn, kq⟩ := h
    refine ⟨_, pss_one (ps_ret (pe_and (pe_isi kit_list B.isi B.lst (pv 0)) (pe_one (pe_cmpR (op_eqD hr.units) (pv 0) (pv 1) (nomark _))))), ?_⟩
    refine ⟨_, rfl, _, .lst, rfl, .lst ha, true, rfl, iteT ⟨_, rfl, _, rfl, .list (ps.map PyData.str), .list (ps.map PyData.str), .lst (SqL.of ha) (dpAll_strs ps), .lst (SqL.of hb) (dpAll_strs ps), shaped_strs hn, shaped_strs hn, ?_⟩⟩
    rw [SeqAt.eqv_refl _ (SeqAt.canLay_of_shaped (shaped_strs hn))]
    exact kq
theorem abc_mem (c : Nat) : decide (c ∈ ("abcdefghijklmnopqrstuvwxyz" : Str).cps.toList) = lowC c := by
  have e : ("abcdefghijklmnopqrstuvwxyz" : Str).cps.toList = List.range' 97 26 := by decide +kernel
  rw [e, Bool.eq_iff_iff]
  unfold lowC
  rw [Bool.and_eq_true, decide_eq_true_iff, decide_eq_true_iff, decide_eq_true_iff, List.mem_range'_1]
  omega
/-- _law_is_name -/
theorem ok_lisname {f : Addr} {fd : FuncData} (F : Fun K "_law_is_name" "_law_is_name" sLisname f fd) (B : Bl mg) : FnOk P w K mg base CX0 1 f fd ["_law_value_here"] spIsName := by
  refine F.ok scLisname (fun vs H Q E h => ?_) (fun cdv A outer s H vs Q E hr h => ?_)
  · obtain ⟨x, k, rfl, _⟩ := h
    rfl
  · obtain ⟨x, k, rfl, ik, hz, kq⟩ := h
    refine ⟨_, pss_cons (ps_if (PW.pt (pw_or (pt_not (pt_val (pe_isi kit_str B.isi B.str (pv 0)))) (pw_or (pt_cmpR op_lt (pe_callB call_len (by rfl) B.len PySem.boot_len (pa_cons (pv 0) pa_nil)) pe_int (nomark _))
        (pw_or1 (pt_cmpR op_gt (pe_callB call_len (by rfl) B.len PySem.boot_len (pa_cons (pv 0) pa_nil)) pe_int (nomark _)))))) (pss_one (ps_ret pe_bl)) pss_nil)
      (pss_cons (ps_for PassesOwn.never rfl (pi_str (pv 0)) (pg_name (i := 1) scLisname.nd rfl (Or.inl rfl)) (pss_one (ps_if (pt_cmpR op_notIn_sign (pv 1) pe_str (by rfl)) (pss_one (ps_ret pe_bl)) pss_nil)))
      (pss_one (ps_ret pe_bl))), ?_⟩
    have q := kq H (Same.refl H)
    refine ⟨_, rfl, x, k, rfl, ik, _, rfl, ?_⟩
    cases ik with
    | str z =>
      have hl := hz z rfl
      have e2 : sizeLine = 16777216 := sizeLine_eq
      have q : Q (.bl (nameS z)) H := q
      unfold nameS at q
      refine iteF ⟨_, rfl, .str z, z.length, rfl, ⟨by omega, rfl⟩, _, _, rfl, rfl, _, rfl, ite2 (fun h1 => ?_) (fun h1 => ?_)⟩
      · have h2 := of_decide_eq_true h1
        refine iteT ?_
        rw [decide_eq_false (show ¬ 1 ≤ z.length by omega), Bool.false_and, Bool.false_and] at q
        exact q
      · have h2 : ¬ ((z.length : Int) < 1) := fun y => h1 (decide_eq_true y)
        refine ⟨_, rfl, .str z, z.length, rfl, ⟨by omega, rfl⟩, _, _, rfl, rfl, _, rfl, ite2 (fun h3 => ?_) (fun h3 => ?_)⟩
        · have h4 := of_decide_eq_true h3
          rw [decide_eq_false (show ¬ z.length ≤ 8 by omega), Bool.and_false, Bool.false_and] at q
          exact q
        · have h4 : ¬ ((8 : Int) < z.length) := fun y => h3 (decide_eq_true y)
          rw [decide_eq_true (show 1 ≤ z.length by omega), decide_eq_true (show z.length ≤ 8 by omega), Bool.true_and, Bool.true_and] at q
          refine ⟨_, rfl, z, rfl, for_it walk_str (fun i σ H' => ∃ v : Option V, σ = [some (.str z), v] ∧ H' = H ∧ (z.cps.toList.take i).all lowC = true) ⟨none, rfl, rfl, rfl⟩ (fun _ _ _ _ _ => True.intro) ?_ ?_⟩
          · rintro i y σ Hx H1 hi ⟨v, rfl, rfl, hall⟩ ⟨rfl, c, hc, rfl⟩
            have hc' : z.cps.toList[i]? = some c := by rw [Array.getElem?_toList]; exact hc
            refine ⟨_, rfl, c, _, rfl, rfl, _, rfl, ?_⟩
            have em : decide (c ∈ (Str.ofString "abcdefghijklmnopqrstuvwxyz").cps.toList) = lowC c := abc_mem c
            rw [em]
            cases ec : lowC c with
            | false =>
              refine iteT ?_
              have e : z.cps.toList.all lowC = false := by
                rw [List.all_eq_false]
                exact ⟨c, List.mem_of_getElem? hc', by rw [ec]; decide⟩
              rw [e] at q
              exact q
            | true =>
              refine iteF ⟨_, rfl, rfl, ?_⟩
              rw [take_snoc hc', List.all_append, hall]
              simp [ec]
          · rintro σ H1 ⟨v, rfl, rfl, hall⟩
            rw [List.take_of_length_le (by simp)] at hall
            rw [hall] at q
            exact q
    | _ => exact iteT (iteT q)
end
end Qp
namespace Qp
open PySem L2
def vInt : Option Int → V
  | none => .non
  | some i => .int i
section
variable {P : Program} {w : World} {K : PySem.W.Frag} {mg : Str → Option Value} {base : Heap}
/-- _law_due(people) -/
def spDue : Sp := fun vs H Q _ => ∃ (x : V) (o : Option (List V)), vs = [x] ∧ TupOf H x o ∧ ∀ H', Same H H' → Q (vInt (dueP o)) H'
theorem ok_due {f : Addr} {fd : FuncData} (F : Fun K "_law_due" "_law_due" sLdue f fd) (B : Bl mg) (cN : CF P w K mg base CX0 1 "_law_is_name" ["_law_value_here"] spIsName) : FnOk P w K mg base CX0 2 f fd ["_law_people"] spDue := by
  refine F.ok scLdue (fun vs H Q E h => ?_) (fun cdv A outer s H vs Q E hr h => ?_)
  · obtain ⟨x, o, rfl, _⟩ := h
    rfl
  · obtain ⟨x, o, rfl, ⟨k, ik, hx⟩, kq⟩ := h
    have esz : sizeLine = 16777216 := sizeLine_eq
    refine ⟨_, pss_cons (ps_if (PW.pt (pw_or (pt_not (pt_val (pe_isi kit_tuple B.isi B.tup (pv 0)))) (pw_or1 (pt_cmpR op_gt (pe_callB call_len_seq (by rfl) B.len PySem.boot_len (pa_cons (pv 0) pa_nil)) pe_int (nomark _)))))
        (pss_one (ps_ret (pe_un un_neg pe_int))) pss_nil)
      (pss_cons (ps_for PassesOwn.never rfl (pi_range1 (by rfl) B.rng (pa_cons (pe_callB call_len_seq (by rfl) B.len PySem.boot_len (pa_cons (pv 0) pa_nil)) pa_nil)) (pg_name (i := 1) scLdue.nd rfl (Or.inl rfl))
        (pss_one (ps_if (PW.pt (pw_or (pt_not (pt_val (pe_cf cN hr pass0 (pa_cons (pe_ix ix_tup (pv 0) (pv 1) (fun _ _ => rfl)) pa_nil)))) (pw_or1 (pt_cmpR (op_inS hr.units) (pe_ix ix_tup (pv 0) (pv 1) (fun _ _ => rfl)) (pe_slice sl_both (pv 0) po_none (po_some (pv 1))) (by rfl)))))
          (pss_one (ps_ret (pv 1))) pss_nil)))
      (pss_one (ps_ret pe_non))), ?_⟩
    refine ⟨_, rfl, x, k, rfl, ik, _, rfl, ?_⟩
    cases o with
    | none =>
      have e : isaB k "tuple" = false := by
        have hk : k ≠ .tup := hx
        cases k <;> first | rfl | exact absurd rfl hk
      rw [e]
      exact iteT (iteT ⟨_, rfl, kq H (Same.refl H)⟩)
    | some xs =>
      obtain ⟨a, rfl, ha, hg, hlen⟩ := hx
      have e : isaB k "tuple" = true := by
        cases ik with
        | lst h => rw [ha] at h; cases h
        | tup h => rfl
        | dct h => rw [ha] at h; cases h
      rw [e]
      refine iteF ⟨_, rfl, a, xs, rfl, .inr (SqT.of ha), _, _, rfl, rfl, _, rfl, ?_⟩
      refine ite2 (fun h1 => ?_) (fun h1 => ?_)
      · have h2 := of_decide_eq_true h1
        have e2 : dueP (some xs) = some (-1) := if_neg (by omega)
        have q := kq H (Same.refl H)
        rw [e2] at q
        exact ⟨_, rfl, q⟩
      · have h2 : xs.length ≤ 16 := by
          have q : ¬ ((16 : Int) < xs.length) := fun z => h1 (decide_eq_true z)
          omega
        have e2 : dueP (some xs) = (badFrom nameV [] xs).map Int.ofNat := if_pos h2
        refine ⟨_, rfl, a, xs, rfl, .inr (SqT.of ha), _, rfl, by omega, by omega, ?_⟩
        refine for_it (walk_range (n := xs.length)) (fun i σ H' => ∃ (v : Option V) (zs : List Str), σ = [some (.ref a), v] ∧ Same H H' ∧ xs.take i = zs.map V.str ∧ badFrom nameV (xs.take i) (xs.drop i) = badFrom nameV [] xs) ⟨none, [], rfl, Same.refl H, rfl, rfl⟩ (fun _ _ _ _ _ => True.intro) ?_ ?_
        · rintro i y σ Hx H1 hi ⟨v, zs, rfl, s1, htk, hbf⟩ ⟨rfl, rfl⟩
          obtain ⟨y, ey⟩ : ∃ y, xs[i]? = some y := ⟨xs[i], by simp [hi]⟩
          have hli : (xs.take i).length = i := by
            rw [List.length_take]
            omega
          have hdrop : xs.drop i = y :: xs.drop (i + 1) := by
            have h1 := (List.getElem?_eq_some_iff.mp ey)
            rw [List.drop_eq_getElem_cons hi, h1.2]
          rw [hdrop, badFrom_cons, hli] at hbf
          obtain ⟨⟨ky, iy⟩, hz⟩ := hg y (List.mem_of_getElem? ey)
          have e0 : ((0 : Int) + (i : Int)) = (i : Int) := by omega
          have eat : atI xs ((0 : Int) + (i : Int)) = some y := by rw [e0]; exact atI_nat ey
          refine ⟨_, rfl, _, rfl, a, xs, _, y, rfl, rfl, SqT.of (s1 _ _ ha), eat, y, ky, rfl, iy.same s1, hz, fun H2 s2 => ⟨_, rfl, ?_⟩⟩
          cases en : nameV y with
          | false =>
            refine iteT (iteT ⟨_, rfl, ?_⟩)
            have q := kq _ (s1.trans s2)
            rw [e2, ← hbf, en, Bool.false_and, if_neg Bool.false_ne_true] at q
            show Q (.int (0 + (i : Int))) H2
            rw [e0]
            exact q
          | true =>
            have hmem : ∃ z, y = .str z := by
              cases y with
              | str z => exact ⟨z, rfl⟩
              | _ => cases en
            obtain ⟨z, rfl⟩ := hmem
            have s3 := s1.trans s2
            refine iteF ⟨_, rfl, _, rfl, a, xs, _, _, rfl, rfl, SqT.of (s3 _ _ ha), eat, _, rfl, _, rfl, _, rfl, ?_⟩
            show rSlL K (.ref a) none (some (0 + (i : Int))) H2 _ ∨ rSlA K (.ref a) none (some (0 + (i : Int))) H2 _
            rw [e0]
            refine take_both (.inr (SqT.of (s3 _ _ ha))) hi fun p H3 s4 hp => ⟨p, zs, rfl, by rw [← htk]; exact hp, .flat rfl, _, rfl, ?_⟩
            have ec : (xs.take i).contains (V.str z) = inS (V.str z) zs := by
              rw [htk, inS_str]
              simp
            cases e5 : inS (V.str z) zs with
            | true =>
              refine iteT ⟨_, rfl, ?_⟩
              have q := kq _ (s3.trans s4)
              rw [e2, ← hbf, en, ec, e5, Bool.not_true, Bool.and_false, if_neg Bool.false_ne_true] at q
              show Q (.int (0 + (i : Int))) H3
              rw [e0]
              exact q
            | false =>
              refine iteF ⟨_, zs ++ [z], rfl, s3.trans s4, by rw [take_snoc ey, htk, List.map_append]; rfl, ?_⟩
              rw [en, ec, e5, Bool.not_false, Bool.true_and, if_pos rfl] at hbf
              rw [take_snoc ey]
              exact hbf
        · rintro σ H1 ⟨v, zs, rfl, s1, htk, hbf⟩
          rw [List.drop_length] at hbf
          have q := kq H1 s1
          rw [e2, ← hbf] at q
          exact q
/-- _law_take(state, many) -/
def spTake : Sp := fun vs H Q _ => ∃ (st : Addr) (m : Int), vs = [.ref st, .int m] ∧ 0 < m ∧ m < 1000 ∧ StAt H st ∧ ∀ (d n s : Int), 0 ≤ d → d < m → 0 ≤ n → 0 ≤ s → s < 2147483629 → Q (.int d) (upd H st (.lst [.int n, .int s]))
theorem ok_take {f : Addr} {fd : FuncData} (F : Fun K "_law_take" "_law_take" sLtake f fd) (B : Bl mg) : FnOk P w K mg base CX0 1 f fd ["_law_state", "_law_many"] spTake := by
  refine F.ok scLtake (fun vs H Q E h => ?_) (fun cdv A outer s H vs Q E hr h => ?_)
  · obtain ⟨st, m, rfl, _⟩ := h
    rfl
  · obtain ⟨st, m, rfl, hm0, hm1, ⟨n, z, hst, hn, hz0, hz1⟩, kq⟩ := h
    have it0 : PE (cxOf CX0 P w K mg base ["_law_state", "_law_many", "_law_digit", "_law_mixed"] "_law_take" (defScope sLtake) f cdv A outer s H E).nox (.Name "_law_state" ⟨0, 0, 0, 0⟩) (tVar 0) := pv 0
    refine ⟨_, pss_cons (ps_if (pt_cmpR op_gt (pe_ix ix_list (pv 0) pe_int (fun _ _ => rfl)) pe_int (nomark _))
        (pss_cons (ps_set (i := 2) scLtake.nd rfl (Or.inl rfl) (pe_op op_modN (pe_callTy call_int1 (by rfl) B.int (by decide +kernel) (pa_cons (pe_ix ix_list (pv 0) pe_int (fun _ _ => rfl)) pa_nil)) (pv 1)))
        (pss_cons (ps_asg (pe_op op_fdivN (pe_callTy call_int1 (by rfl) B.int (by decide +kernel) (pa_cons (pe_ix ix_list (pv 0) pe_int (fun _ _ => rfl)) pa_nil)) (pv 1)) (pg_sub (pv 0) pe_int set_list))
        (pss_one (ps_ret (pv 2))))) pss_nil)
      (pss_cons (ps_asg (pe_op op_modN (pe_callTy call_int1 (by rfl) B.int (by decide +kernel) (pa_cons (pe_op op_add (pe_op op_mul (pe_ix ix_list (pv 0) pe_int (fun _ _ => rfl)) pe_int) pe_int) pa_nil)) pe_int) (pg_sub (pv 0) pe_int set_list))
      (pss_cons (ps_set (i := 3) scLtake.nd rfl (Or.inl rfl) (pe_op op_modN (pe_callTy call_int1 (by rfl) B.int (by decide +kernel) (pa_cons (pe_op op_mul (pe_ix ix_list (pv 0) pe_int (fun _ _ => rfl))
        (pe_op op_add (pe_op op_fdivN (pe_ix ix_list (pv 0) pe_int (fun _ _ => rfl)) pe_int) pe_int)) pa_nil)) pe_int))
      (pss_one (ps_ret (pe_op op_modN (pe_callTy call_int1 (by rfl) B.int (by decide +kernel) (pa_cons (pe_op op_fdivN (pv 3) pe_int) pa_nil)) (pv 1)))))), ?_⟩
    have a0 : atI [V.int n, V.int z] 0 = some (.int n) := atI_nat (j := 0) rfl
    have a1 : atI [V.int n, V.int z] 1 = some (.int z) := atI_nat (j := 1) rfl
    refine ⟨_, rfl, st, _, 0, _, rfl, rfl, SqL.of hst, a0, _, _, rfl, rfl, _, rfl, ?_⟩
    refine ite2 (fun h1 => ?_) (fun h1 => ?_)
    · have h2 : 0 < n := of_decide_eq_true h1
      refine ⟨_, rfl, st, _, 0, _, rfl, rfl, SqL.of hst, a0, .inl ⟨_, rfl, _, rfl, _, _, rfl, rfl, by omega, ?_⟩⟩
      refine ⟨_, rfl, st, _, 0, _, rfl, rfl, SqL.of hst, a0, .inl ⟨_, rfl, _, rfl, _, _, rfl, rfl, ⟨by omega, by omega⟩, ?_⟩⟩
      refine ⟨_, rfl, st, [.int n, .int z], 0, 0, rfl, rfl, hst, by rfl, _, rfl, ?_⟩
      refine kq (n.fmod m) (n.fdiv m) z ?_ ?_ ?_ hz0 hz1
      · exact Int.fmod_nonneg_of_pos _ hm0
      · exact Int.fmod_lt_of_pos _ hm0
      · exact Int.fdiv_nonneg hn (by omega)
    · refine ⟨_, rfl, st, _, 1, _, rfl, rfl, SqL.of hst, a1, _, _, rfl, rfl, .inl ⟨by omega, by omega⟩, _, _, rfl, rfl, .inl ⟨_, rfl, _, _, rfl, rfl, (by show (2147483629 : Int) ≠ 0; decide), ?_⟩⟩
      have f0 : 0 ≤ (z * 48271 + 30103).fmod 2147483629 := Int.fmod_nonneg_of_pos _ (by decide)
      have f1 : (z * 48271 + 30103).fmod 2147483629 < 2147483629 := Int.fmod_lt_of_pos _ (by decide)
      generalize hz2 : (z * 48271 + 30103).fmod 2147483629 = z2 at f0 f1
      refine ⟨_, rfl, st, [.int n, .int z], 1, 1, rfl, rfl, hst, by rfl, ?_⟩
      have b1 : atI ([V.int n, V.int z].set 1 (V.int ((z * 48271 + 30103).fmod 2147483629))) 1 = some (V.int ((z * 48271 + 30103).fmod 2147483629)) := atI_nat (j := 1) rfl
      refine ⟨_, rfl, st, _, 1, _, rfl, rfl, SqL.of upd_same, b1, _, rfl, st, _, 1, _, rfl, rfl, SqL.of upd_same, b1, _, _, rfl, rfl, ⟨by decide, by decide⟩, _, _, rfl, rfl, _, _, rfl, rfl, .inl ⟨?_, ?_⟩, .inl ⟨_, rfl, _, _, rfl, rfl, (by show (2147483647 : Int) ≠ 0; decide), ?_⟩⟩
      · rw [hz2]
        omega
      · rw [hz2]
        omega
      · refine ⟨_, rfl, _, _, rfl, rfl, ⟨by decide, by decide⟩, .inl ⟨_, rfl, _, rfl, _, _, rfl, rfl, by omega, ?_⟩⟩
        have e : (upd H st (.lst ([V.int n, V.int z].set 1 (V.int ((z * 48271 + 30103).fmod 2147483629))))) = upd H st (.lst [.int n, .int z2]) := by rw [hz2]; rfl
        show Q _ (upd H st (.lst ([V.int n, V.int z].set 1 (V.int ((z * 48271 + 30103).fmod 2147483629)))))
        rw [e]
        exact kq _ n z2 (Int.fmod_nonneg_of_pos _ hm0) (Int.fmod_lt_of_pos _ hm0) hn f0 f1
/-- _law_cell(script, k) -/
def spCell (K : PySem.W.Frag) : Sp := fun vs H Q _ => ∃ (a : Addr) (ns : List Int), vs = [.ref a, .int 0] ∧ SqL K H a (ns.map V.int) ∧ ns.length ≤ 63 ∧ ∀ (p : Addr) (n s : Int), H p = none → 0 ≤ n → 0 ≤ s → s < 2147483629 → Q (.ref p) (upd H p (.lst [.int n, .int s]))
theorem ok_cell {f : Addr} {fd : FuncData} (F : Fun K "_law_cell" "_law_cell" sLcell f fd) (B : Bl mg) : FnOk P w K mg base CX0 1 f fd ["_law_script", "_law_k"] (spCell K) := by
  refine F.ok scLcell (fun vs H Q E h => ?_) (fun cdv A outer s H vs Q E hr h => ?_)
  · obtain ⟨a, ns, rfl, _⟩ := h
    rfl
  · obtain ⟨a, ns, rfl, ha, hl, kq⟩ := h
    have rest : ∀ num : Int, 0 ≤ num → ∃ t, PSs (cxOf CX0 P w K mg base ["_law_script", "_law_k", "_law_number", "_law_seed"] "_law_cell" (defScope sLcell) f cdv A outer s H E).nox ((defBody sLcell).drop 2) t ∧
        t { nx := fun _ H' => Q .non H', rt := Q } [some (.ref a), some (.int 0), some (.int num), none] H := fun num hnum => by
      refine ⟨_, pss_cons (ps_set (i := 3) scLcell.nd rfl (Or.inl rfl) (pe_op op_modN (pe_callTy call_int1 (by rfl) B.int (by decide +kernel) (pa_cons (pe_op op_add (pe_op op_add (pe_op op_add (pv 2) (pe_op op_mul pe_int (pv 1)))
            (pe_op op_mul pe_int (pe_callB (call_min2 rfl) (by rfl) B.min (by decide +kernel) (pa_cons (pe_callB call_len_seq (by rfl) B.len PySem.boot_len (pa_cons (pv 0) pa_nil)) (pa_cons pe_int pa_nil))))) pe_int) pa_nil)) pe_int))
        (pss_cons (ps_set (i := 3) scLcell.nd rfl (Or.inl rfl) (pe_op op_modN (pe_callTy call_int1 (by rfl) B.int (by decide +kernel) (pa_cons (pe_op op_add (pe_op op_add (pe_op op_mul (pe_op op_mul (pv 3) (pv 3)) (pv 3)) (pe_op op_mul pe_int (pv 3))) pe_int) pa_nil)) pe_int))
        (pss_cons (ps_if (pt_cmpR op_lt (pv 2) (pe_op op_pow pe_int pe_int) (nomark _)) (pss_one (ps_ret (pe_lst (pa_cons pe_int (pa_cons (pv 3) pa_nil))))) pss_nil)
        (pss_one (ps_ret (pe_lst (pa_cons (pv 2) (pa_cons (pv 3) pa_nil))))))), ?_⟩
      refine ⟨_, rfl, _, rfl, _, _, rfl, rfl, .inl ⟨by decide, by decide⟩, _, _, rfl, rfl, _, rfl, a, _, rfl, .inl ha, _, _, rfl, _, _, rfl, rfl, .inl ⟨by decide, by decide⟩, _, _, rfl, rfl, _, _, rfl, rfl, .inl ⟨_, rfl, _, _, rfl, rfl, (by show (2147483629 : Int) ≠ 0; decide), ?_⟩⟩
      generalize (num + 7919 * 0 + 104729 * (if (63 : Int) < (((ns.map V.int).length : Nat) : Int) then (63 : Int) else (((ns.map V.int).length : Nat) : Int)) + 17) = y
      have f0 : 0 ≤ y.fmod 2147483629 := Int.fmod_nonneg_of_pos _ (by decide)
      have f1 : y.fmod 2147483629 < 2147483629 := Int.fmod_lt_of_pos _ (by decide)
      have m0 : 0 ≤ y.fmod 2147483629 * y.fmod 2147483629 := Int.mul_nonneg f0 f0
      have m1 : y.fmod 2147483629 * y.fmod 2147483629 < 2 ^ 64 := by
        have q : y.fmod 2147483629 * y.fmod 2147483629 ≤ 2147483629 * 2147483629 := Int.mul_le_mul (by omega) (by omega) f0 (by decide)
        omega
      refine ⟨_, rfl, _, rfl, _, _, rfl, rfl, .inl ⟨by omega, by omega⟩, _, rfl, _, _, rfl, rfl, .inl ⟨by omega, by omega⟩, _, rfl, _, _, rfl, rfl, .inl ⟨by decide, by decide⟩, _, _, rfl, rfl, _, _, rfl, rfl, .inl ⟨_, rfl, _, _, rfl, rfl, (by show (2147483629 : Int) ≠ 0; decide), ?_⟩⟩
      have g0 : 0 ≤ (y.fmod 2147483629 * y.fmod 2147483629 * y.fmod 2147483629 + 69621 * y.fmod 2147483629 + 11).fmod 2147483629 := Int.fmod_nonneg_of_pos _ (by decide)
      have g1 : (y.fmod 2147483629 * y.fmod 2147483629 * y.fmod 2147483629 + 69621 * y.fmod 2147483629 + 11).fmod 2147483629 < 2147483629 := Int.fmod_lt_of_pos _ (by decide)
      refine ⟨_, rfl, _, _, rfl, rfl, ⟨by decide, by decide, by decide⟩, _, _, rfl, rfl, _, rfl, ite2 (fun _ => ?_) (fun _ => ?_)⟩
      · exact ⟨_, rfl, by show 2 ≤ sizeLine; decide, fun p hp => kq p 0 _ hp (by decide) g0 g1⟩
      · exact ⟨_, rfl, _, rfl, by show 2 ≤ sizeLine; decide, fun p hp => kq p num _ hp hnum g0 g1⟩
    have hnum : ∀ num : Int, 0 ≤ (if num < 0 then -num else num) := fun num => by
      by_cases h : num < 0
      · rw [if_pos h]
        omega
      · rw [if_neg h]
        omega
    by_cases h0 : 0 < ns.length
    · obtain ⟨n0, e0⟩ : ∃ n0, ns[0]? = some n0 := ⟨ns[0], by simp [h0]⟩
      obtain ⟨t, ht, hq⟩ := rest _ (hnum n0)
      refine ⟨_, pss_cons (ps_set (i := 2) scLcell.nd rfl (Or.inl rfl) pe_int)
        (pss_cons (ps_if (pt_cmpR op_lt (pv 1) (pe_callB call_len_seq (by rfl) B.len PySem.boot_len (pa_cons (pv 0) pa_nil)) (nomark _))
          (pss_one (ps_set (i := 2) scLcell.nd rfl (Or.inl rfl) (pe_callB call_abs (by rfl) B.abs (by decide +kernel) (pa_cons (pe_ix ix_list (pv 0) (pv 1) (fun _ _ => rfl)) pa_nil)))) pss_nil) ht), ?_⟩
      refine ⟨_, rfl, _, rfl, a, _, rfl, .inl ha, _, _, rfl, rfl, _, rfl, ?_⟩
      rw [decide_eq_true (show (0 : Int) < (((ns.map V.int).length : Nat) : Int) by rw [List.length_map]; omega)]
      refine iteT ⟨_, rfl, _, rfl, a, _, 0, .int n0, rfl, rfl, ha, atI_nat (j := 0) (by rw [List.getElem?_map, e0]; rfl), _, rfl, hq⟩
    · obtain ⟨t, ht, hq⟩ := rest 0 (Int.le_refl 0)
      refine ⟨_, pss_cons (ps_set (i := 2) scLcell.nd rfl (Or.inl rfl) pe_int)
        (pss_cons (ps_if (pt_cmpR op_lt (pv 1) (pe_callB call_len_seq (by rfl) B.len PySem.boot_len (pa_cons (pv 0) pa_nil)) (nomark _))
          (pss_one (ps_set (i := 2) scLcell.nd rfl (Or.inl rfl) (pe_callB call_abs (by rfl) B.abs (by decide +kernel) (pa_cons (pe_ix ix_list (pv 0) (pv 1) (fun _ _ => rfl)) pa_nil)))) pss_nil) ht), ?_⟩
      refine ⟨_, rfl, _, rfl, a, _, rfl, .inl ha, _, _, rfl, rfl, _, rfl, ?_⟩
      rw [decide_eq_false (show ¬ (0 : Int) < (((ns.map V.int).length : Nat) : Int) by rw [List.length_map]; omega)]
      exact iteF hq
end
end Qp
namespace Qp
open PySem L2 TL
theorem abc_at (d : Nat) (h : d < 26) : ("abcdefghijklmnopqrstuvwxyz" : Str).cps.toList[d]? = some (97 + d) := by
  have e : ("abcdefghijklmnopqrstuvwxyz" : Str).cps.toList = List.range' 97 26 := by decide +kernel
  rw [e, List.getElem?_range' h]
  simp
theorem abc_len : ("abcdefghijklmnopqrstuvwxyz" : Str).length = 26 := by decide +kernel
theorem joinL_one : ∀ cs : List Nat, joinL [] (cs.map fun c => [c]) = cs
  | [] => rfl
  | [c] => rfl
  | c :: d :: r => by
    have ih := joinL_one (d :: r)
    show [c] ++ ([] ++ joinL [] ((d :: r).map fun c => [c])) = c :: d :: r
    rw [ih]
    rfl
theorem str_ext {y z : Str} (h : y.cps.toList = z.cps.toList) : y = z := by
  cases y with
  | mk a =>
    cases z with
    | mk b =>
      have : a = b := by
        apply Array.toList_inj.mp
        exact h
      rw [this]
theorem join_one (cs : List Nat) : Txt.join ("" : Str) (cs.map fun c => (⟨#[c]⟩ : Str)) = ⟨cs.toArray⟩ := by
  apply str_ext
  rw [join_eq]
  have e := tl_join ("" : Str) (cs.map fun c => (⟨#[c]⟩ : Str))
  have e0 : tl ("" : Str) = [] := by decide +kernel
  have e1 : (cs.map fun c => (⟨#[c]⟩ : Str)).map tl = cs.map fun c => [c] := by
    rw [List.map_map]
    rfl
  rw [e0, e1, joinL_one] at e
  show tl (Str.join ("" : Str) (cs.map fun c => (⟨#[c]⟩ : Str))) = cs.toArray.toList
  rw [e]
theorem name_of {cs : List Nat} (h1 : 1 ≤ cs.length) (h2 : cs.length ≤ 8) (h : ∀ c ∈ cs, lowC c = true) : nameS ⟨cs.toArray⟩ = true := by
  unfold nameS
  have e : (⟨cs.toArray⟩ : Str).length = cs.length := by simp [Str.length]
  rw [e, decide_eq_true h1, decide_eq_true h2, Bool.true_and, Bool.true_and]
  show cs.toArray.toList.all lowC = true
  rw [List.all_eq_true]
  intro c hc
  exact h c (by simpa using hc)
theorem lst_ne_st (ts : List Str) (n s : Int) : (HO.lst (ts.map V.str)) ≠ .lst [.int n, .int s] := by
  intro z
  have e : ts.map V.str = [.int n, .int s] := HO.lst.inj z
  cases ts with
  | nil => cases e
  | cons a r => cases e
theorem low_of (d : Nat) (h : d < 26) : lowC (97 + d) = true := by
  unfold lowC
  rw [Bool.and_eq_true]
  exact ⟨decide_eq_true (by omega), decide_eq_true (by omega)⟩
theorem sum_one : ∀ cs : List Nat, ((cs.map fun c => (⟨#[c]⟩ : Str)).map (·.length)).sum = cs.length
  | [] => rfl
  | c :: cs => by
    have ih := sum_one cs
    rw [List.map_cons, List.map_cons, List.sum_cons, ih, List.length_cons]
    show 1 + cs.length = cs.length + 1
    omega
/-- the k-th further name -/
def other (cs : List Nat) (l : Int) (k : Nat) : Str := ⟨((cs.take 7) ++ [97 + ((l + (0 + (k : Int))).fmod 26).toNat]).toArray⟩
theorem other_inj {cs : List Nat} {l : Int} {j k : Nat} (h0 : 0 ≤ l) (hj : j < 26) (hk : k < 26) (h : other cs l j = other cs l k) : j = k := by
  unfold other at h
  have e := congrArg (fun z : Str => z.cps.toList) h
  simp only [List.toList_toArray] at e
  have e2 := List.append_cancel_left e
  have e3 : 97 + ((l + (0 + (j : Int))).fmod 26).toNat = 97 + ((l + (0 + (k : Int))).fmod 26).toNat := (List.cons.inj e2).1
  rw [Int.fmod_eq_emod_of_nonneg _ (by decide), Int.fmod_eq_emod_of_nonneg _ (by decide)] at e3
  omega
theorem other_name {cs : List Nat} {l : Int} {k : Nat} (h2 : cs.length ≤ 8) (h : ∀ c ∈ cs, lowC c = true) : nameS (other cs l k) = true := by
  refine name_of ?_ ?_ fun c hc => ?_
  · rw [List.length_append]
    exact Nat.le_add_left _ _
  · rw [List.length_append, List.length_take]
    show min 7 cs.length + 1 ≤ 8
    omega
  · rcases List.mem_append.mp hc with q | q
    · exact h c (List.mem_of_mem_take q)
    · have e : c = 97 + ((l + (0 + (k : Int))).fmod 26).toNat := by simpa using q
      have f0 : 0 ≤ (l + (0 + (k : Int))).fmod 26 := Int.fmod_nonneg_of_pos _ (by decide)
      have f1 : (l + (0 + (k : Int))).fmod 26 < 26 := Int.fmod_lt_of_pos _ (by decide)
      rw [e]
      exact low_of _ (by omega)
theorem SameBut.stay {st : Addr} {H H' : Hp} {b : Addr} {o : HO} (s : SameBut st H H') (n : b ≠ st) (h : H b = some o) : H' b = some o := s b o n h
section
variable {P : Program} {w : World} {K : PySem.W.Frag} {mg : Str → Option Value} {base : Heap}
/-- _law_name(state, taken) -/
def spName : Sp := fun vs H Q _ => ∃ (st tk : Addr) (ts : List Str), vs = [.ref st, .ref tk] ∧ StAt H st ∧ H tk = some (lstO ts) ∧ ts.length ≤ 25 ∧ ∀ (z : Str) (H' : Hp), SameBut st H H' → StAt H' st → nameS z = true → z ∉ ts → Q (.str z) H'
theorem ok_name {f : Addr} {fd : FuncData} (F : Fun K "_law_name" "_law_name" sLname f fd) (B : Bl mg) (cT : CF P w K mg base CX0 1 "_law_take" ["_law_state", "_law_many"] spTake) : FnOk P w K mg base CX0 2 f fd ["_law_state", "_law_taken"] spName := by
  refine F.ok scLname (fun vs H Q E h => ?_) (fun cdv A outer s H vs Q E hr h => ?_)
  · obtain ⟨st, tk, ts, rfl, _⟩ := h
    rfl
  · obtain ⟨st, tk, ts, rfl, hst, htk, htl, kq⟩ := h
    have esz : sizeLine = 16777216 := sizeLine_eq
    have nts : tk ≠ st := by
      obtain ⟨n, s, e, _⟩ := hst
      exact ne_of htk e (lst_ne_st ts n s)
    refine ⟨_, pss_cons (ps_set (i := 2) scLname.nd rfl (Or.inr rfl) pe_str)
      (pss_cons (ps_set (i := 3) scLname.nd rfl (Or.inl rfl) (pe_op op_add pe_int (pe_cf cT hr pass0 (pa_cons (pv 0) (pa_cons pe_int pa_nil)))))
      (pss_cons (ps_set (i := 5) scLname.nd rfl (Or.inl rfl) (pe_join pe_str (pe_lc (own := [("_law_k", 4)]) (g := gName 4) (tt := tYes) rfl scLname.nd (pi_range1 (by rfl) B.rng (pa_cons (pv 3) pa_nil))
          (blkOk_by (own := [("_law_k", 4)]) (N := ["_law_state", "_law_taken", "_law_letters", "_law_size", "_law_k", "_law_name_here", "_law_last", "_law_other"]) (sc := defScope sLname) (by decide +kernel))
          (fun _ _ _ _ _ => pg_name (i := 4) scLname.nd rfl (Or.inl rfl)) (fun _ _ _ _ _ => pts_nil) (fun _ _ _ _ _ => pe_ix ix_str (pv 2) (pe_cf cT hr pass0 (pa_cons (pv 0) (pa_cons pe_int pa_nil))) (fun _ _ => rfl)))))
      (pss_cons (ps_if (pt_cmpR (op_notInS hr.units) (pv 5) (pv 1) (by rfl)) (pss_one (ps_ret (pv 5))) pss_nil)
      (pss_cons (ps_set (i := 6) scLname.nd rfl (Or.inl rfl) (pe_cf cT hr pass0 (pa_cons (pv 0) (pa_cons pe_int pa_nil))))
      (pss_cons (ps_for PassesOwn.never rfl (pi_range1 (by rfl) B.rng (pa_cons pe_int pa_nil)) (pg_name (i := 4) scLname.nd rfl (Or.inl rfl))
        (pss_cons (ps_set (i := 7) scLname.nd rfl (Or.inl rfl) (pe_op op_add_str (pe_slice sl_str (pv 5) po_none (po_some pe_int))
            (pe_ix ix_str (pv 2) (pe_op op_modN (pe_callTy call_int1 (by rfl) B.int (by decide +kernel) (pa_cons (pe_op op_add (pv 6) (pv 4)) pa_nil)) pe_int) (fun _ _ => rfl))))
        (pss_one (ps_if (pt_cmpR (op_notInS hr.units) (pv 7) (pv 1) (by rfl)) (pss_one (ps_ret (pv 7))) pss_nil))))
      (pss_one (ps_ret pe_str))))))), ?_⟩
    refine ⟨_, rfl, st, 8, rfl, by decide, by decide, hst, fun d n0 s0 hd0 hd1 hn0 hs0 hs1 => ?_⟩
    generalize hH1 : upd H st (.lst [.int n0, .int s0]) = H1
    have s1 : SameBut st H H1 := by rw [← hH1]; exact SameBut.set
    have st1 : StAt H1 st := ⟨n0, s0, by rw [← hH1]; exact upd_same, hn0, hs0, hs1⟩
    refine ⟨_, _, rfl, rfl, ?_⟩
    refine ⟨⟨_, rfl⟩, _, rfl, (1 + d), rfl, by omega, by omega, fun D hD => lc_it (walk_range (lo := 0) (n := (1 + d).toNat)) (fun i H' => SameBut st H1 H' ∧ StAt H' st ∧ ∃ cs : List Nat, cs.length = i ∧ (∀ c ∈ cs, lowC c = true) ∧ H' D = some (.lst (cs.map fun c => V.str ⟨#[c]⟩))) ?_ (fun _ _ _ _ => True.intro) ?_ ?_⟩
    · exact ⟨(Same.new hD).but st, st1.same (Same.new hD), [], rfl, (fun _ h => by cases h), upd_same⟩
    · rintro i x Hx H2 hi ⟨sb, sa, cs, hlen, hlow, hD1⟩ ⟨rfl, rfl⟩
      have hDst : D ≠ st := by
        obtain ⟨n, s, e, _⟩ := st1
        intro z
        rw [z, e] at hD
        cases hD
      refine ⟨rfl, lcTurn ⟨_, rfl, _, rfl, st, 26, rfl, by decide, by decide, sa, fun e n2 s2 he0 he1 hn2 hs2 hs3 => ?_⟩⟩
      have hat : atI ("abcdefghijklmnopqrstuvwxyz" : Str).cps.toList e = some (97 + e.toNat) := by
        have q := atI_nat (abc_at e.toNat (by omega))
        rw [show ((e.toNat : Nat) : Int) = e by omega] at q
        exact q
      refine ⟨_, e, 97 + e.toNat, rfl, rfl, by rw [abc_len, esz]; decide, hat, _, by rw [upd_ne hDst]; exact hD1, by rw [List.length_map]; omega, ?_, ?_, cs ++ [97 + e.toNat], by rw [List.length_append, hlen]; rfl, fun c hc => ?_, ?_⟩
      · intro b o hb hbo
        by_cases hbD : b = D
        · subst hbD
          rw [hD] at hbo
          cases hbo
        · rw [upd_ne hbD, upd_ne hb]
          exact sb b o hb hbo
      · exact ⟨n2, s2, by rw [upd_ne (Ne.symm hDst)]; exact upd_same, hn2, hs2, hs3⟩
      · rcases List.mem_append.mp hc with q | q
        · exact hlow c q
        · have : c = 97 + e.toNat := by simpa using q
          rw [this]
          exact low_of _ (by omega)
      · rw [upd_same, List.map_append]
        rfl
    · rintro H2 ⟨sb, sa, cs, hlen, hlow, hD1⟩
      have ek : cs.map (fun c => V.str ⟨#[c]⟩) = (cs.map fun c => (⟨#[c]⟩ : Str)).map V.str := by
        rw [List.map_map]
        rfl
      have hc1 : 1 ≤ cs.length := by omega
      have hc8 : cs.length ≤ 8 := by omega
      have sB := s1.trans sb
      have hn := name_of hc1 hc8 hlow
      refine ⟨_, D, cs.map fun c => (⟨#[c]⟩ : Str), rfl, rfl, .inl (SqL.of (by rw [hD1, ek])), ?_, ?_⟩
      · rw [sum_one, List.length_map, show ("" : Str).length = 0 from rfl, Nat.mul_zero]
        omega
      rw [join_one]
      refine ⟨_, rfl, _, rfl, tk, ts, rfl, .inl (SqL.of (sB _ _ nts htk)), .flat rfl, _, rfl, ?_⟩
      rw [if_pos rfl, inS_str]
      by_cases hm : (⟨cs.toArray⟩ : Str) ∈ ts
      · rw [decide_eq_true hm]
        refine iteF ⟨_, rfl, st, 26, rfl, by decide, by decide, sa, fun l n2 s2 hl0 hl1 hn2 hs2 hs3 => ?_⟩
        generalize hH3 : upd H2 st (.lst [.int n2, .int s2]) = H3
        have s3 : SameBut st H2 H3 := by rw [← hH3]; exact SameBut.set
        have st3 : StAt H3 st := ⟨n2, s2, by rw [← hH3]; exact upd_same, hn2, hs2, hs3⟩
        have sC := sB.trans s3
        refine ⟨26, rfl, by decide, by decide, for_it (walk_range (lo := 0) (n := (26 : Int).toNat)) (fun i σ H' => ∃ v4 v7 : Option V, σ = [some (.ref st), some (.ref tk), some (.str "abcdefghijklmnopqrstuvwxyz"), some (.int (1 + d)), v4, some (.str ⟨cs.toArray⟩), some (.int l), v7] ∧ H' = H3 ∧ ∀ j, j < i → other cs l j ∈ ts)
          ⟨_, _, rfl, rfl, fun j hj => absurd hj (Nat.not_lt_zero j)⟩ (fun _ _ _ _ _ => True.intro) ?_ ?_⟩
        · rintro i x σ Hx H4 hi ⟨v4, v7, rfl, rfl, hall⟩ ⟨rfl, rfl⟩
          have f0 : 0 ≤ (l + (0 + (i : Int))).fmod 26 := Int.fmod_nonneg_of_pos _ (by decide)
          have f1 : (l + (0 + (i : Int))).fmod 26 < 26 := Int.fmod_lt_of_pos _ (by decide)
          have hat : atI ("abcdefghijklmnopqrstuvwxyz" : Str).cps.toList ((l + (0 + (i : Int))).fmod 26) = some (97 + ((l + (0 + (i : Int))).fmod 26).toNat) := by
            have q := atI_nat (abc_at ((l + (0 + (i : Int))).fmod 26).toNat (by omega))
            rw [show ((((l + (0 + (i : Int))).fmod 26).toNat : Nat) : Int) = (l + (0 + (i : Int))).fmod 26 by omega] at q
            exact q
          have ecut : cutS ⟨cs.toArray⟩ none (some 7) = ⟨(cs.take 7).toArray⟩ := by
            apply str_ext
            show (((cs.toArray.toList.drop 0).take (HT.sIx cs.toArray.size cs.toArray.size (some ((7 : Nat) : Int)) - 0)).toArray).toList = (cs.take 7).toArray.toList
            rw [HT.sIx_nat]
            simp [List.take_eq_take_iff]
          refine ⟨_, rfl, _, rfl, _, rfl, by show cs.toArray.size ≤ sizeLine; rw [List.size_toArray]; omega, ?_⟩
          refine ⟨_, rfl, _, rfl, _, rfl, _, _, rfl, rfl, .inl ⟨_, rfl, _, _, rfl, rfl, (by show (26 : Int) ≠ 0; decide), _, _, _, rfl, rfl, by rw [abc_len, esz]; decide, hat, ?_⟩⟩
          have eo : (cutS ⟨cs.toArray⟩ none (some 7) ++ (⟨#[97 + ((l + (0 + (i : Int))).fmod 26).toNat]⟩ : Str)) = other cs l i := by
            rw [ecut]
            unfold other
            apply str_ext
            rw [show ((⟨(cs.take 7).toArray⟩ : Str) ++ (⟨#[97 + ((l + (0 + (i : Int))).fmod 26).toNat]⟩ : Str)).cps.toList = tl ((⟨(cs.take 7).toArray⟩ : Str) ++ (⟨#[97 + ((l + (0 + (i : Int))).fmod 26).toNat]⟩ : Str)) from rfl, tl_append]
          refine ⟨_, _, rfl, rfl, ?_, ?_⟩
          · have := cutS_length (⟨cs.toArray⟩ : Str) none (some 7)
            have e9 : (⟨cs.toArray⟩ : Str).length = cs.length := by simp [Str.length]
            show (cutS ⟨cs.toArray⟩ none (some 7)).length + 1 ≤ sizeLine
            omega
          · refine ⟨_, rfl, _, rfl, tk, ts, rfl, .inl (SqL.of (sC _ _ nts htk)), .flat rfl, _, rfl, ?_⟩
            rw [if_pos rfl, inS_str]
            by_cases hm2 : other cs l i ∈ ts
            · have e9 : decide ((cutS ⟨cs.toArray⟩ none (some 7) ++ (⟨#[97 + ((l + (0 + (i : Int))).fmod 26).toNat]⟩ : Str)) ∈ ts) = true := by
                rw [eo]
                exact decide_eq_true hm2
              have e10 : (!decide ((cutS ⟨cs.toArray⟩ none (some 7) ++ (⟨#[97 + ((l + (0 + (i : Int))).fmod 26).toNat]⟩ : Str)) ∈ ts)) = false := by rw [e9]; rfl
              refine (if_neg (by rw [e10]; decide)).mpr ?_
              refine ⟨_, _, rfl, rfl, fun j hj => ?_⟩
              by_cases hji : j < i
              · exact hall j hji
              · have : j = i := by omega
                rw [this]
                exact hm2
            · have e9 : decide ((cutS ⟨cs.toArray⟩ none (some 7) ++ (⟨#[97 + ((l + (0 + (i : Int))).fmod 26).toNat]⟩ : Str)) ∈ ts) = false := by
                rw [eo]
                exact decide_eq_false hm2
              have e10 : (!decide ((cutS ⟨cs.toArray⟩ none (some 7) ++ (⟨#[97 + ((l + (0 + (i : Int))).fmod 26).toNat]⟩ : Str)) ∈ ts)) = true := by rw [e9]; rfl
              refine (if_pos e10).mpr ⟨_, rfl, ?_⟩
              have q := kq (other cs l i) _ sC st3 (other_name hc8 hlow) hm2
              rw [← eo] at q
              exact q
        · rintro σ H4 ⟨v4, v7, rfl, rfl, hall⟩
          exfalso
          have hnd : ((List.range 26).map fun j => other cs l j).Nodup := by
            refine List.Pairwise.map _ (fun a b h e => ?_) (List.Pairwise.and_mem.mp (List.nodup_range (n := 26)))
            obtain ⟨ha, hb, hab⟩ := h
            exact hab (other_inj hl0 (List.mem_range.mp ha) (List.mem_range.mp hb) e)
          have q := nodup_sub_length (m := ts) hnd fun z hz => by
            obtain ⟨j, hj, rfl⟩ := List.mem_map.mp hz
            exact hall j (List.mem_range.mp hj)
          rw [List.length_map, List.length_range] at q
          omega
      · rw [decide_eq_false hm]
        exact iteT ⟨_, rfl, kq _ _ sB sa hn hm⟩
end
end Qp
namespace Qp
open PySem L2
/-- any value that the law draws -/
def AnyV (H : Hp) (v : V) : Prop := ∃ k, IsK H v k ∧ (∀ z, v = .str z → z.length ≤ 1000) ∧ (k = .tup → ∃ (a : Addr) (zs : List Str), v = .ref a ∧ H a = some (.tup (zs.map V.str)) ∧ zs.length ≤ 2 ∧ ∀ z ∈ zs, z.length ≤ 1000)
theorem AnyV.same {H H' : Hp} (s : Same H H') {v : V} (h : AnyV H v) : AnyV H' v := by
  obtain ⟨k, ik, hz, ht⟩ := h
  refine ⟨k, ik.same s, hz, fun e => ?_⟩
  obtain ⟨a, zs, e1, e2, e3⟩ := ht e
  exact ⟨a, zs, e1, s _ _ e2, e3⟩
theorem AnyV.good {H : Hp} {v : V} (h : AnyV H v) : GoodE H v := by
  obtain ⟨k, ik, hz, _⟩ := h
  exact ⟨⟨k, ik⟩, hz⟩
theorem AnyV.but {H H' : Hp} {st : Addr} (s : SameBut st H H') {n z : Int} (hst : H st = some (.lst [.int n, .int z])) {m y : Int} (hst' : H' st = some (.lst [.int m, .int y])) {v : V} (h : AnyV H v) : AnyV H' v := by
  obtain ⟨k, ik, hz, ht⟩ := h
  have ik' : IsK H' v k := by
    cases ik with
    | non => exact .non
    | bl b => exact .bl b
    | int i => exact .int i
    | str z => exact .str z
    | @lst a xs h =>
      by_cases ha : a = st
      · rw [ha]; exact .lst hst'
      · exact .lst (s _ _ ha h)
    | @tup a xs h => exact .tup (s _ _ (ne_of h hst (by intro z; cases z)) h)
    | @dct a xs h => exact .dct (s _ _ (ne_of h hst (by intro z; cases z)) h)
  refine ⟨k, ik', hz, fun e => ?_⟩
  obtain ⟨a, zs, e1, e2, e3⟩ := ht e
  exact ⟨a, zs, e1, s _ _ (ne_of e2 hst (by intro z; cases z)) e2, e3⟩
theorem anyV_non {H : Hp} : AnyV H .non := ⟨_, .non, (fun _ e => by cases e), (fun e => by cases e)⟩
theorem anyV_bl {H : Hp} (b : Bool) : AnyV H (.bl b) := ⟨_, .bl b, (fun _ e => by cases e), (fun e => by cases e)⟩
theorem anyV_int {H : Hp} (b : Int) : AnyV H (.int b) := ⟨_, .int b, (fun _ e => by cases e), (fun e => by cases e)⟩
theorem anyV_str {H : Hp} (z : Str) (h : z.length ≤ 1000) : AnyV H (.str z) := ⟨_, .str z, (fun _ e => by cases e; exact h), (fun e => by cases e)⟩
theorem anyV_lst {H : Hp} {a : Addr} {xs : List V} (h : H a = some (.lst xs)) : AnyV H (.ref a) := ⟨_, .lst h, (fun _ e => by cases e), (fun e => by cases e)⟩
theorem anyV_dct {H : Hp} {a : Addr} {kvs : List (Key × V)} (h : H a = some (.dK kvs)) : AnyV H (.ref a) := ⟨_, .dct h, (fun _ e => by cases e), (fun e => by cases e)⟩
theorem anyV_tup {H : Hp} {a : Addr} (zs : List Str) (h : H a = some (.tup (zs.map V.str))) (hl : zs.length ≤ 2) (hz : ∀ z ∈ zs, z.length ≤ 1000) : AnyV H (.ref a) := ⟨_, .tup h, (fun _ e => by cases e), fun _ => ⟨a, zs, rfl, h, hl, hz⟩⟩
theorem AnyV.butD {H H' : Hp} {d : Addr} (s : SameBut d H H') {k1 k2 : List (Key × V)} (hd : H d = some (.dK k1)) (hd' : H' d = some (.dK k2)) {v : V} (h : AnyV H v) : AnyV H' v := by
  obtain ⟨k, ik, hz, ht⟩ := h
  have ik' : IsK H' v k := by
    cases ik with
    | non => exact .non
    | bl b => exact .bl b
    | int i => exact .int i
    | str z => exact .str z
    | @lst a xs h => exact .lst (s _ _ (ne_of h hd (by intro z; cases z)) h)
    | @tup a xs h => exact .tup (s _ _ (ne_of h hd (by intro z; cases z)) h)
    | @dct a xs h =>
      by_cases ha : a = d
      · rw [ha]; exact .dct hd'
      · exact .dct (s _ _ ha h)
  refine ⟨k, ik', hz, fun e => ?_⟩
  obtain ⟨a, zs, e1, e2, e3⟩ := ht e
  exact ⟨a, zs, e1, s _ _ (ne_of e2 hd (by intro z; cases z)) e2, e3⟩
section
variable {P : Program} {w : World} {K : PySem.W.Frag} {mg : Str → Option Value} {base : Heap}
/-- _law_names(state, many) -/
def spNames : Sp := fun vs H Q _ => ∃ (st : Addr) (m : Nat), vs = [.ref st, .int m] ∧ m ≤ 25 ∧ StAt H st ∧ ∀ (p : Addr) (ps : List Str) (H' : Hp), ps.length = m → ps.Nodup → (∀ z ∈ ps, nameS z = true) → SameBut st H H' → StAt H' st → H p = none → p ≠ st → H' p = some (lstO ps) → Q (.ref p) H'
theorem ok_names {f : Addr} {fd : FuncData} (F : Fun K "_law_names" "_law_names" sLnames f fd) (B : Bl mg) (cN : CF P w K mg base CX0 2 "_law_name" ["_law_state", "_law_taken"] spName) : FnOk P w K mg base CX0 3 f fd ["_law_state", "_law_many"] spNames := by
  refine F.ok scLnames (fun vs H Q E h => ?_) (fun cdv A outer s H vs Q E hr h => ?_)
  · obtain ⟨st, m, rfl, _⟩ := h
    rfl
  · obtain ⟨st, m, rfl, hm, hst, kq⟩ := h
    have esz : sizeLine = 16777216 := sizeLine_eq
    refine ⟨_, pss_cons (ps_set (i := 2) scLnames.nd rfl (Or.inl rfl) (pe_lst pa_nil))
      (pss_cons (ps_for PassesOwn.never rfl (pi_range1 (by rfl) B.rng (pa_cons (pv 1) pa_nil)) (pg_name (i := 3) scLnames.nd rfl (Or.inl rfl))
        (pss_one (ps_expr (pe_bm PySem.F.plainAttrs_list PySem.F.slot_list_append PySem.F.type_list_append mt_append (pv 2) (pa_cons (pe_cf cN hr pass0 (pa_cons (pv 0) (pa_cons (pv 2) pa_nil))) pa_nil)))))
      (pss_one (ps_ret (pv 2)))), ?_⟩
    refine ⟨by show 0 ≤ sizeLine; exact Nat.zero_le _, fun p hp => ?_⟩
    have nps : p ≠ st := by
      obtain ⟨n, s, e, _⟩ := hst
      intro z
      rw [z, e] at hp
      cases hp
    refine ⟨_, rfl, m, rfl, by omega, by omega, for_it (walk_range (lo := 0) (n := ((m : Nat) : Int).toNat)) (fun i σ H' => ∃ (v : Option V) (ps : List Str), σ = [some (.ref st), some (.int m), some (.ref p), v] ∧ ps.length = i ∧ ps.Nodup ∧ (∀ z ∈ ps, nameS z = true) ∧ SameBut st H H' ∧ StAt H' st ∧ H' p = some (lstO ps))
      ⟨none, [], rfl, rfl, List.nodup_nil, (fun _ h => by cases h), (Same.new hp).but st, hst.same (Same.new hp), upd_same⟩ (fun _ _ _ _ _ => True.intro) ?_ ?_⟩
    · rintro i x σ Hx H1 hi ⟨v, ps, rfl, hlen, hnd, hnm, sb, sa, hp1⟩ ⟨rfl, rfl⟩
      refine ⟨_, rfl, .inl ⟨rfl, _, SqL.of hp1⟩, _, rfl, _, rfl, st, p, ps, rfl, sa, hp1, by omega, fun z H2 sb2 sa2 hz hnz => ?_⟩
      have hp2 : H2 p = some (lstO ps) := sb2 _ _ nps hp1
      refine ⟨p, ps.map V.str, .str z, rfl, rfl, hp2, by rw [List.length_map]; omega, _, ps ++ [z], rfl, by rw [List.length_append, hlen]; rfl, ?_, fun y hy => ?_, fun b o hb e => ?_, ?_, ?_⟩
      · rw [List.nodup_append]
        refine ⟨hnd, by simp, fun a ha b hb => ?_⟩
        have : b = z := by simpa using hb
        subst this
        intro e
        subst e
        exact hnz ha
      · rcases List.mem_append.mp hy with q | q
        · exact hnm y q
        · have : y = z := by simpa using q
          rw [this]
          exact hz
      · rw [upd_ne (ne_of_none e hp)]
        exact sb2 _ _ hb (sb _ _ hb e)
      · obtain ⟨n, s, e, r⟩ := sa2
        exact ⟨n, s, by rw [upd_ne (Ne.symm nps)]; exact e, r⟩
      · rw [upd_same]
        unfold lstO
        rw [List.map_append]
        rfl
    · rintro σ H1 ⟨v, ps, rfl, hlen, hnd, hnm, sb, sa, hp1⟩
      exact ⟨_, rfl, kq p ps H1 (by omega) hnd hnm sb sa hp nps hp1⟩
/-- _law_value(state) -/
def spVal : Sp := fun vs H Q _ => ∃ (st : Addr), vs = [.ref st] ∧ StAt H st ∧ ∀ (v : V) (H' : Hp), SameBut st H H' → StAt H' st → AnyV H' v → Q v H'
theorem ok_val {f : Addr} {fd : FuncData} (F : Fun K "_law_value" "_law_value" sLvalue f fd) (B : Bl mg) (cT : CF P w K mg base CX0 1 "_law_take" ["_law_state", "_law_many"] spTake) : FnOk P w K mg base CX0 2 f fd ["_law_state"] spVal := by
  refine F.ok scLvalue (fun vs H Q E h => ?_) (fun cdv A outer s H vs Q E hr h => ?_)
  · obtain ⟨st, rfl, _⟩ := h
    rfl
  · obtain ⟨st, rfl, hst, kq⟩ := h
    have esz : sizeLine = 16777216 := sizeLine_eq
    have len0 : 0 ≤ sizeLine := Nat.zero_le _
    have len1 : 1 ≤ sizeLine := by rw [esz]; decide
    have len2 : 2 ≤ sizeLine := by rw [esz]; decide
    refine ⟨_, pss_cons (ps_set (i := 1) scLvalue.nd rfl (Or.inl rfl) pe_str)
      (pss_cons (ps_for PassesOwn.never rfl (pi_range1 (by rfl) B.rng (pa_cons pe_int pa_nil)) (pg_name (i := 2) scLvalue.nd rfl (Or.inl rfl)) (pss_one (ps_set (i := 1) scLvalue.nd rfl (Or.inl rfl) (pe_lst (pa_cons (pv 1) pa_nil)))))
      (pss_cons (ps_set (i := 3) scLvalue.nd rfl (Or.inl rfl) (pe_lst (pa_cons pe_non (pa_cons pe_bl (pa_cons pe_bl (pa_cons pe_int (pa_cons pe_int (pa_cons (pe_un un_neg pe_int) (pa_cons pe_int
          (pa_cons pe_str (pa_cons pe_str (pa_cons pe_str (pa_cons pe_str (pa_cons pe_str (pa_cons pe_str (pa_cons (pe_lst pa_nil) (pa_cons (pe_tup pa_nil) (pa_cons pe_dnewK (pa_cons (pe_lst (pa_cons pe_str pa_nil)) pa_nil)))))))))))))))))))
      (pss_cons (ps_set (i := 3) scLvalue.nd rfl (Or.inl rfl) (pe_op op_cat (pv 3) (pe_lst (pa_cons (pe_tup (pa_cons pe_str (pa_cons pe_str pa_nil))) (pa_cons (pe_tup (pa_cons pe_str pa_nil))
          (pa_cons (pe_disp (pps_cons pe_str pe_int pps_nil) (by rfl) (by rfl) (fun z => by cases z) (by decide))
          (pa_cons (pe_disp (pps_cons pe_str (pe_lst (pa_cons pe_str pa_nil)) (pps_cons pe_str (pe_lst (pa_cons pe_str pa_nil)) pps_nil)) (by rfl) (by rfl) (fun z => by cases z) (by decide))
          (pa_cons (pv 1) (pa_cons (pe_lst (pa_cons (pe_lst (pa_cons pe_int pa_nil)) (pa_cons (pe_disp (pps_cons pe_str (pe_lst pa_nil) pps_nil) (by rfl) (by rfl) (fun z => by cases z) (by decide)) pa_nil))) pa_nil)))))))))
      (pss_one (ps_ret (pe_ix ix_list (pv 3) (pe_cf cT hr pass0 (pa_cons (pv 0) (pa_cons (pe_callB call_len_seq (by rfl) B.len PySem.boot_len (pa_cons (pv 3) pa_nil)) pa_nil))) (fun _ _ => rfl))))))), ?_⟩
    refine ⟨80, rfl, by decide, by decide, for_it (walk_range (lo := 0) (n := (80 : Int).toNat)) (fun i σ H' => ∃ (v : V) (v2 : Option V), σ = [some (.ref st), some v, v2, none] ∧ Same H H' ∧ AnyV H' v)
      ⟨_, none, rfl, Same.refl H, anyV_str _ (by decide +kernel)⟩ (fun _ _ _ _ _ => True.intro) ?_ ?_⟩
    · rintro i x σ Hx H1 hi ⟨v, v2, rfl, s1, hv⟩ ⟨rfl, rfl⟩
      exact ⟨_, rfl, len1, fun p hp => ⟨_, _, rfl, s1.trans (Same.new hp), anyV_lst upd_same⟩⟩
    · rintro σ H1 ⟨v, v2, rfl, s1, hv⟩
      refine ⟨_, rfl, len0, fun a1 h1 => ?_⟩
      have sJ1 : Same H1 (upd H1 a1 (.lst [])) := Same.new h1
      have wa1 : AnyV (upd H1 a1 (.lst [])) (.ref a1) := anyV_lst upd_same
      generalize upd H1 a1 (.lst []) = J1 at sJ1 wa1 ⊢
      replace hv := hv.same sJ1
      replace s1 := s1.trans sJ1
      refine ⟨len0, fun a2 h2 => ?_⟩
      have sJ2 : Same J1 (upd J1 a2 (.tup [])) := Same.new h2
      have wa2 : AnyV (upd J1 a2 (.tup [])) (.ref a2) := anyV_tup [] upd_same (Nat.zero_le _) (fun _ h => by cases h)
      generalize upd J1 a2 (.tup []) = J2 at sJ2 wa2 ⊢
      replace hv := hv.same sJ2
      replace wa1 := wa1.same sJ2
      replace s1 := s1.trans sJ2
      refine fun a3 h3 => ?_
      have sJ3 : Same J2 (upd J2 a3 (.dK [])) := Same.new h3
      have wa3 : AnyV (upd J2 a3 (.dK [])) (.ref a3) := anyV_dct upd_same
      generalize upd J2 a3 (.dK []) = J3 at sJ3 wa3 ⊢
      replace hv := hv.same sJ3
      replace wa1 := wa1.same sJ3
      replace wa2 := wa2.same sJ3
      replace s1 := s1.trans sJ3
      refine ⟨len1, fun a4 h4 => ?_⟩
      have sJ4 : Same J3 (upd J3 a4 (.lst [.str "ann"])) := Same.new h4
      have wa4 : AnyV (upd J3 a4 (.lst [.str "ann"])) (.ref a4) := anyV_lst upd_same
      generalize upd J3 a4 (.lst [.str "ann"]) = J4 at sJ4 wa4 ⊢
      replace hv := hv.same sJ4
      replace wa1 := wa1.same sJ4
      replace wa2 := wa2.same sJ4
      replace wa3 := wa3.same sJ4
      replace s1 := s1.trans sJ4
      refine ⟨by show 17 ≤ sizeLine; rw [esz]; decide, fun L hL => ?_⟩
      have sJ5 : Same J4 (upd J4 L (.lst ([V.non, .bl true, .bl false, .int 0, .int 1, .int (-1), .int 7, .str "", .str "Ann", .str "abcdefghi", .str "an n", .str "ann\n", .str "ann1", .ref a1, .ref a2, .ref a3, .ref a4] : List V))) := Same.new hL
      have fL : (upd J4 L (.lst ([V.non, .bl true, .bl false, .int 0, .int 1, .int (-1), .int 7, .str "", .str "Ann", .str "abcdefghi", .str "an n", .str "ann\n", .str "ann1", .ref a1, .ref a2, .ref a3, .ref a4] : List V))) L = some (.lst ([V.non, .bl true, .bl false, .int 0, .int 1, .int (-1), .int 7, .str "", .str "Ann", .str "abcdefghi", .str "an n", .str "ann\n", .str "ann1", .ref a1, .ref a2, .ref a3, .ref a4] : List V)) := upd_same
      generalize upd J4 L (.lst ([V.non, .bl true, .bl false, .int 0, .int 1, .int (-1), .int 7, .str "", .str "Ann", .str "abcdefghi", .str "an n", .str "ann\n", .str "ann1", .ref a1, .ref a2, .ref a3, .ref a4] : List V)) = J5 at sJ5 fL ⊢
      replace hv := hv.same sJ5
      replace wa1 := wa1.same sJ5
      replace wa2 := wa2.same sJ5
      replace wa3 := wa3.same sJ5
      replace wa4 := wa4.same sJ5
      replace s1 := s1.trans sJ5
      refine ⟨_, rfl, len2, fun b1 g1 => ?_⟩
      have sJ6 : Same J5 (upd J5 b1 (.tup [.str "ann", .str "bob"])) := Same.new g1
      have wb1 : AnyV (upd J5 b1 (.tup [.str "ann", .str "bob"])) (.ref b1) := anyV_tup ["ann", "bob"] upd_same (by decide) (by decide +kernel)
      generalize upd J5 b1 (.tup [.str "ann", .str "bob"]) = J6 at sJ6 wb1 ⊢
      replace hv := hv.same sJ6
      replace wa1 := wa1.same sJ6
      replace wa2 := wa2.same sJ6
      replace wa3 := wa3.same sJ6
      replace wa4 := wa4.same sJ6
      replace fL := sJ6 _ _ fL
      replace s1 := s1.trans sJ6
      refine ⟨len1, fun b2 g2 => ?_⟩
      have sJ7 : Same J6 (upd J6 b2 (.tup [.str "ann"])) := Same.new g2
      have wb2 : AnyV (upd J6 b2 (.tup [.str "ann"])) (.ref b2) := anyV_tup ["ann"] upd_same (by decide) (by decide +kernel)
      generalize upd J6 b2 (.tup [.str "ann"]) = J7 at sJ7 wb2 ⊢
      replace hv := hv.same sJ7
      replace wa1 := wa1.same sJ7
      replace wa2 := wa2.same sJ7
      replace wa3 := wa3.same sJ7
      replace wa4 := wa4.same sJ7
      replace wb1 := wb1.same sJ7
      replace fL := sJ7 _ _ fL
      replace s1 := s1.trans sJ7
      refine fun b3 g3 => ?_
      have zb3 : H b3 = none := s1.free g3
      have sJ8 : Same J7 (upd J7 b3 (.dK [])) := Same.new g3
      have fb3 : (upd J7 b3 (.dK [])) b3 = some (.dK []) := upd_same
      generalize upd J7 b3 (.dK []) = J8 at sJ8 fb3 ⊢
      replace hv := hv.same sJ8
      replace wa1 := wa1.same sJ8
      replace wa2 := wa2.same sJ8
      replace wa3 := wa3.same sJ8
      replace wa4 := wa4.same sJ8
      replace wb1 := wb1.same sJ8
      replace wb2 := wb2.same sJ8
      replace fL := sJ8 _ _ fL
      replace s1 := s1.trans sJ8
      refine ⟨fb3, [(Sum.inr "ann", .int 1)], rfl, by decide, ?_⟩
      have bJ9 : SameBut b3 J8 (upd J8 b3 (.dK (mergeK [] ([(Sum.inr "ann", V.int 1)] : List (Key × V))))) := SameBut.set
      have eJ9 : (upd J8 b3 (.dK (mergeK [] ([(Sum.inr "ann", V.int 1)] : List (Key × V))))) b3 = some (.dK (mergeK [] ([(Sum.inr "ann", V.int 1)] : List (Key × V)))) := upd_same
      have tJ9 : Same H (upd J8 b3 (.dK (mergeK [] ([(Sum.inr "ann", V.int 1)] : List (Key × V))))) := fun b o e => by rw [upd_ne (ne_of_none e zb3)]; exact s1 _ _ e
      generalize upd J8 b3 (.dK (mergeK [] ([(Sum.inr "ann", V.int 1)] : List (Key × V)))) = J9 at bJ9 eJ9 tJ9 ⊢
      replace hv := AnyV.butD bJ9 fb3 eJ9 hv
      replace wa1 := AnyV.butD bJ9 fb3 eJ9 wa1
      replace wa2 := AnyV.butD bJ9 fb3 eJ9 wa2
      replace wa3 := AnyV.butD bJ9 fb3 eJ9 wa3
      replace wa4 := AnyV.butD bJ9 fb3 eJ9 wa4
      replace wb1 := AnyV.butD bJ9 fb3 eJ9 wb1
      replace wb2 := AnyV.butD bJ9 fb3 eJ9 wb2
      replace fL := bJ9 _ _ (ne_of fL fb3 (by intro z; cases z)) fL
      have wb3 : AnyV J9 (.ref b3) := anyV_dct eJ9
      replace s1 := tJ9
      refine fun b4 g4 => ?_
      have zb4 : H b4 = none := s1.free g4
      have sJ10 : Same J9 (upd J9 b4 (.dK [])) := Same.new g4
      have fb4 : (upd J9 b4 (.dK [])) b4 = some (.dK []) := upd_same
      generalize upd J9 b4 (.dK []) = J10 at sJ10 fb4 ⊢
      replace hv := hv.same sJ10
      replace wa1 := wa1.same sJ10
      replace wa2 := wa2.same sJ10
      replace wa3 := wa3.same sJ10
      replace wa4 := wa4.same sJ10
      replace wb1 := wb1.same sJ10
      replace wb2 := wb2.same sJ10
      replace wb3 := wb3.same sJ10
      replace fL := sJ10 _ _ fL
      replace s1 := s1.trans sJ10
      refine ⟨len1, fun b5 g5 => ?_⟩
      have sJ11 : Same J10 (upd J10 b5 (.lst [.str "bob"])) := Same.new g5
      have wb5 : AnyV (upd J10 b5 (.lst [.str "bob"])) (.ref b5) := anyV_lst upd_same
      generalize upd J10 b5 (.lst [.str "bob"]) = J11 at sJ11 wb5 ⊢
      replace hv := hv.same sJ11
      replace wa1 := wa1.same sJ11
      replace wa2 := wa2.same sJ11
      replace wa3 := wa3.same sJ11
      replace wa4 := wa4.same sJ11
      replace wb1 := wb1.same sJ11
      replace wb2 := wb2.same sJ11
      replace wb3 := wb3.same sJ11
      replace fL := sJ11 _ _ fL
      replace fb4 := sJ11 _ _ fb4
      replace s1 := s1.trans sJ11
      refine ⟨len1, fun b6 g6 => ?_⟩
      have sJ12 : Same J11 (upd J11 b6 (.lst [.str "ann"])) := Same.new g6
      have wb6 : AnyV (upd J11 b6 (.lst [.str "ann"])) (.ref b6) := anyV_lst upd_same
      generalize upd J11 b6 (.lst [.str "ann"]) = J12 at sJ12 wb6 ⊢
      replace hv := hv.same sJ12
      replace wa1 := wa1.same sJ12
      replace wa2 := wa2.same sJ12
      replace wa3 := wa3.same sJ12
      replace wa4 := wa4.same sJ12
      replace wb1 := wb1.same sJ12
      replace wb2 := wb2.same sJ12
      replace wb3 := wb3.same sJ12
      replace wb5 := wb5.same sJ12
      replace fL := sJ12 _ _ fL
      replace fb4 := sJ12 _ _ fb4
      replace s1 := s1.trans sJ12
      refine ⟨fb4, [(Sum.inr "ann", .ref b5), (Sum.inr "bob", .ref b6)], rfl, (by show 2 ≤ 15; decide), ?_⟩
      have bJ13 : SameBut b4 J12 (upd J12 b4 (.dK (mergeK [] ([(Sum.inr "ann", V.ref b5), (Sum.inr "bob", V.ref b6)] : List (Key × V))))) := SameBut.set
      have eJ13 : (upd J12 b4 (.dK (mergeK [] ([(Sum.inr "ann", V.ref b5), (Sum.inr "bob", V.ref b6)] : List (Key × V))))) b4 = some (.dK (mergeK [] ([(Sum.inr "ann", V.ref b5), (Sum.inr "bob", V.ref b6)] : List (Key × V)))) := upd_same
      have tJ13 : Same H (upd J12 b4 (.dK (mergeK [] ([(Sum.inr "ann", V.ref b5), (Sum.inr "bob", V.ref b6)] : List (Key × V))))) := fun b o e => by rw [upd_ne (ne_of_none e zb4)]; exact s1 _ _ e
      generalize upd J12 b4 (.dK (mergeK [] ([(Sum.inr "ann", V.ref b5), (Sum.inr "bob", V.ref b6)] : List (Key × V)))) = J13 at bJ13 eJ13 tJ13 ⊢
      replace hv := AnyV.butD bJ13 fb4 eJ13 hv
      replace wa1 := AnyV.butD bJ13 fb4 eJ13 wa1
      replace wa2 := AnyV.butD bJ13 fb4 eJ13 wa2
      replace wa3 := AnyV.butD bJ13 fb4 eJ13 wa3
      replace wa4 := AnyV.butD bJ13 fb4 eJ13 wa4
      replace wb1 := AnyV.butD bJ13 fb4 eJ13 wb1
      replace wb2 := AnyV.butD bJ13 fb4 eJ13 wb2
      replace wb3 := AnyV.butD bJ13 fb4 eJ13 wb3
      replace wb5 := AnyV.butD bJ13 fb4 eJ13 wb5
      replace wb6 := AnyV.butD bJ13 fb4 eJ13 wb6
      replace fL := bJ13 _ _ (ne_of fL fb4 (by intro z; cases z)) fL
      have wb4 : AnyV J13 (.ref b4) := anyV_dct eJ13
      replace s1 := tJ13
      refine ⟨_, rfl, len1, fun b7 g7 => ?_⟩
      have sJ14 : Same J13 (upd J13 b7 (.lst [.int 1])) := Same.new g7
      have wb7 : AnyV (upd J13 b7 (.lst [.int 1])) (.ref b7) := anyV_lst upd_same
      generalize upd J13 b7 (.lst [.int 1]) = J14 at sJ14 wb7 ⊢
      replace hv := hv.same sJ14
      replace wa1 := wa1.same sJ14
      replace wa2 := wa2.same sJ14
      replace wa3 := wa3.same sJ14
      replace wa4 := wa4.same sJ14
      replace wb1 := wb1.same sJ14
      replace wb2 := wb2.same sJ14
      replace wb3 := wb3.same sJ14
      replace wb5 := wb5.same sJ14
      replace wb6 := wb6.same sJ14
      replace wb4 := wb4.same sJ14
      replace fL := sJ14 _ _ fL
      replace s1 := s1.trans sJ14
      refine fun b8 g8 => ?_
      have zb8 : H b8 = none := s1.free g8
      have sJ15 : Same J14 (upd J14 b8 (.dK [])) := Same.new g8
      have fb8 : (upd J14 b8 (.dK [])) b8 = some (.dK []) := upd_same
      generalize upd J14 b8 (.dK []) = J15 at sJ15 fb8 ⊢
      replace hv := hv.same sJ15
      replace wa1 := wa1.same sJ15
      replace wa2 := wa2.same sJ15
      replace wa3 := wa3.same sJ15
      replace wa4 := wa4.same sJ15
      replace wb1 := wb1.same sJ15
      replace wb2 := wb2.same sJ15
      replace wb3 := wb3.same sJ15
      replace wb5 := wb5.same sJ15
      replace wb6 := wb6.same sJ15
      replace wb4 := wb4.same sJ15
      replace wb7 := wb7.same sJ15
      replace fL := sJ15 _ _ fL
      replace s1 := s1.trans sJ15
      refine ⟨len0, fun b9 g9 => ?_⟩
      have sJ16 : Same J15 (upd J15 b9 (.lst [])) := Same.new g9
      have wb9 : AnyV (upd J15 b9 (.lst [])) (.ref b9) := anyV_lst upd_same
      generalize upd J15 b9 (.lst []) = J16 at sJ16 wb9 ⊢
      replace hv := hv.same sJ16
      replace wa1 := wa1.same sJ16
      replace wa2 := wa2.same sJ16
      replace wa3 := wa3.same sJ16
      replace wa4 := wa4.same sJ16
      replace wb1 := wb1.same sJ16
      replace wb2 := wb2.same sJ16
      replace wb3 := wb3.same sJ16
      replace wb5 := wb5.same sJ16
      replace wb6 := wb6.same sJ16
      replace wb4 := wb4.same sJ16
      replace wb7 := wb7.same sJ16
      replace fL := sJ16 _ _ fL
      replace fb8 := sJ16 _ _ fb8
      replace s1 := s1.trans sJ16
      refine ⟨fb8, [(Sum.inr "a", .ref b9)], rfl, (by show 1 ≤ 15; decide), ?_⟩
      have bJ17 : SameBut b8 J16 (upd J16 b8 (.dK (mergeK [] ([(Sum.inr "a", V.ref b9)] : List (Key × V))))) := SameBut.set
      have eJ17 : (upd J16 b8 (.dK (mergeK [] ([(Sum.inr "a", V.ref b9)] : List (Key × V))))) b8 = some (.dK (mergeK [] ([(Sum.inr "a", V.ref b9)] : List (Key × V)))) := upd_same
      have tJ17 : Same H (upd J16 b8 (.dK (mergeK [] ([(Sum.inr "a", V.ref b9)] : List (Key × V))))) := fun b o e => by rw [upd_ne (ne_of_none e zb8)]; exact s1 _ _ e
      generalize upd J16 b8 (.dK (mergeK [] ([(Sum.inr "a", V.ref b9)] : List (Key × V)))) = J17 at bJ17 eJ17 tJ17 ⊢
      replace hv := AnyV.butD bJ17 fb8 eJ17 hv
      replace wa1 := AnyV.butD bJ17 fb8 eJ17 wa1
      replace wa2 := AnyV.butD bJ17 fb8 eJ17 wa2
      replace wa3 := AnyV.butD bJ17 fb8 eJ17 wa3
      replace wa4 := AnyV.butD bJ17 fb8 eJ17 wa4
      replace wb1 := AnyV.butD bJ17 fb8 eJ17 wb1
      replace wb2 := AnyV.butD bJ17 fb8 eJ17 wb2
      replace wb3 := AnyV.butD bJ17 fb8 eJ17 wb3
      replace wb5 := AnyV.butD bJ17 fb8 eJ17 wb5
      replace wb6 := AnyV.butD bJ17 fb8 eJ17 wb6
      replace wb4 := AnyV.butD bJ17 fb8 eJ17 wb4
      replace wb7 := AnyV.butD bJ17 fb8 eJ17 wb7
      replace wb9 := AnyV.butD bJ17 fb8 eJ17 wb9
      replace fL := bJ17 _ _ (ne_of fL fb8 (by intro z; cases z)) fL
      have wb8 : AnyV J17 (.ref b8) := anyV_dct eJ17
      replace s1 := tJ17
      refine ⟨len2, fun c1 k1 => ?_⟩
      have sJ18 : Same J17 (upd J17 c1 (.lst [.ref b7, .ref b8])) := Same.new k1
      have wc1 : AnyV (upd J17 c1 (.lst [.ref b7, .ref b8])) (.ref c1) := anyV_lst upd_same
      generalize upd J17 c1 (.lst [.ref b7, .ref b8]) = J18 at sJ18 wc1 ⊢
      replace hv := hv.same sJ18
      replace wa1 := wa1.same sJ18
      replace wa2 := wa2.same sJ18
      replace wa3 := wa3.same sJ18
      replace wa4 := wa4.same sJ18
      replace wb1 := wb1.same sJ18
      replace wb2 := wb2.same sJ18
      replace wb3 := wb3.same sJ18
      replace wb5 := wb5.same sJ18
      replace wb6 := wb6.same sJ18
      replace wb4 := wb4.same sJ18
      replace wb7 := wb7.same sJ18
      replace wb9 := wb9.same sJ18
      replace wb8 := wb8.same sJ18
      replace fL := sJ18 _ _ fL
      replace s1 := s1.trans sJ18
      refine ⟨by show 6 ≤ sizeLine; rw [esz]; decide, fun M hM => ?_⟩
      have sJ19 : Same J18 (upd J18 M (.lst ([.ref b1, .ref b2, .ref b3, .ref b4, v, .ref c1] : List V))) := Same.new hM
      have fM : (upd J18 M (.lst ([.ref b1, .ref b2, .ref b3, .ref b4, v, .ref c1] : List V))) M = some (.lst ([.ref b1, .ref b2, .ref b3, .ref b4, v, .ref c1] : List V)) := upd_same
      generalize upd J18 M (.lst ([.ref b1, .ref b2, .ref b3, .ref b4, v, .ref c1] : List V)) = J19 at sJ19 fM ⊢
      replace hv := hv.same sJ19
      replace wa1 := wa1.same sJ19
      replace wa2 := wa2.same sJ19
      replace wa3 := wa3.same sJ19
      replace wa4 := wa4.same sJ19
      replace wb1 := wb1.same sJ19
      replace wb2 := wb2.same sJ19
      replace wb3 := wb3.same sJ19
      replace wb5 := wb5.same sJ19
      replace wb6 := wb6.same sJ19
      replace wb4 := wb4.same sJ19
      replace wb7 := wb7.same sJ19
      replace wb9 := wb9.same sJ19
      replace wb8 := wb8.same sJ19
      replace wc1 := wc1.same sJ19
      replace fL := sJ19 _ _ fL
      replace s1 := s1.trans sJ19
      refine ⟨L, M, _, _, rfl, rfl, fL, fM, by show 17 + 6 ≤ sizeLine; rw [esz]; decide, fun N hN => ?_⟩
      have hNs : N ≠ st := by
        obtain ⟨n2, z2, e2, _⟩ := hst.same s1
        intro z
        rw [z, e2] at hN
        cases hN
      have sJ20 : Same J19 (upd J19 N (.lst (([V.non, .bl true, .bl false, .int 0, .int 1, .int (-1), .int 7, .str "", .str "Ann", .str "abcdefghi", .str "an n", .str "ann\n", .str "ann1", .ref a1, .ref a2, .ref a3, .ref a4] : List V) ++ ([.ref b1, .ref b2, .ref b3, .ref b4, v, .ref c1] : List V)))) := Same.new hN
      have fN : (upd J19 N (.lst (([V.non, .bl true, .bl false, .int 0, .int 1, .int (-1), .int 7, .str "", .str "Ann", .str "abcdefghi", .str "an n", .str "ann\n", .str "ann1", .ref a1, .ref a2, .ref a3, .ref a4] : List V) ++ ([.ref b1, .ref b2, .ref b3, .ref b4, v, .ref c1] : List V)))) N = some (.lst (([V.non, .bl true, .bl false, .int 0, .int 1, .int (-1), .int 7, .str "", .str "Ann", .str "abcdefghi", .str "an n", .str "ann\n", .str "ann1", .ref a1, .ref a2, .ref a3, .ref a4] : List V) ++ ([.ref b1, .ref b2, .ref b3, .ref b4, v, .ref c1] : List V))) := upd_same
      generalize upd J19 N (.lst (([V.non, .bl true, .bl false, .int 0, .int 1, .int (-1), .int 7, .str "", .str "Ann", .str "abcdefghi", .str "an n", .str "ann\n", .str "ann1", .ref a1, .ref a2, .ref a3, .ref a4] : List V) ++ ([.ref b1, .ref b2, .ref b3, .ref b4, v, .ref c1] : List V))) = J20 at sJ20 fN ⊢
      replace hv := hv.same sJ20
      replace wa1 := wa1.same sJ20
      replace wa2 := wa2.same sJ20
      replace wa3 := wa3.same sJ20
      replace wa4 := wa4.same sJ20
      replace wb1 := wb1.same sJ20
      replace wb2 := wb2.same sJ20
      replace wb3 := wb3.same sJ20
      replace wb5 := wb5.same sJ20
      replace wb6 := wb6.same sJ20
      replace wb4 := wb4.same sJ20
      replace wb7 := wb7.same sJ20
      replace wb9 := wb9.same sJ20
      replace wb8 := wb8.same sJ20
      replace wc1 := wc1.same sJ20
      replace fL := sJ20 _ _ fL
      replace fM := sJ20 _ _ fM
      replace s1 := s1.trans sJ20
      have hall : ∀ y ∈ (([V.non, .bl true, .bl false, .int 0, .int 1, .int (-1), .int 7, .str "", .str "Ann", .str "abcdefghi", .str "an n", .str "ann\n", .str "ann1", .ref a1, .ref a2, .ref a3, .ref a4] : List V) ++ ([.ref b1, .ref b2, .ref b3, .ref b4, v, .ref c1] : List V)), AnyV J20 y := by
        intro y hy
        simp only [List.cons_append, List.nil_append, List.mem_cons, List.not_mem_nil, or_false] at hy
        rcases hy with rfl | rfl | rfl | rfl | rfl | rfl | rfl | rfl | rfl | rfl | rfl | rfl | rfl | rfl | rfl | rfl | rfl | rfl | rfl | rfl | rfl | rfl | rfl
        · exact anyV_non
        · exact anyV_bl _
        · exact anyV_bl _
        · exact anyV_int _
        · exact anyV_int _
        · exact anyV_int _
        · exact anyV_int _
        · exact anyV_str _ (by decide +kernel)
        · exact anyV_str _ (by decide +kernel)
        · exact anyV_str _ (by decide +kernel)
        · exact anyV_str _ (by decide +kernel)
        · exact anyV_str _ (by decide +kernel)
        · exact anyV_str _ (by decide +kernel)
        · exact wa1
        · exact wa2
        · exact wa3
        · exact wa4
        · exact wb1
        · exact wb2
        · exact wb3
        · exact wb4
        · exact hv
        · exact wc1
      refine ⟨_, rfl, _, rfl, _, rfl, N, _, rfl, .inl (SqL.of fN), st, 23, rfl, by decide, by decide, hst.same s1, fun d n0 z0 hd0 hd1 hn0 hz0 hz1 => ?_⟩
      obtain ⟨n1, z1, est, _⟩ := hst.same s1
      have hlen : (([V.non, .bl true, .bl false, .int 0, .int 1, .int (-1), .int 7, .str "", .str "Ann", .str "abcdefghi", .str "an n", .str "ann\n", .str "ann1", .ref a1, .ref a2, .ref a3, .ref a4] : List V) ++ ([.ref b1, .ref b2, .ref b3, .ref b4, v, .ref c1] : List V)).length = 23 := rfl
      obtain ⟨y, ey⟩ : ∃ y, (([V.non, .bl true, .bl false, .int 0, .int 1, .int (-1), .int 7, .str "", .str "Ann", .str "abcdefghi", .str "an n", .str "ann\n", .str "ann1", .ref a1, .ref a2, .ref a3, .ref a4] : List V) ++ ([.ref b1, .ref b2, .ref b3, .ref b4, v, .ref c1] : List V))[d.toNat]? = some y := ⟨_, List.getElem?_eq_getElem (by rw [hlen]; omega)⟩
      have hy := hall y (List.mem_of_getElem? ey)
      refine ⟨N, _, d, y, rfl, rfl, SqL.of (by rw [upd_ne hNs]; exact fN), ?_, kq y _ ((s1.but st).trans SameBut.set) ⟨n0, z0, upd_same, hn0, hz0, hz1⟩ (hy.but SameBut.set est upd_same)⟩
      have q := atI_nat ey
      rw [show ((d.toNat : Nat) : Int) = d by omega] at q
      exact q
end
end Qp
namespace L2
open PySem PySem.Spec PyProof.Rows
section
variable {X : Cx} {CX : CXT} {k : Nat} {f C : Addr} {fd : FuncData} {ps : List Str} {sp : Sp} {dvs : List V} {ds : List Value} {E : St → XK} {x : Str} {p pos : Pos} {e : Expr} {es : List Expr} {t : TA}
/-- C(..), what is raised wished for at the caller's slots -/
def tMakeS (C : Addr) (sp : Sp) (dvs : List V) (E : St → XK) (t : TA) : TE := fun σ H Q => t σ H fun vs H1 => ∀ x dx, H1 x = none → H1 dx = none → dx ≠ x →
  sp (.ref x :: (vs ++ dvs)) (upd (upd H1 dx (.own x)) x (.ins C dx [])) (fun v H2 => v = .non ∧ Q (.ref x) H2) (E σ)
theorem run_makeS {pins : List (Addr × Obj)} {σ : St} {H : Hp} {s : Shared} {Q : VK} {us : List Value} {vs : List V} (M : Mk X.K C f) (F : FnOk X.prog X.w X.K X.mg X.base CX k f fd ps sp) (hr : Room (k + 1) X.A) (hb : Binds X.K fd ps ds) (hd : Vals dvs ds)
    (hx : ∀ σ, PassesAt CX X σ (E σ)) (I : Inv X pins σ H s) (r : Vals vs us)
    (h : ∀ x dx, H x = none → H dx = none → dx ≠ x → sp (.ref x :: (vs ++ dvs)) (upd (upd H dx (.own x)) x (.ins C dx [])) (fun v H2 => v = .non ∧ Q (.ref x) H2) (E σ)) :
    wpAny (model X.prog X.w) X.A (call (.ref C) us) (EP X pins σ Q) X.xe s := by
  have hq := h (s.heap.objs.size + 1) s.heap.objs.size (I.hok.fresh (Nat.le_succ _)) (I.hok.fresh (Nat.le_refl _)) (Nat.ne_of_lt (Nat.lt_succ_self _))
  have I2 := Inv.made (C := C) I
  have r2 : Vals (V.ref (s.heap.objs.size + 1) :: (vs ++ dvs)) (Value.ref (s.heap.objs.size + 1) :: (us ++ ds)) := .cons rfl (r.append hd)
  have hl : (Value.ref (s.heap.objs.size + 1) :: us ++ ds).length = ps.length := by
    have e := r2.length
    rw [F.len _ _ _ _ hq] at e
    exact e.symm
  refine wpAny_call (make_map (f := f) I.kIn M.makes M.init (beq_iff_eq.mp M.fn) (codeAny_mono (F.run _ X.stack _ _ ⟨Value.ref (s.heap.objs.size + 1) :: us, []⟩ (Value.ref (s.heap.objs.size + 1) :: (us ++ ds)) _ _ (E σ) (hr.make C us [])
    (I2.env0.make C us []) (hb _ (Value.ref (s.heap.objs.size + 1) :: us) I2.kIn hl) r2 hq) fun r s' hq' => ?_))
  cases r with
  | error e => exact hx σ pins _ _ e s' I2 hq'
  | ok fl =>
    cases fl with
    | ret u =>
      obtain ⟨v, H', I3, rv, ev, q3⟩ := I2.after hq'
      subst ev
      exact ⟨rv, ⟨V.ref (s.heap.objs.size + 1), H', I3, rfl, q3⟩⟩
    | next => exact False.elim hq'
    | brk => exact False.elim hq'
    | cont => exact False.elim hq'
theorem pe_makeS (M : Mk X.K C f) (F : FnOk X.prog X.w X.K X.mg X.base CX k f fd ps sp) (hr : Room (k + 1) X.A) (hg : Gl X x) (hm : X.mg x = some (.ref C)) (hb : Binds X.K fd ps ds) (hd : Vals dvs ds) (hx : ∀ σ, PassesAt CX X σ (E σ))
    (ha : PA X (e :: es) t) (hdb : (x == ("__debug__" : Str)) = false := by decide) (he : starEach (e :: es) X.env = (false, eval e X.env) :: starEach es X.env := by rfl) (hpl : (backTo pos (starEach es X.env)).any (·.1) = false := by rfl) :
    PE X (.Call (.Name x p) (e :: es) [] pos) (tMakeS C sp dvs E t) := by
  refine ⟨fun pins s σ H Q I h => ?_⟩
  refine wpAny_Call_Name_kw (ld_glob I hg hm ?_ hdb)
  refine PySem.W.callWith_K (h₀ := X.base) I.ok.mod.kin M.kp (thn (ha.run pos pins s σ H _ I h) fun us s1 ⟨vs, H1, I1, r, q⟩ => ⟨I1.kIn, ?_⟩) he hpl
  exact run_makeS M F hr hb hd hx I1 r q
end
end L2
namespace Qp
open PySem L2
theorem TupOf.same {H H' : Hp} (s : Same H H') {x : V} {o : Option (List V)} (h : TupOf H x o) : TupOf H' x o := by
  obtain ⟨k, ik, q⟩ := h
  refine ⟨k, ik.same s, ?_⟩
  cases o with
  | none => exact q
  | some xs =>
    obtain ⟨a, e, h, g, l⟩ := q
    exact ⟨a, e, s _ _ h, fun y hy => (g y hy).same s, l⟩
theorem _root_.L2.IsK.butL {H H' : Hp} {d : Addr} (s : SameBut d H H') {k1 k2 : List V} (hd : H d = some (.lst k1)) (hd' : H' d = some (.lst k2)) {v : V} {k : Kd} (ik : IsK H v k) : IsK H' v k := by
  cases ik with
  | non => exact .non
  | bl b => exact .bl b
  | int i => exact .int i
  | str z => exact .str z
  | @lst a xs h =>
    by_cases ha : a = d
    · rw [ha]; exact .lst hd'
    · exact .lst (s _ _ ha h)
  | @tup a xs h => exact .tup (s _ _ (ne_of h hd (by intro z; cases z)) h)
  | @dct a xs h => exact .dct (s _ _ (ne_of h hd (by intro z; cases z)) h)
theorem AnyV.butL {H H' : Hp} {d : Addr} (s : SameBut d H H') {k1 k2 : List V} (hd : H d = some (.lst k1)) (hd' : H' d = some (.lst k2)) {v : V} (h : AnyV H v) : AnyV H' v := by
  obtain ⟨k, ik, hz, ht⟩ := h
  refine ⟨k, ik.butL s hd hd', hz, fun e => ?_⟩
  obtain ⟨a, zs, e1, e2, e3⟩ := ht e
  exact ⟨a, zs, e1, s _ _ (ne_of e2 hd (by intro z; cases z)) e2, e3⟩
theorem _root_.L2.GoodE.butL {H H' : Hp} {d : Addr} (s : SameBut d H H') {k1 k2 : List V} (hd : H d = some (.lst k1)) (hd' : H' d = some (.lst k2)) {v : V} (h : GoodE H v) : GoodE H' v := by
  obtain ⟨⟨k, ik⟩, hz⟩ := h
  exact ⟨⟨k, ik.butL s hd hd'⟩, hz⟩
theorem AnyV.tupOf {H : Hp} {v : V} (h : AnyV H v) : ∃ o, TupOf H v o := by
  obtain ⟨k, ik, hz, ht⟩ := h
  by_cases e : k = .tup
  · obtain ⟨a, zs, e1, e2, hl, hz2⟩ := ht e
    refine ⟨some (zs.map V.str), k, ik, a, e1, e2, fun y hy => ?_, by rw [List.length_map]; omega⟩
    obtain ⟨z, hz3, rfl⟩ := List.mem_map.mp hy
    exact GoodE.str (hz2 z hz3)
  · exact ⟨none, k, ik, e⟩
theorem nameS_len {z : Str} (h : nameS z = true) : z.length ≤ 1000 := by
  unfold nameS at h
  rw [Bool.and_eq_true, Bool.and_eq_true] at h
  have := of_decide_eq_true h.1.2
  omega
theorem okW_nil {ps : List Str} {p : Str} : okW ps p (some []) = true := by
  show decide (vOpt none = .non) = true
  exact decide_eq_true rfl
theorem hasB_rows {ad : Str → Addr} {ps : List Str} : hasB (ps.map fun a => ((Sum.inr a : Key), V.ref (ad a))) ps = true := by
  unfold hasB
  rw [decide_eq_true (by rw [List.length_map]), Bool.true_and, List.all_eq_true]
  intro z hz
  rw [valV_rows hz]
  rfl
theorem ixN_of {n : Nat} {d : Int} (h0 : 0 ≤ d) (h1 : d < n) : ixN n d = some d.toNat := by
  unfold ixN
  rw [if_pos h0, if_pos h1]
end Qp
namespace Qp
open PySem L2
abbrev nLaw : List Str := ["_law_script", "_law_state", "_law_spoil", "_law_names_here", "_law_other", "_law_people", "_law_due_here", "_law_wishes", "_law_a", "_law_told", "_law_shown", "_law_group", "e"]
section
variable {P : Program} {w : World} {K : PySem.W.Frag} {mg : Str → Option Value} {base : Heap}
/-- law(script) -/
def spLaw (K : PySem.W.Frag) : Sp := fun vs H Q _ => ∃ (a : Addr) (ns : List Int), vs = [.ref a] ∧ SqL K H a (ns.map V.int) ∧ ns.length ≤ 63 ∧ ∀ H', Q (.bl true) H'
/-- what the law calls -/
structure LawT (P : Program) (w : World) (K : PySem.W.Frag) (mg : Str → Option Value) (base : Heap) (C CB CW fB fG fP : Addr) : Prop where
  cell : CF P w K mg base CX0 1 "_law_cell" ["_law_script", "_law_k"] (spCell K)
  take : CF P w K mg base CX0 1 "_law_take" ["_law_state", "_law_many"] spTake
  names : CF P w K mg base CX0 3 "_law_names" ["_law_state", "_law_many"] spNames
  val : CF P w K mg base CX0 2 "_law_value" ["_law_state"] spVal
  due : CF P w K mg base CX0 2 "_law_due" ["_law_people"] spDue
  int : CF P w K mg base CX0 1 "_law_is_integer" ["_law_actual"] spInt
  row : CF P w K mg base CX0 1 "_law_row" ["_law_actual", "_law_due_here"] spRow
  bp : PySem.QX.OwnTxt P K mg "BadPeople" "index" CB fB
  g : GTxt K mg C
  mkG : Mk K C fG
  gi : ∃ fd, FnOk P w K mg base (L2.CX P w) 4 fG fd ["self", "people", "wishes"] (spGI C CB CW) ∧ Binds K fd ["self", "people", "wishes"] []
  mp : Meth K C "people" fP
  pp : ∃ fd, FnOk P w K mg base CX0 1 fP fd ["self"] (spPeople C) ∧ Binds K fd ["self"] []
/-- the wishes that the law has laid -/
def Wsh (H : Hp) (wd : Addr) (o : Option (List V)) : Prop := (∃ i, dueP o = some i ∧ H wd = some (.dK [])) ∨ (dueP o = none ∧ ∃ ps : List Str, o = some (ps.map V.str) ∧ ps.Nodup ∧ (∀ z ∈ ps, nameS z = true) ∧ ps.length ≤ 16 ∧ RowsG H wd ps fun _ => lstO [])
section
variable {C CB CW fB fG fP : Addr} {f : Addr} {cdv : Value} {A : Around} {outer : List Env} {s : Shared} {H0 : Hp} {E0' : XK} {Q : VK}
theorem law_end (T : LawT P w K mg base C CB CW fB fG fP) (B : Bl mg) (hr : Room 5 (A.deeper (PyProof.Rows.envOfC "law" (defScope slaw) s.heap.objs.size f cdv))) (kq : ∀ H', Q (.bl true) H') :
    ∃ t, PSs (cxOf CX0 P w K mg base nLaw "law" (defScope slaw) f cdv A outer s H0 E0').nox ((defBody slaw).drop 12) t ∧
      ∀ (H : Hp) (v0 v1 v2 v3 v4 va : Option V) (x : V) (o : Option (List V)) (wd : Addr), TupOf H x o → Wsh H wd o →
        t { nx := fun _ H' => Q .non H', rt := Q } [v0, v1, v2, v3, v4, some x, some (vInt (dueP o)), some (.ref wd), va, none, none, none, none] H := by
  have hr1 : Room 1 _ := hr.mono (by decide)
  obtain ⟨fdG, FG, bG⟩ := T.gi
  obtain ⟨fdP, FP, bP⟩ := T.pp
  refine ⟨_, pss_cons (ps_set (i := 9) sclaw.nd rfl (Or.inl rfl) pe_non)
    (pss_cons (ps_set (i := 10) sclaw.nd rfl (Or.inl rfl) pe_non)
    (pss_cons (ps_try_as (i := 12) (tb := fun W => tSeq (tAsg (tMakeS C (spGI C CB CW) [] (WE W) (tCons (tVar 5) (tCons (tVar 7) tNil))) (gName 11)) (tAsg (tMeth C "people" (spPeople C) [] E0 (tVar 11) tNil) (gName 10)))
        (ts := fun a cls d => tAsg (tByOwn CB "index" a cls d (tVar 12)) (gName 9)) (Wout := fun _ _ _ _ => False) rfl rfl sclaw.nd rfl rfl ⟨rfl, by decide, Or.inl T.bp.gC⟩ takes0
        (fun W pn xe tk _ => pss_cons (ps_set (i := 11) sclaw.nd rfl (Or.inl rfl) (by exact (pe_makeS T.mkG FG hr rfl T.g.mgC bG .nil (fun σ => passAt tk σ) (by exact (pa_cons (pv 5) (pa_cons (pv 7) pa_nil))))))
          (pss_one (ps_set (i := 10) sclaw.nd rfl (Or.inl rfl) (by exact (pe_meth0 (pv 11) T.g.cl T.mp FP hr1 bP .nil pass0)))))
        (fun a oe cls d pn hz hf => pss_one (ps_set (i := 9) sclaw.nd rfl (Or.inl rfl) (by exact (pe_byOwn T.bp hz hf (pv 12))))))
    (pss_cons (ps_if (pt_cmp (pc_isN (pv 6))) (pss_one (ps_ret (pe_and (pe_cmp (pc_isN (pv 9))) (pe_one (pe_cf T.row hr1 pass0 (pa_cons (pv 10) (pa_cons (pe_callTy call_list_of (by rfl) B.lst (by decide +kernel) (pa_cons (pv 5) pa_nil)) pa_nil))))))) pss_nil)
    (pss_one (ps_ret (pe_and (pe_cmp (pc_isN (pv 10))) (pe_and (pe_cf T.int hr1 pass0 (pa_cons (pv 9) pa_nil)) (pe_one (pe_cmpR op_eq (pv 9) (pv 6) (nomark _))))))))))  , ?_⟩
  rintro H v0 v1 v2 v3 v4 va x o wd hx hW
  refine ⟨_, rfl, _, rfl, fun p dx hp hdx hne => ?_⟩
  have sP : Same H (upd (upd H dx (.own p)) p (.ins C dx [])) := fun b o e => by
    rw [upd_ne (ne_of_none e hp), upd_ne (ne_of_none e hdx)]
    exact e
  have hpp : (upd (upd H dx (.own p)) p (.ins C dx [])) p = some (.ins C dx []) := upd_same
  generalize (upd (upd H dx (.own p)) p (.ins C dx [])) = H1 at sP hpp
  have hwd : ∃ kvs, H1 wd = some (.dK kvs) := by
    rcases hW with ⟨i, _, h⟩ | ⟨_, ps, _, _, _, _, ad, h, _⟩
    · exact ⟨_, sP _ _ h⟩
    · exact ⟨_, sP _ _ h⟩
  obtain ⟨kw, hkw⟩ := hwd
  refine ⟨p, dx, x, .ref wd, o, .dct, rfl, hpp, hx.same sP, .dct hkw, fun i hi d H2 s2 e2 => ?_, fun a ps hdue ho hxa hnd hnm hl16 => ⟨fun hk => absurd rfl hk, fun d kvs ed hd => ?_⟩⟩
  · -- BadPeople
    refine ⟨true, T.bp.te, fun _ a0 _ => ?_, fun q => Bool.noConfusion q⟩
    refine ⟨_, rfl, rfl, rfl, d, _, rfl, e2, ?_⟩
    rw [hi]
    refine ⟨_, rfl, _, rfl, ?_⟩
    refine (if_neg (by show ¬ (decide (V.int i = V.non) = true); rw [decide_eq_false (by intro z; cases z)]; decide)).mpr ?_
    refine ⟨_, rfl, _, rfl, (if_pos (by show decide (V.non = V.non) = true; exact decide_eq_true rfl)).mpr ?_⟩
    refine ⟨_, rfl, .int i, .int, rfl, .int i, _, rfl, iteT ⟨_, rfl, _, rfl, rfl, ?_⟩⟩
    have e9 : decide (V.int i = vInt (some i)) = true := decide_eq_true rfl
    rw [e9]
    exact kq _
  · cases ed
    rcases hW with ⟨i, hi, _⟩ | ⟨_, ps', ho', _, _, _, hR⟩
    · rw [hi] at hdue
      cases hdue
    · obtain rfl : ps = ps' := by
        have e : ps.map V.str = ps'.map V.str := Option.some.inj (ho.symm.trans ho')
        have := congrArg (fun l => unS (some l)) e
        rw [unS_map, unS_map] at this
        exact this
      obtain ⟨ad, hR1, hR2⟩ := hR.same sP
      have ek : kvs = ps.map fun a => ((Sum.inr a : Key), V.ref (ad a)) := by
        rw [hR1] at hd
        cases hd
        rfl
      subst ek
      refine ⟨fun e => ?_, fun _ => ⟨fun _ => some [], fun q hq => ⟨_, valV_rows hq, .lst, .lst (hR2 q hq).1, ad q, rfl, (hR2 q hq).1, (fun y hy => by cases hy)⟩, fun _ ws H2 hws hw2 sb hG => ⟨rfl, ?_⟩, fun ys pre post q _ _ _ _ hq => ?_⟩⟩
      · rw [hasB_rows] at e
        cases e
      · -- made
        obtain ⟨dx2, a2, d1, d2, d3, hp2, ha2, hr2⟩ := hG
        refine ⟨_, rfl, p, dx2, gF a2 d1 d2 d3, rfl, hp2, gF_no _ _ _ _ (by decide +kernel) (by decide +kernel) (by decide +kernel) (by decide +kernel), p, ps, ws, rfl, ⟨dx2, a2, d1, d2, d3, hp2, ha2, hr2⟩, fun l hl => ?_⟩
        rw [hdue]
        have hxH : ∃ a1, x = .ref a1 ∧ H a1 = some (.tup (ps.map V.str)) := by
          obtain ⟨k, _, q⟩ := hx
          rw [ho] at q
          obtain ⟨a1, e1, e3, _⟩ := q
          exact ⟨a1, e1, e3⟩
        obtain ⟨a1, rfl, ha1⟩ := hxH
        have n1 : a1 ≠ p := ne_of_none ha1 hp
        have h3 : (upd H2 l (.lst (ps.map V.str))) a1 = some (.tup (ps.map V.str)) := by
          have q := sb _ _ n1 (sP _ _ ha1)
          rw [upd_ne (ne_of_none q hl)]
          exact q
        have h4 : (upd H2 l (.lst (ps.map V.str))) l = some (.lst (ps.map V.str)) := upd_same
        refine ⟨_, rfl, _, rfl, (if_pos (by show decide (V.non = V.non) = true; exact decide_eq_true rfl)).mpr ?_⟩
        refine ⟨_, rfl, _, rfl, (if_pos (by show decide (V.non = V.non) = true; exact decide_eq_true rfl)).mpr ?_⟩
        refine ⟨_, rfl, _, rfl, a1, _, rfl, .inr (SqT.of h3), fun m hm => ?_⟩
        refine ⟨l, m, ps, rfl, ?_, upd_same, hnm, kq _⟩
        rw [upd_ne (ne_of_none h4 hm)]
        exact h4
      · rw [okW_nil] at hq
        cases hq
end
end
end Qp
namespace Qp
open PySem L2
section
variable {P : Program} {w : World} {K : PySem.W.Frag} {mg : Str → Option Value} {base : Heap}
variable {C CB CW fB fG fP : Addr} {f : Addr} {cdv : Value} {A : Around} {outer : List Env} {s : Shared} {H0 : Hp} {E0' : XK} {Q : VK}
theorem law_mid (T : LawT P w K mg base C CB CW fB fG fP) (B : Bl mg) (hr : Room 5 (A.deeper (PyProof.Rows.envOfC "law" (defScope slaw) s.heap.objs.size f cdv))) (kq : ∀ H', Q (.bl true) H') :
    ∃ t, PSs (cxOf CX0 P w K mg base nLaw "law" (defScope slaw) f cdv A outer s H0 E0').nox ((defBody slaw).drop 9) t ∧
      ∀ (H : Hp) (v0 v1 v2 v3 v4 : Option V) (x : V) (o : Option (List V)), TupOf H x o →
        t { nx := fun _ H' => Q .non H', rt := Q } [v0, v1, v2, v3, v4, some x, none, none, none, none, none, none, none] H := by
  obtain ⟨tE, pE, qE⟩ := law_end (outer := outer) (H0 := H0) (E0' := E0') T B hr kq
  have hr2 : Room 2 _ := hr.mono (by decide)
  have hu := hu_of hr
  have esz : sizeLine = 16777216 := sizeLine_eq
  refine ⟨_, pss_cons (ps_set (i := 6) sclaw.nd rfl (Or.inl rfl) (pe_cf T.due hr2 pass0 (pa_cons (pv 5) pa_nil)))
    (pss_cons (ps_set (i := 7) sclaw.nd rfl (Or.inl rfl) pe_dnewK)
    (pss_cons (ps_if (pt_cmp (pc_isN (pv 6))) (pss_one (ps_for PassesOwn.never rfl (pi_tup (pv 5)) (pg_name (i := 8) sclaw.nd rfl (Or.inl rfl)) (pss_one (ps_dput hu (pv 7) (pv 8) (pe_lst pa_nil) rfl)))) pss_nil)
    pE)), ?_⟩
  rintro H v0 v1 v2 v3 v4 x o hx
  refine ⟨_, rfl, x, o, rfl, hx, fun H1 s1 wd hwd => ?_⟩
  have s2 : Same H1 (upd H1 wd (.dK [])) := Same.new hwd
  have ew : (upd H1 wd (.dK [])) wd = some (.dK []) := upd_same
  generalize upd H1 wd (.dK []) = H2 at s2 ew
  have hx2 := (hx.same s1).same s2
  cases hd : dueP o with
  | some i =>
    refine ⟨_, rfl, _, rfl, (if_neg (by show ¬ (decide (V.int i = V.non) = true); rw [decide_eq_false (by intro z; cases z)]; decide)).mpr ?_⟩
    have q := qE H2 v0 v1 v2 v3 v4 none x o wd hx2 (.inl ⟨i, hd, ew⟩)
    rw [hd] at q
    exact q
  | none =>
    refine ⟨_, rfl, _, rfl, (if_pos (by show decide (V.non = V.non) = true; exact decide_eq_true rfl)).mpr ?_⟩
    cases o with
    | none => cases hd
    | some xs =>
      obtain ⟨ps, rfl, hnd, hnm, hl16⟩ := due_none hd
      obtain ⟨k, ik, a, rfl, ha, hg, hl⟩ := hx
      have ha2 := s2 _ _ (s1 _ _ ha)
      refine ⟨_, rfl, a, rfl, ⟨_, SqT.of ha2⟩, for_it walk_tup (fun i σ H' => ∃ va : Option V, σ = [v0, v1, v2, v3, v4, some (.ref a), some .non, some (.ref wd), va, none, none, none, none] ∧ Same H1 H' ∧ H' a = some (.tup (ps.map V.str)) ∧ RowsG H' wd (ps.take i) (fun _ => lstO []))
        ⟨none, rfl, s2, ha2, RowsG.nil ew⟩ (fun i σ H' _ ⟨_, _, _, hz, _⟩ => SqT.of hz) ?_ ?_⟩
      · rintro i y σ Hx H3 hi ⟨va, rfl, s3, ha3, R3⟩ ⟨rfl, hy⟩
        rw [List.length_map] at hi
        rw [List.getElem?_map] at hy
        cases ey : ps[i]? with
        | none => rw [ey] at hy; cases hy
        | some q =>
          rw [ey] at hy
          cases hy
          refine ⟨by show 0 ≤ sizeLine; exact Nat.zero_le _, fun L hL => ?_⟩
          have hLD : L ≠ wd := by
            obtain ⟨ad2, e2, _⟩ := R3
            intro z
            rw [z, e2] at hL
            cases hL
          obtain ⟨kv2, h1, h2, h3⟩ := R3.snoc (Same.new (o := .lst []) hL) (not_mem_take hnd ey) (p := L) upd_same hLD
          refine ⟨_, rfl, _, rfl, wd, _, rfl, DPut.k (k := Sum.inr q) h1 (by rw [h2, List.length_take]; omega), _, rfl, fun b o e => ?_, ?_, ?_⟩
          · rw [upd_ne (ne_of_none e hwd), upd_ne (ne_of_none (s3 _ _ e) hL)]
            exact s3 _ _ e
          · have n1 : a ≠ wd := ne_of_none (s1 _ _ ha) hwd
            rw [upd_ne n1, upd_ne (ne_of_none ha3 hL)]
            exact ha3
          · rw [take_snoc ey]
            exact h3
      · rintro σ H3 ⟨va, rfl, s3, ha3, R3⟩
        rw [List.length_map, List.take_of_length_le (Nat.le_refl _)] at R3
        have q := qE H3 v0 v1 v2 v3 v4 va (.ref a) (some (ps.map V.str)) wd ⟨.tup, .tup ha3, a, rfl, ha3, fun y hy => (hg y hy).same (s1.trans s3), hl⟩ (.inr ⟨hd, ps, rfl, hnd, hnm, hl16, R3⟩)
        rw [hd] at q
        exact q
end
end Qp
namespace Qp
open PySem L2
section
variable {P : Program} {w : World} {K : PySem.W.Frag} {mg : Str → Option Value} {base : Heap}
variable {C CB CW fB fG fP : Addr} {f : Addr} {cdv : Value} {A : Around} {outer : List Env} {s : Shared} {H0 : Hp} {E0' : XK} {Q : VK}
theorem law_people (T : LawT P w K mg base C CB CW fB fG fP) (B : Bl mg) (hr : Room 5 (A.deeper (PyProof.Rows.envOfC "law" (defScope slaw) s.heap.objs.size f cdv))) (kq : ∀ H', Q (.bl true) H') :
    ∃ t, PSs (cxOf CX0 P w K mg base nLaw "law" (defScope slaw) f cdv A outer s H0 E0').nox ((defBody slaw).drop 6) t ∧
      ∀ (H : Hp) (v0 v1 : Option V) (n : Int) (p : Addr) (xs : List V) (x : V), H p = some (.lst xs) → (∀ y ∈ xs, GoodE H y) → xs.length ≤ 1000 → AnyV H x →
        t { nx := fun _ H' => Q .non H', rt := Q } [v0, v1, some (.int n), some (.ref p), some x, none, none, none, none, none, none, none, none] H := by
  obtain ⟨tD, pD, qD⟩ := law_mid (outer := outer) (H0 := H0) (E0' := E0') T B hr kq
  have esz : sizeLine = 16777216 := sizeLine_eq
  refine ⟨_, pss_cons (ps_set (i := 5) sclaw.nd rfl (Or.inl rfl) (pe_callTy call_tuple_of (by rfl) B.tup (by decide +kernel) (pa_cons (pv 3) pa_nil)))
    (pss_cons (ps_if (pt_cmpR op_eq (pv 2) pe_int (nomark _)) (pss_one (ps_set (i := 5) sclaw.nd rfl (Or.inl rfl) (pv 4))) pss_nil)
    (pss_cons (ps_if (pt_cmpR op_eq (pv 2) pe_int (nomark _)) (pss_one (ps_set (i := 5) sclaw.nd rfl (Or.inl rfl) (pe_callTy call_list_of (by rfl) B.lst (by decide +kernel) (pa_cons (pv 3) pa_nil)))) pss_nil)
    pD)), ?_⟩
  rintro H v0 v1 n p xs x hp hg hl hx
  refine ⟨_, rfl, p, xs, rfl, .inl ⟨SqL.of hp, fun L hL => ?_⟩⟩
  have s1 : Same H (upd H L (.tup xs)) := Same.new hL
  have eL : (upd H L (.tup xs)) L = some (.tup xs) := upd_same
  generalize upd H L (.tup xs) = H1 at s1 eL
  have last : ∀ (y : V) (o : Option (List V)), TupOf H1 y o → tIfS (tTest (tOp rEq (tVar 2) (tC (.int 5)))) (tAsg (tCB (fun xs H Q => ∃ p ys, xs = [V.ref p] ∧ (SqL K H p ys ∨ SqT K H p ys) ∧ ∀ l, H l = none → Q (.ref l) (upd H l (.lst ys))) (tCons (tVar 3) tNil)) (gName 5)) tNext
      { nx := tD { nx := fun _ H' => Q .non H', rt := Q }, rt := Q } [v0, v1, some (.int n), some (.ref p), some x, some y, none, none, none, none, none, none, none] H1 := by
    intro y o hy
    refine ⟨_, rfl, rfl, _, rfl, ite2 (fun _ => ?_) (fun _ => ?_)⟩
    · refine ⟨_, rfl, p, xs, rfl, .inl (SqL.of (s1 _ _ hp)), fun M hM => ?_⟩
      exact qD _ v0 v1 _ _ _ (.ref M) none ⟨.lst, .lst upd_same, by show Kd.lst ≠ Kd.tup; decide⟩
    · exact qD _ v0 v1 _ _ _ y o hy
  refine ⟨_, rfl, rfl, _, rfl, ite2 (fun _ => ?_) (fun _ => ?_)⟩
  · obtain ⟨o, ho⟩ := (hx.same s1).tupOf
    exact ⟨_, rfl, last x o ho⟩
  · exact last (.ref L) (some xs) ⟨.tup, .tup eL, L, rfl, eL, fun y hy => (hg y hy).same s1, hl⟩
end
end Qp
namespace Qp
open PySem L2
theorem goodE_set {H : Hp} {xs : List V} {j : Nat} {v : V} (h : ∀ y ∈ xs, GoodE H y) (hv : GoodE H v) : ∀ y ∈ xs.set j v, GoodE H y := fun y hy => by
  rcases List.mem_or_eq_of_mem_set hy with h1 | h1
  · exact h y h1
  · rw [h1]; exact hv
theorem _root_.L2.StAt.but {H H' : Hp} {p st : Addr} (s : SameBut p H H') (n : st ≠ p) (h : StAt H st) : StAt H' st := by
  obtain ⟨m, z, e, r⟩ := h
  exact ⟨m, z, s _ _ n e, r⟩
section
variable {P : Program} {w : World} {K : PySem.W.Frag} {mg : Str → Option Value} {base : Heap}
variable {C CB CW fB fG fP : Addr} {f : Addr} {cdv : Value} {A : Around} {outer : List Env} {s : Shared} {H0 : Hp} {E0' : XK} {Q : VK}
/-- the drawn names, spoilt or not -/
def Drawn (H : Hp) (st p : Addr) (xs : List V) (x : V) : Prop := StAt H st ∧ H p = some (.lst xs) ∧ p ≠ st ∧ (∀ y ∈ xs, GoodE H y) ∧ xs.length ≤ 18 ∧ AnyV H x
theorem Drawn.step {H H' : Hp} {st p : Addr} {xs : List V} {x : V} (h : Drawn H st p xs x) (s : SameBut st H H') (h' : StAt H' st) : Drawn H' st p xs x := by
  obtain ⟨⟨n, z, e, _⟩, hp, hn, hg, hl, hx⟩ := h
  have h2 := h'
  obtain ⟨n2, z2, e2, _⟩ := h2
  exact ⟨h', s _ _ hn hp, hn, fun y hy => (hg y hy).butL s e e2, hl, hx.butL s e e2⟩
theorem Drawn.set {H : Hp} {st p : Addr} {xs : List V} {x y : V} (h : Drawn H st p xs x) (hy : GoodE H y) (j : Nat) : Drawn (upd H p (.lst (xs.set j y))) st p (xs.set j y) x := by
  obtain ⟨hs, hp, hn, hg, hl, hx⟩ := h
  have sb : SameBut p H (upd H p (.lst (xs.set j y))) := SameBut.set
  exact ⟨hs.but sb (Ne.symm hn), upd_same, hn, fun z hz => (goodE_set hg hy z hz).butL sb hp upd_same, by rw [List.length_set]; exact hl, hx.butL sb hp upd_same⟩
theorem law_spoil2 (T : LawT P w K mg base C CB CW fB fG fP) (B : Bl mg) (hr : Room 5 (A.deeper (PyProof.Rows.envOfC "law" (defScope slaw) s.heap.objs.size f cdv))) (kq : ∀ H', Q (.bl true) H') :
    ∃ t, PSs (cxOf CX0 P w K mg base nLaw "law" (defScope slaw) f cdv A outer s H0 E0').nox ((defBody slaw).drop 5) t ∧
      ∀ (H : Hp) (v0 : Option V) (n : Int) (st p : Addr) (xs : List V) (x : V), Drawn H st p xs x →
        t { nx := fun _ H' => Q .non H', rt := Q } [v0, some (.ref st), some (.int n), some (.ref p), some x, none, none, none, none, none, none, none, none] H := by
  obtain ⟨tC, pC, qC⟩ := law_people (outer := outer) (H0 := H0) (E0' := E0') T B hr kq
  have hr1 : Room 1 _ := hr.mono (by decide)
  have esz : sizeLine = 16777216 := sizeLine_eq
  refine ⟨_, pss_cons (ps_if (PW.pt (pw_and (pt_cmpR op_gt (pv 2) pe_int (nomark _)) (pw_and1 (pt_truth (pv 3) (by intro _; rfl)))))
      (pss_one (ps_asg (pe_ix ix_list (pv 3) (pe_cf T.take hr1 pass0 (pa_cons (pv 1) (pa_cons (pe_callB call_len_seq (by rfl) B.len PySem.boot_len (pa_cons (pv 3) pa_nil)) pa_nil))) (fun _ _ => rfl))
        (pg_sub (pv 3) (pe_cf T.take hr1 pass0 (pa_cons (pv 1) (pa_cons (pe_callB call_len_seq (by rfl) B.len PySem.boot_len (pa_cons (pv 3) pa_nil)) pa_nil))) set_list))) pss_nil)
    pC, ?_⟩
  rintro H v0 n st p xs x hD
  have qC' : ∀ (H : Hp) (xs : List V), Drawn H st p xs x → tC { nx := fun _ H' => Q .non H', rt := Q } [v0, some (.ref st), some (.int n), some (.ref p), some x, none, none, none, none, none, none, none, none] H := fun H xs h =>
    qC H v0 _ n p xs x h.2.1 h.2.2.2.1 (by have := h.2.2.2.2.1; omega) h.2.2.2.2.2
  have hD0 := hD
  obtain ⟨hst, hp, hn, hg, hl, hx⟩ := hD
  refine ⟨_, rfl, _, _, rfl, rfl, _, rfl, ite2 (fun _ => ?_) (fun _ => iteF (qC' H xs hD0))⟩
  refine ⟨_, rfl, _, .inl ⟨xs, SqL.of hp, rfl⟩, ?_⟩
  cases exs : xs with
  | nil =>
    rw [← exs]
    have q := qC' H xs hD0
    exact (if_neg (by rw [exs]; decide)).mpr q
  | cons x0 xr =>
    rw [← exs]
    have hpos : 0 < xs.length := by rw [exs]; exact Nat.succ_pos _
    refine (if_pos (by rw [exs]; rfl)).mpr ?_
    refine ⟨_, rfl, _, rfl, _, rfl, p, _, rfl, .inl (SqL.of hp), st, xs.length, rfl, by omega, by omega, hst, fun d n1 z1 hd0 hd1 a1 a2 a3 => ?_⟩
    have sb : SameBut st H (upd H st (.lst [.int n1, .int z1])) := SameBut.set
    have D1 := hD0.step sb ⟨n1, z1, upd_same, a1, a2, a3⟩
    generalize upd H st (.lst [.int n1, .int z1]) = H1 at sb D1
    obtain ⟨y, ey⟩ : ∃ y, xs[d.toNat]? = some y := ⟨_, List.getElem?_eq_getElem (by omega)⟩
    refine ⟨p, xs, d, y, rfl, rfl, SqL.of D1.2.1, ?_, ?_⟩
    · have q := atI_nat ey
      rw [show ((d.toNat : Nat) : Int) = d by omega] at q
      exact q
    refine ⟨_, rfl, _, rfl, _, rfl, p, _, rfl, .inl (SqL.of D1.2.1), st, xs.length, rfl, by omega, by omega, D1.1, fun d2 n2 z2 hd2 hd3 b1 b2 b3 => ?_⟩
    have sb2 : SameBut st H1 (upd H1 st (.lst [.int n2, .int z2])) := SameBut.set
    have D2 := D1.step sb2 ⟨n2, z2, upd_same, b1, b2, b3⟩
    generalize upd H1 st (.lst [.int n2, .int z2]) = H2 at sb2 D2
    exact ⟨p, xs, d2, d2.toNat, rfl, rfl, D2.2.1, ixN_of hd2 hd3, qC' _ _ (D2.set (D2.2.2.2.1 y (List.mem_of_getElem? ey)) _)⟩
theorem law_spoil (T : LawT P w K mg base C CB CW fB fG fP) (B : Bl mg) (hr : Room 5 (A.deeper (PyProof.Rows.envOfC "law" (defScope slaw) s.heap.objs.size f cdv))) (kq : ∀ H', Q (.bl true) H') :
    ∃ t, PSs (cxOf CX0 P w K mg base nLaw "law" (defScope slaw) f cdv A outer s H0 E0').nox ((defBody slaw).drop 4) t ∧
      ∀ (H : Hp) (v0 : Option V) (n : Int) (st p : Addr) (xs : List V) (x : V), Drawn H st p xs x →
        t { nx := fun _ H' => Q .non H', rt := Q } [v0, some (.ref st), some (.int n), some (.ref p), some x, none, none, none, none, none, none, none, none] H := by
  obtain ⟨tC, pC, qC⟩ := law_spoil2 (outer := outer) (H0 := H0) (E0' := E0') T B hr kq
  have hr1 : Room 1 _ := hr.mono (by decide)
  refine ⟨_, pss_cons (ps_if (PW.pt (pw_and (pt_cmpR op_gt (pv 2) pe_int (nomark _)) (pw_and1 (pt_truth (pv 3) (by intro _; rfl)))))
      (pss_one (ps_asg (pv 4) (pg_sub (pv 3) (pe_cf T.take hr1 pass0 (pa_cons (pv 1) (pa_cons (pe_callB call_len_seq (by rfl) B.len PySem.boot_len (pa_cons (pv 3) pa_nil)) pa_nil))) set_list))) pss_nil)
    pC, ?_⟩
  rintro H v0 n st p xs x hD
  have hD0 := hD
  obtain ⟨hst, hp, hn, hg, hl, hx⟩ := hD
  refine ⟨_, rfl, _, _, rfl, rfl, _, rfl, ite2 (fun _ => ?_) (fun _ => iteF (qC H v0 n st p xs x hD0))⟩
  refine ⟨_, rfl, _, .inl ⟨xs, SqL.of hp, rfl⟩, ?_⟩
  cases exs : xs with
  | nil =>
    rw [← exs]
    have q := qC H v0 n st p xs x hD0
    exact (if_neg (by rw [exs]; decide)).mpr q
  | cons x0 xr =>
    rw [← exs]
    have hpos : 0 < xs.length := by rw [exs]; exact Nat.succ_pos _
    refine (if_pos (by rw [exs]; rfl)).mpr ?_
    refine ⟨_, rfl, _, rfl, _, rfl, _, rfl, p, _, rfl, .inl (SqL.of hp), st, xs.length, rfl, by omega, by omega, hst, fun d n1 z1 hd0 hd1 a1 a2 a3 => ?_⟩
    have sb : SameBut st H (upd H st (.lst [.int n1, .int z1])) := SameBut.set
    have D1 := hD0.step sb ⟨n1, z1, upd_same, a1, a2, a3⟩
    generalize upd H st (.lst [.int n1, .int z1]) = H1 at sb D1
    exact ⟨p, xs, d, d.toNat, rfl, rfl, D1.2.1, ixN_of hd0 hd1, qC _ v0 n st p _ x (D1.set D1.2.2.2.2.2.good _)⟩
end
section
variable {P : Program} {w : World} {K : PySem.W.Frag} {mg : Str → Option Value} {base : Heap} {C CB CW fB fG fP f : Addr}
theorem ok_law {fd : FuncData} (F : Fun K "law" "law" slaw f fd) (B : Bl mg) (T : LawT P w K mg base C CB CW fB fG fP) : FnOk P w K mg base CX0 6 f fd ["_law_script"] (spLaw K) := by
  refine F.ok sclaw (fun vs H Q E h => ?_) (fun cdv A outer s H vs Q E hr h => ?_)
  · obtain ⟨a, ns, rfl, _⟩ := h
    rfl
  · obtain ⟨a, ns, rfl, ha, hl, kq⟩ := h
    obtain ⟨tB, pB, qB⟩ := law_spoil (outer := outer) (H0 := H) (E0' := E) T B hr kq
    have hr1 : Room 1 _ := hr.mono (by decide)
    have hr2 : Room 2 _ := hr.mono (by decide)
    have hr3 : Room 3 _ := hr.mono (by decide)
    refine ⟨_, pss_cons (ps_set (i := 1) sclaw.nd rfl (Or.inl rfl) (pe_cf T.cell hr1 pass0 (pa_cons (pv 0) (pa_cons pe_int pa_nil))))
      (pss_cons (ps_set (i := 2) sclaw.nd rfl (Or.inl rfl) (pe_cf T.take hr1 pass0 (pa_cons (pv 1) (pa_cons pe_int pa_nil))))
      (pss_cons (ps_set (i := 3) sclaw.nd rfl (Or.inl rfl) (pe_cf T.names hr3 pass0 (pa_cons (pv 1) (pa_cons (pe_cf T.take hr1 pass0 (pa_cons (pv 1) (pa_cons pe_int pa_nil))) pa_nil))))
      (pss_cons (ps_set (i := 4) sclaw.nd rfl (Or.inl rfl) (pe_cf T.val hr2 pass0 (pa_cons (pv 1) pa_nil)))
      pB))), ?_⟩
    refine ⟨_, rfl, a, ns, rfl, ha, hl, fun st n z hst h0 h1 h2 => ?_⟩
    have S1 : StAt (upd H st (.lst [.int n, .int z])) st := ⟨n, z, upd_same, h0, h1, h2⟩
    generalize upd H st (.lst [.int n, .int z]) = H1 at S1
    refine ⟨_, rfl, st, 6, rfl, by decide, by decide, S1, fun d n1 z1 hd0 hd1 a1 a2 a3 => ?_⟩
    have S2 : StAt (upd H1 st (.lst [.int n1, .int z1])) st := ⟨n1, z1, upd_same, a1, a2, a3⟩
    generalize upd H1 st (.lst [.int n1, .int z1]) = H2 at S2
    refine ⟨_, rfl, _, rfl, st, 19, rfl, by decide, by decide, S2, fun m n2 z2 hm0 hm1 b1 b2 b3 => ?_⟩
    have S3 : StAt (upd H2 st (.lst [.int n2, .int z2])) st := ⟨n2, z2, upd_same, b1, b2, b3⟩
    generalize upd H2 st (.lst [.int n2, .int z2]) = H3 at S3
    obtain ⟨m, rfl⟩ := Int.eq_ofNat_of_zero_le hm0
    refine ⟨st, m, rfl, by omega, S3, fun p ps H4 hlen hnd hnm sb4 S4 hp hpn e4 => ?_⟩
    refine ⟨_, rfl, st, rfl, S4, fun v H5 sb5 S5 hv => ?_⟩
    refine qB H5 _ d st p (ps.map V.str) v ⟨S5, sb5 _ _ hpn e4, hpn, fun y hy => ?_, by rw [List.length_map]; omega, hv⟩
    obtain ⟨q, hq, rfl⟩ := List.mem_map.mp hy
    exact GoodE.str (nameS_len (hnm q hq))
end
end Qp
namespace Qp
open PySem L2
section
variable {K : PySem.W.Frag} {mg : Str → Option Value} {h : Heap}
/-- a def of the text and the name that tells it -/
structure FnAt (K : PySem.W.Frag) (mg : Str → Option Value) (x qual : Str) (st : Stmt) : Prop where
  ex : ∃ f fd, Fun K x qual st f fd ∧ mg x = some (.ref f)
theorem fnAt (X : K.In h) (G : h.Ns mainGlobals mg) {x qual : Str} {st : Stmt} {f : Addr} {oc kV doc pm cdv ct : Value} {od an : Option Addr} {osl : Array (Option Value)}
    (a : PySem.W.nsIn K mainGlobals x = some (some (.ref f))) (l : K.lookup f = some ⟨oc, od, .func (PySem.W.fnOf x qual (defArgs st) (defBody st) (defScope st) .none kV doc pm an cdv ct), osl⟩) (c : PySem.W.codeIn K cdv qual = true) (k : PySem.W.keepIn K (.ref f) = true) :
    FnAt K mg x qual st := ⟨f, _, fun_mk (st := st) l c k, PySem.W.mg_of X G a⟩
theorem FnAt.cf {P : Program} {w : World} {base : Heap} {CX : CXT} {k : Nat} {ps : List Str} {sp : Sp} {x qual : Str} {st : Stmt} (A : FnAt K mg x qual st) (ok : ∀ f fd, Fun K x qual st f fd → FnOk P w K mg base CX k f fd ps sp)
    (b : ∀ (kV doc pm : Value) (an : Option Addr) (cdv ct : Value) (us : List Value), us.length = ps.length → bindArgs (PySem.W.fnOf x qual (defArgs st) (defBody st) (defScope st) .none kV doc pm an cdv ct) ⟨us, []⟩ = pure (ps.zip us)) : CF P w K mg base CX k x ps sp := by
  obtain ⟨f, fd, F, hm⟩ := A.ex
  exact ⟨f, fd, ok f fd F, hm, F.kp, F.binds b⟩
theorem exm_own {S : Addr} (h1 : PySem.W.subIn K (.ref S) (.type "BaseException") = some true) (h2 : (PySem.W.clsIn K S).isSome = true) (h3 : PySem.W.typeIn K (.ref S) = some (.type "type")) (h4 : PySem.W.subIn K (.ref S) (.ref S) = some true) :
    PySem.W.exmOne K (.ref S) (.ref S) = some true := by
  unfold PySem.W.exmOne PySem.W.kitCls
  simp [h1, h2, h3, h4]
open PySem.W PySem.Calls PyProof.Rows PySem.HandSPX in
theorem ownAt {P : Program} (X : K.In h) (G : h.Ns mainGlobals mg) {cn f qual : Str} {C fI cq : Addr} {nm q : Str} {N : Addr} {bs : List Value} {sn : List Str} {sub : List Value} {ab : Bool} {col : Option Bool} {dd : Option Addr} {m0 m1 m2 m3 m5 : Option Value}
    {t : Str} {kk : Nat} {oc : Value} {od : Option Addr} {doc pm : Value} {an : Option Addr} {cda cc : Addr} {ct : Value} {osl : Array (Option Value)} {p1 p2 q1 q2 q3 q4 q5 q6 q7 q8 q9 q10 : Pos}
    {ccl : Value} {cdd : Option Addr} {ccs : Array (Option Value)} {nm' q' : Str} {N' : Addr} {bs' : List Value} {sn' : List Str} {sub' : List Value} {ab' : Bool} {col' : Option Bool} {dd' : Option Addr} {k0' k1' k2' k3' k5' : Option Value} {fvs : Array Value} {file : Str} {tf : Tok} {cl : Value} {cld : Option Addr} {csl : Array (Option Value)}
    (gC : PySem.W.nsIn K mainGlobals cn = some (some (.ref C))) (gS : PySem.W.nsIn K mainGlobals "super" = some none)
    (xL : K.lookup C = some (excClassObj nm q C N bs [.ref cq, .type "ValueError", .type "Exception", .type "BaseException", .type "object"] true sn sub ab col dd m0 m1 m2 m3 m5 "ValueError.__new__"))
    (qL : K.lookup cq = some (excClassObj nm' q' cq N' bs' [.type "ValueError", .type "Exception", .type "BaseException", .type "object"] true sn' sub' ab' col' dd' k0' k1' k2' k3' k5' "ValueError.__new__"))
    (qI : PySem.W.findIn K (.ref cq) "__init__" = some (some (.builtin "ValueError.__init__")))
    (sa : PySem.W.findIn K (.ref C) "__setattr__" = some (some (.builtin "object.__setattr__"))) (ga : PySem.W.findIn K (.ref C) "__getattribute__" = some (some (.builtin "BaseException.__getattribute__"))) (gg : PySem.W.findIn K (.ref C) "__getattr__" = some none) (noN : PySem.W.findIn K (.ref C) f = some none)
    (iC : PySem.W.findIn K (.ref C) "__init__" = some (some (.ref fI))) (tC : PySem.W.typeIn K (.ref fI) = some (.type "function")) (kC : PySem.W.keepIn K (.ref C) = true)
    (exC : PySem.W.subIn K (.ref C) (.type "BaseException") = some true) (veC : PySem.W.subIn K (.ref C) (.type "ValueError") = some true) (slC : mroIn K C (.ref C) = some true) (tyC : PySem.W.typeIn K (.ref C) = some (.type "type")) (hdC : PySem.W.hasDictIn K C = true)
    (cC : (PySem.W.clsIn K C).isSome = true) (sC : PySem.W.subIn K (.ref C) (.ref C) = some true) (op : PySem.W.nsIn K cStatics "thirdparty.any" = some none) (top : (P.main.scope.names.lookup ("super" : Str)).isSome = false)
    (lk : K.lookup fI = some ⟨oc, od, .func (ksFn "__init__" qual (PySem.QX.iA f p1 p2) (PySem.QX.iB f t kk q1 q2 q3 q4 q5 q6 q7 q8 q9 q10) (PySem.QX.iS f) .none .none doc pm an (.ref cda) ct cc), osl⟩) (cd : PySem.W.codeIn K (.ref cda) qual = true) (hl : (q3.endLine == q5.line) = true)
    (lc : K.lookup cda = some ⟨ccl, cdd, .fields fvs, ccs⟩) (lf : fvs[2]? = some (.str file tf)) (hf : ((P.main.file : Str) == file) = true) (lcc : K.lookup cc = some ⟨cl, cld, .cell (some (.ref C)), csl⟩)
    (sc1 : (PySem.QX.iS f).names.lookup f = some .local) (sc2 : (PySem.QX.iS f).names.lookup ("super" : Str) = some .globalImplicit) (sc3 : (PySem.QX.iS f).names.lookup ("__class__" : Str) = some .free) (sc4 : (PySem.QX.iS f).names.lookup ("self" : Str) = some .local)
    (dbg : (f == ("__debug__" : Str)) = false)
    (bnd : ∀ (qual : Str) (p1 p2 : Pos) (b : List Stmt) (doc pm : Value) (an : Option Addr) (cdv ct : Value) (cc : Addr) (s : Shared) (u v : Value), BindsTo s (ksFn "__init__" qual (PySem.QX.iA f p1 p2) b (PySem.QX.iS f) .none .none doc pm an cdv ct cc) ⟨[u, v], []⟩ [("self", u), (f, v)])
    (lk1 : ∀ (u v : Value), ([("self", u), (f, v)] : List (Str × Value)).reverse.lookup ("self" : Str) = some u) (lk2 : ∀ (u v : Value), ([("self", u), (f, v)] : List (Str × Value)).reverse.lookup f = some v) :
    PySem.QX.OwnTxt P K mg cn f C fI :=
  have al : alongIn K "__init__" [.ref cq, .type "ValueError", .type "Exception", .type "BaseException", .type "object"] = some (some (.builtin "ValueError.__init__")) := by
    have e := qI
    unfold findIn at e
    dsimp only at e
    rw [qL] at e
    exact e
  { gC := PySem.W.mg_of X G gC, gS := PySem.W.mg_none_of X G gS, cls := ⟨_, _, _, _, _, _, _, _, _, _, _, _, _, _, _, xL, rfl, al⟩, sa := sa, ga := ga, gg := gg, noN := noN, iC := iC, tC := tC, kC := kC, exC := exC, veC := veC, slC := slC, tyC := tyC, hdC := hdC,
    te := exm_own exC cC tyC sC, op := op, top := top, fn := ⟨_, _, _, _, _, _, _, _, _, _, _, _, _, _, _, _, _, _, _, _, _, _, _, _, lk, cd, hl, ⟨_, _, _, _, _, _, lc, lf, hf⟩, ⟨_, _, _, lcc⟩⟩,
    sc1 := sc1, sc2 := sc2, sc3 := sc3, sc4 := sc4, dbg := dbg, bnd := bnd, lk1 := lk1, lk2 := lk2 }
theorem gAt (X : K.In h) (G : h.Ns mainGlobals mg) {C : Addr} (aC : PySem.W.nsIn K mainGlobals "Group" = some (some (.ref C)))
    (pg : PySem.W.plainGet K C Str.empty = true) (hd : PySem.W.hasDictIn K C = true) (po : PySem.W.plainOver K C = true) (sa : PySem.W.findIn K (.ref C) "__setattr__" = some (some (.builtin "object.__setattr__")))
    (n1 : PySem.W.findIn K (.ref C) "_people" = some none) (n2 : PySem.W.findIn K (.ref C) "_wishes" = some none) (n3 : PySem.W.findIn K (.ref C) "_opens" = some none) (n4 : PySem.W.findIn K (.ref C) "_ranks" = some none) : GTxt K mg C :=
  ⟨⟨pg, hd, po, sa⟩, n1, n2, n3, n4, PySem.W.mg_of X G aC⟩
theorem all_mk {l : PySem.W.OpenLaw} {w : World} {fa C CB CW fB fW fG fP : Addr} {fdG fdP : FuncData} {tk : Tok} (X : K.In h) (G : h.Ns mainGlobals mg) (hfa : mg "law" = some (.ref fa))
    (a0 : FnAt K mg "is_name" "is_name" sisname)
    (a1 : FnAt K mg "bad_index" "bad_index" sbadindex)
    (a2 : FnAt K mg "has_keys" "has_keys" shaskeys)
    (a3 : FnAt K mg "is_lot" "is_lot" sislot)
    (a4 : FnAt K mg "_check_people" "_check_people" scheckpeople)
    (a5 : FnAt K mg "_check_wishes" "_check_wishes" scheckwishes)
    (a6 : FnAt K mg "_open_rows" "_open_rows" sopenrows)
    (a7 : FnAt K mg "_rank_rows" "_rank_rows" srankrows)
    (a8 : FnAt K mg "_law_is_integer" "_law_is_integer" sLisinteger)
    (a9 : FnAt K mg "_law_cell" "_law_cell" sLcell)
    (a10 : FnAt K mg "_law_take" "_law_take" sLtake)
    (a11 : FnAt K mg "_law_name" "_law_name" sLname)
    (a12 : FnAt K mg "_law_names" "_law_names" sLnames)
    (a13 : FnAt K mg "_law_row" "_law_row" sLrow)
    (a14 : FnAt K mg "_law_is_name" "_law_is_name" sLisname)
    (a15 : FnAt K mg "_law_value" "_law_value" sLvalue)
    (a16 : FnAt K mg "_law_due" "_law_due" sLdue)
    (a17 : FnAt K mg "law" "law" slaw)
    (B : Bl mg) (tB : PySem.QX.OwnTxt l.prog K mg "BadPeople" "index" CB fB) (tW : PySem.QX.OwnTxt l.prog K mg "BadWishes" "person" CW fW) (hM : mg "MOST_PEOPLE" = some (.int 16 tk)) (g : GTxt K mg C) (mk : Mk K C fG) (FG : Fun K "__init__" "Group.__init__" sGroupinit fG fdG)
    (mp : Meth K C "people" fP) (FP : Fun K "people" "Group.people" sGrouppeople fP fdP) :
    ∃ fd : FuncData, (∀ (s : Shared) (v : Value), BindsTo s fd ⟨[v], []⟩ [("_law_script", v)]) ∧ ∀ base : Heap, K.In base → base.Ns mainGlobals mg → FnOk l.prog w K mg base CX0 6 fa fd ["_law_script"] (spLaw K) := by
  obtain ⟨f, fd, F, hm⟩ := a17.ex
  have e := hfa.symm.trans hm
  cases e
  have F' := F
  obtain ⟨oc, od, kV, doc, pm, an, cdv, ct, osl, rfl, lk, hcd⟩ := F'.ex
  refine ⟨PySem.W.fnOf "law" "law" (defArgs slaw) (defBody slaw) (defScope slaw) .none kV doc pm an cdv ct, fun s v => .of_eq rfl, fun base _ _ => ?_⟩
  have c0 : CF l.prog w K mg base CX0 1 "is_name" ["value"] spIsName := a0.cf (fun f fd F => ok_isname F B) (fun _ _ _ _ _ _ us hl => match us, hl with | [_], _ => rfl)
  have c1 : CF l.prog w K mg base CX0 1 "bad_index" ["items", "names"] (spBad K) := a1.cf (fun f fd F => ok_bad F B) (fun _ _ _ _ _ _ us hl => match us, hl with | [_, _], _ => rfl)
  have c2 : CF l.prog w K mg base CX0 1 "has_keys" ["value", "names"] (spHas K) := a2.cf (fun f fd F => ok_has F B) (fun _ _ _ _ _ _ us hl => match us, hl with | [_, _], _ => rfl)
  have c3 : CF l.prog w K mg base CX0 2 "is_lot" ["value", "names"] (spLot K) := a3.cf (fun f fd F => ok_lot F B c1) (fun _ _ _ _ _ _ us hl => match us, hl with | [_, _], _ => rfl)
  have c4 : CF l.prog w K mg base (L2.CX l.prog w) 2 "_check_people" ["people"] (spCP CB) := a4.cf (fun f fd F => ok_cp F B tB hM c0 c1) (fun _ _ _ _ _ _ us hl => match us, hl with | [_], _ => rfl)
  have c5 : CF l.prog w K mg base (L2.CX l.prog w) 3 "_check_wishes" ["people", "wishes"] (spCW CW) := a5.cf (fun f fd F => ok_cw F B tW c2 c3) (fun _ _ _ _ _ _ us hl => match us, hl with | [_, _], _ => rfl)
  have c6 : CF l.prog w K mg base CX0 1 "_open_rows" ["wishes"] spOR := a6.cf (fun f fd F => ok_or F) (fun _ _ _ _ _ _ us hl => match us, hl with | [_], _ => rfl)
  have c7 : CF l.prog w K mg base CX0 1 "_rank_rows" ["rows"] spRR := a7.cf (fun f fd F => ok_rr F B) (fun _ _ _ _ _ _ us hl => match us, hl with | [_], _ => rfl)
  have d0 : CF l.prog w K mg base CX0 1 "_law_is_integer" ["_law_actual"] spInt := a8.cf (fun f fd F => ok_int F B) (fun _ _ _ _ _ _ us hl => match us, hl with | [_], _ => rfl)
  have d1 : CF l.prog w K mg base CX0 1 "_law_cell" ["_law_script", "_law_k"] (spCell K) := a9.cf (fun f fd F => ok_cell F B) (fun _ _ _ _ _ _ us hl => match us, hl with | [_, _], _ => rfl)
  have d2 : CF l.prog w K mg base CX0 1 "_law_take" ["_law_state", "_law_many"] spTake := a10.cf (fun f fd F => ok_take F B) (fun _ _ _ _ _ _ us hl => match us, hl with | [_, _], _ => rfl)
  have d3 : CF l.prog w K mg base CX0 2 "_law_name" ["_law_state", "_law_taken"] spName := a11.cf (fun f fd F => ok_name F B d2) (fun _ _ _ _ _ _ us hl => match us, hl with | [_, _], _ => rfl)
  have d4 : CF l.prog w K mg base CX0 3 "_law_names" ["_law_state", "_law_many"] spNames := a12.cf (fun f fd F => ok_names F B d3) (fun _ _ _ _ _ _ us hl => match us, hl with | [_, _], _ => rfl)
  have d5 : CF l.prog w K mg base CX0 1 "_law_row" ["_law_actual", "_law_due_here"] spRow := a13.cf (fun f fd F => ok_row F B) (fun _ _ _ _ _ _ us hl => match us, hl with | [_, _], _ => rfl)
  have d6 : CF l.prog w K mg base CX0 1 "_law_is_name" ["_law_value_here"] spIsName := a14.cf (fun f fd F => ok_lisname F B) (fun _ _ _ _ _ _ us hl => match us, hl with | [_], _ => rfl)
  have d7 : CF l.prog w K mg base CX0 2 "_law_value" ["_law_state"] spVal := a15.cf (fun f fd F => ok_val F B d2) (fun _ _ _ _ _ _ us hl => match us, hl with | [_], _ => rfl)
  have d8 : CF l.prog w K mg base CX0 2 "_law_due" ["_law_people"] spDue := a16.cf (fun f fd F => ok_due F B d6) (fun _ _ _ _ _ _ us hl => match us, hl with | [_], _ => rfl)
  have bG := FG.binds (ps := ["self", "people", "wishes"]) (fun _ _ _ _ _ _ us hl => match us, hl with | [_, _, _], _ => rfl)
  have bP := FP.binds (ps := ["self"]) (fun _ _ _ _ _ _ us hl => match us, hl with | [_], _ => rfl)
  exact ok_law F B ⟨d1, d2, d4, d7, d8, d0, d5, tB, g, mk, ⟨_, ok_gi FG B g c4 c5 c6 c7, bG⟩, mp, ⟨_, ok_people FP B g, bP⟩⟩
end
theorem walk {l : PySem.W.OpenLaw} {q : Program} {loose : List Str} {XP : (Str → Option Value) → Heap → Prop} {YP : World → Heap → Prop} {d : DefRec} {K : Params → PySem.W.Frag} (hn : l.most = some 63) (hdf : d.params.defaults = [])
    (hY : ∀ (w : World) (h : Heap), YP w h → (K w.params).In h)
    (F : ∀ (w : World) (mg : Str → Option Value) (fa : Addr) (h : Heap), (K w.params).In h → h.Ns mainGlobals mg → mg d.name = some (.ref fa) →
      ∃ fd : FuncData, (∀ (s : Shared) (u : Value), BindsTo s fd ⟨[u], []⟩ [("_law_script", u)]) ∧ ∀ base : Heap, (K w.params).In base → base.Ns mainGlobals mg → FnOk l.prog w (K w.params) mg base CX0 6 fa fd ["_law_script"] (spLaw (K w.params))) :
    PySem.W.WalkO q loose XP YP l.row.toRowW d [] (fun f vs => PySem.call f vs) :=
  L2.walk_of (n := 63) (k := 6) (x := "_law_script") (CX := fun _ => CX0) (sp := fun w => spLaw (K w.params)) hn (by decide) hdf ⟨rfl, by decide, by decide⟩ hY F (fun _ _ a ns hl _ hS => ⟨a, ns, rfl, hS, hl, fun _ => rfl⟩) fun _ _ _ _ _ z => z
end Qp
open PySem PySem.W PyProof.Rows
set_option maxRecDepth 100000 in
set_option maxHeartbeats 0 in
theorem PySem.Challenge.cw_quietpairs_k01_people_refused_holds : PySem.Challenge.rw_quietpairs_k01_people_refused.Holds := by
  w_on; o_law; k_head; (case hw => w_witness2)
  k_fill
  refine Qp.walk (l := PySem.Challenge.rw_quietpairs_k01_people_refused) rfl rfl (fun w h Y => PySem.W.kIn_of Y) ?F
  case F =>
    intro w mg fa h KX G hmg
    refine' Qp.all_mk KX G hmg (Qp.fnAt KX G ?a0 ?l0 ?c0 ?k0) (Qp.fnAt KX G ?a1 ?l1 ?c1 ?k1) (Qp.fnAt KX G ?a2 ?l2 ?c2 ?k2) (Qp.fnAt KX G ?a3 ?l3 ?c3 ?k3) (Qp.fnAt KX G ?a4 ?l4 ?c4 ?k4) (Qp.fnAt KX G ?a5 ?l5 ?c5 ?k5) (Qp.fnAt KX G ?a6 ?l6 ?c6 ?k6) (Qp.fnAt KX G ?a7 ?l7 ?c7 ?k7) (Qp.fnAt KX G ?a8 ?l8 ?c8 ?k8) (Qp.fnAt KX G ?a9 ?l9 ?c9 ?k9) (Qp.fnAt KX G ?a10 ?l10 ?c10 ?k10) (Qp.fnAt KX G ?a11 ?l11 ?c11 ?k11) (Qp.fnAt KX G ?a12 ?l12 ?c12 ?k12) (Qp.fnAt KX G ?a13 ?l13 ?c13 ?k13) (Qp.fnAt KX G ?a14 ?l14 ?c14 ?k14) (Qp.fnAt KX G ?a15 ?l15 ?c15 ?k15) (Qp.fnAt KX G ?a16 ?l16 ?c16 ?k16) (Qp.fnAt KX G ?a17 ?l17 ?c17 ?k17) ⟨mg_none_of KX G ?z0, mg_none_of KX G ?z1, mg_none_of KX G ?z2, mg_none_of KX G ?z3, mg_none_of KX G ?z4, mg_none_of KX G ?z5, mg_none_of KX G ?z6, mg_none_of KX G ?z7, mg_none_of KX G ?z8, mg_none_of KX G ?z9, mg_none_of KX G ?z10, mg_none_of KX G ?z11, mg_none_of KX G ?z12, mg_none_of KX G ?z13⟩ (Qp.ownAt KX G ?ugC ?ugS ?uxL ?uqL ?uqI ?usa ?uga ?ugg ?unoN ?uiC ?utC ?ukC ?uexC ?uveC ?uslC ?utyC ?uhdC ?ucC ?usC ?uop ?utop ?ulk ?ucd ?uhl ?ulc ?ulf ?uhf ?ulcc rfl rfl rfl rfl rfl (fun _ _ _ _ _ _ _ _ _ _ _ _ _ => .of_eq rfl) (fun _ _ => rfl) (fun _ _ => rfl)) (Qp.ownAt KX G ?vgC ?vgS ?vxL ?vqL ?vqI ?vsa ?vga ?vgg ?vnoN ?viC ?vtC ?vkC ?vexC ?vveC ?vslC ?vtyC ?vhdC ?vcC ?vsC ?vop ?vtop ?vlk ?vcd ?vhl ?vlc ?vlf ?vhf ?vlcc rfl rfl rfl rfl rfl (fun _ _ _ _ _ _ _ _ _ _ _ _ _ => .of_eq rfl) (fun _ _ => rfl) (fun _ _ => rfl)) (mg_of KX G ?hM) (Qp.gAt KX G ?aC ?pg ?hd ?po ?sa ?n1 ?n2 ?n3 ?n4) ⟨?mk, ?i1, ?i2, ?kc⟩ (L2.fun_mk (st := Qp.sGroupinit) ?i3 ?i4 ?i5) ⟨?p1, ?p2, ?p5⟩ (L2.fun_mk (st := Qp.sGrouppeople) ?p3 ?p4 ?p6)
    (case a0 => k_is); (case l0 => k_is); (case c0 => k_is); (case k0 => k_is)
    (case a1 => k_is); (case l1 => k_is); (case c1 => k_is); (case k1 => k_is)
    (case a2 => k_is); (case l2 => k_is); (case c2 => k_is); (case k2 => k_is)
    (case a3 => k_is); (case l3 => k_is); (case c3 => k_is); (case k3 => k_is)
    (case a4 => k_is); (case l4 => k_is); (case c4 => k_is); (case k4 => k_is)
    (case a5 => k_is); (case l5 => k_is); (case c5 => k_is); (case k5 => k_is)
    (case a6 => k_is); (case l6 => k_is); (case c6 => k_is); (case k6 => k_is)
    (case a7 => k_is); (case l7 => k_is); (case c7 => k_is); (case k7 => k_is)
    (case a8 => k_is); (case l8 => k_is); (case c8 => k_is); (case k8 => k_is)
    (case a9 => k_is); (case l9 => k_is); (case c9 => k_is); (case k9 => k_is)
    (case a10 => k_is); (case l10 => k_is); (case c10 => k_is); (case k10 => k_is)
    (case a11 => k_is); (case l11 => k_is); (case c11 => k_is); (case k11 => k_is)
    (case a12 => k_is); (case l12 => k_is); (case c12 => k_is); (case k12 => k_is)
    (case a13 => k_is); (case l13 => k_is); (case c13 => k_is); (case k13 => k_is)
    (case a14 => k_is); (case l14 => k_is); (case c14 => k_is); (case k14 => k_is)
    (case a15 => k_is); (case l15 => k_is); (case c15 => k_is); (case k15 => k_is)
    (case a16 => k_is); (case l16 => k_is); (case c16 => k_is); (case k16 => k_is)
    (case a17 => k_is); (case l17 => k_is); (case c17 => k_is); (case k17 => k_is)
    (case z0 => k_is); (case z1 => k_is); (case z2 => k_is); (case z3 => k_is); (case z4 => k_is); (case z5 => k_is); (case z6 => k_is); (case z7 => k_is); (case z8 => k_is); (case z9 => k_is); (case z10 => k_is); (case z11 => k_is); (case z12 => k_is); (case z13 => k_is)
    (case ugC => k_is)
    (case ugS => k_is)
    (case uxL => k_is)
    (case uqL => k_is)
    (case uqI => k_is)
    (case usa => k_is)
    (case uga => k_is)
    (case ugg => k_is)
    (case unoN => k_is)
    (case uiC => k_is)
    (case utC => k_is)
    (case ukC => k_is)
    (case uexC => k_is)
    (case uveC => k_is)
    (case uslC => k_is)
    (case utyC => k_is)
    (case uhdC => k_is)
    (case ucC => first | rfl | k_is)
    (case usC => first | rfl | k_is)
    (case uop => k_is)
    (case utop => rfl)
    (case ulk => k_is)
    (case ucd => k_is)
    (case uhl => first | rfl | decide +kernel)
    (case ulc => k_is)
    (case ulf => first | rfl | k_is)
    (case uhf => first | rfl | decide +kernel)
    (case ulcc => k_is)
    (case vgC => k_is)
    (case vgS => k_is)
    (case vxL => k_is)
    (case vqL => k_is)
    (case vqI => k_is)
    (case vsa => k_is)
    (case vga => k_is)
    (case vgg => k_is)
    (case vnoN => k_is)
    (case viC => k_is)
    (case vtC => k_is)
    (case vkC => k_is)
    (case vexC => k_is)
    (case vveC => k_is)
    (case vslC => k_is)
    (case vtyC => k_is)
    (case vhdC => k_is)
    (case vcC => first | rfl | k_is)
    (case vsC => first | rfl | k_is)
    (case vop => k_is)
    (case vtop => rfl)
    (case vlk => k_is)
    (case vcd => k_is)
    (case vhl => first | rfl | decide +kernel)
    (case vlc => k_is)
    (case vlf => first | rfl | k_is)
    (case vhf => first | rfl | decide +kernel)
    (case vlcc => k_is)
    (case hM => k_is)
    (case aC => k_is)
    (case pg => k_is)
    (case hd => k_is)
    (case po => k_is)
    (case sa => k_is)
    (case n1 => k_is)
    (case n2 => k_is)
    (case n3 => k_is)
    (case n4 => k_is)
    (case mk => k_is)
    (case i1 => k_is)
    (case i2 => k_is)
    (case kc => k_is)
    (case i3 => k_is)
    (case i4 => k_is)
    (case i5 => k_is)
    (case p1 => k_is)
    (case p2 => k_is)
    (case p5 => k_is)
    (case p3 => k_is)
    (case p4 => k_is)
    (case p6 => k_is)
