import PyProof.Rows.All
import Wide.All
import OpenK.AllK
import Wide.FinOn
import PyProof.EqAt
import PyProof.EqKinds
import PyProof.TupleCall
import KE.GoesEnum
import HandS.Base
import HandS.Call
import HandS.List
import HandS.Comp
import HandS.Dict
import HandS.Iter
import HandS.Walk
import HandS.Words
import KE.KEqDict
import HandS.More
import KE.KFromBytes
import KE.KExcSuper
import HandS.Ends
import HandS.Exc
import HandS.TryOnly
import HandS.ExcOwn
import HandS.WordsExc
import HandS.ForMost
import HandS.IsInst
import HandS.DictComp
import HandS.Deep
import HandS.TupAny
import HandS.WideBits
import PyProof.Rows.SortShell
import KE.KSortTup
import HandS.Sort
import HandS.SortOrd
import HandS.SortRule
import PyProof.StrOps
import PyProof.WalksMore
import KE.KOwnIter
import HandS.IterVal
import PyProof.NeKinds
import HandS.ListEq
import HandS.DeepEq
import HandS.DictEq
import PyProof.P3Eq
import HandS.TryMany
import KE.GoesEnumKw
import PyProof.Rows.CallKwBuiltin
import HandS.Zip
import HandS.StrMore
import PySem.Challenge.RW_quietpairs_k89_spoilt_lines_of_dealings
set_option Elab.async false
set_option linter.all false
set_option maxRecDepth 100000
set_option maxHeartbeats 8000000
/-! enumerate over a tuple -/
namespace L2
open PySem PySem.Spec PyProof.Rows

theorem q_enum_newT {t : Addr} {items : Array Value} :
    Meets (Builtin.«enumerate.__new__» ⟨[.type "enumerate", .ref t], []⟩) (fun _ R s => s.heap.IsTuple t items ∧
      R (.ok (.ret (.ref (s.heap.push { cls := .type "tuple_iterator", data := .fields #[.ref t, .int 0 0] }).objs.size))) { s with heap := (s.heap.push { cls := .type "tuple_iterator", data := .fields #[.ref t, .int 0 0] }).push { cls := .type "enumerate", data := .fields #[.none, .bool false, .ref s.heap.objs.size, rawInt 0, .none, .none] } }) :=
  .of_wp fun prog w A R s h => by
    obtain ⟨hp, g, d, tk, os⟩ := s; obtain ⟨h1, h⟩ := h
    have hsub := sub_enumerate
    have q1 : ∀ {A' : Around} {E : Value → Shared → Prop} {Q : Value → Shared → Prop}, Q (.ref hp.objs.size) ⟨hp.push { cls := .type "tuple_iterator", data := .fields #[.ref t, .int 0 0] }, g, d, tk, os⟩ → wpAny (model prog w) A' (pyIter (.ref t)) Q E ⟨hp, g, d, tk, os⟩ :=
      fun q => (begins_tuple t items).iter prog w _ _ ⟨hp, g, d, tk, os⟩ _ h1 q
    wp_walk using q1
    refine wpAny_stack_any fun st => wpAny_pure ?_
    split
    · rename_i c _ _ _ _ _
      cases (c == Value.type "enumerate")
      · wp_walk using q1
        exact ⟨_, rfl, h⟩
      · wp_walk using q1
        exact ⟨_, rfl, h⟩
    · wp_walk using q1
      exact ⟨_, rfl, h⟩
theorem q_call_enumT {prog : Program} {w : World} {A : Around} {E : Value → Shared → Prop} {s : Shared} {l : Addr} {items : Array Value} {Q : Value → Shared → Prop} (hL : s.heap.IsTuple l items)
    (h : ∀ h', IsEnum h' (s.heap.objs.size + 1) s.heap.objs.size 0 .none → h'.IsTupleIter s.heap.objs.size l 0 → h'.objs.size = s.heap.objs.size + 2 →
      (∀ b o, s.heap.get? b = some o → h'.get? b = some o) → Q (.ref (s.heap.objs.size + 1)) { s with heap := h' }) :
    wpAny (model prog w) A (call (.type "enumerate") [.ref l]) Q E s := by
  refine callType_new F.called_enumerate (by decide) (F.typeCall_enumerate_1 _) (F.newCall_enumerate_1 _) (fun obj => F.args_object_init_2 obj _) F.entry_enumerate_new
    (q_enum_newT (items := items)) ⟨hL, ?_⟩
  have hz : (s.heap.push { cls := .type "tuple_iterator", data := .fields #[.ref l, .int 0 0] }).objs.size = s.heap.objs.size + 1 := Heap.size_push ..
  show _ ∧ _
  rw [hz]
  have he : IsEnum ((s.heap.push { cls := .type "tuple_iterator", data := .fields #[.ref l, .int 0 0] }).push
      { cls := .type "enumerate", data := .fields #[.none, .bool false, .ref s.heap.objs.size, rawInt 0, .none, .none] }) (s.heap.objs.size + 1) s.heap.objs.size 0 .none := by
    have := Heap.get?_push_size (s.heap.push { cls := .type "tuple_iterator", data := .fields #[.ref l, .int 0 0] })
      (o := { cls := .type "enumerate", data := .fields #[.none, .bool false, .ref s.heap.objs.size, rawInt 0, .none, .none] }) rfl
    rw [hz] at this; exact this
  refine ⟨⟨_, he, rfl⟩, h _ he ⟨_, Heap.get?_push_of_some _ (Heap.get?_push_size _ rfl), rfl, rfl⟩ (by rw [Heap.size_push, hz]) fun b o x => Heap.get?_push_of_some _ (Heap.get?_push_of_some _ x)⟩

def IteT (K : PySem.W.Frag) (a : Addr) : It :=
  ⟨fun i H => ∃ (xs : List V) (x : V), SqT K H a xs ∧ xs[i]? = some x, fun i H v H' => ∃ T x, v = .ref T ∧ H T = none ∧ H' = upd H T (.tup [.int (i : Nat), x]) ∧ ∀ xs, SqT K H a xs → xs[i]? = some x, fun i H => ∃ xs : List V, SqT K H a xs ∧ xs.length ≤ i⟩
theorem tupIter_isTuple {h : Heap} {a : Addr} {its : Array Value} (p : IsTup h a its) : h.IsTuple a its := p
theorem turn_enumT {P : Program} {w : World} {K : PySem.W.Frag} {elts : List Expr} {kk : Nat} {tpos : Pos} (a e it : Addr) :
    Turn P w K (.Tuple elts kk tpos) (IteT K a) [e, it] e (fun i h => (∃ old, IsEnum h e it ((i : Nat) : Int) old) ∧ h.IsTupleIter it a i ∧ e ≠ it) where
  mem := by simp
  obj := fun i h st b hb => by
    obtain ⟨⟨old, he⟩, ⟨o, ho, hc, hd⟩, _⟩ := st
    have e' : b = e ∨ b = it := by simpa using hb
    rcases e' with z | z
    · rw [z]; exact ⟨_, he, fun v q => nomatch q⟩
    · rw [z]; exact ⟨o, ho, fun v q => by rw [hd] at q; cases q⟩
  keep := fun i h h' st k => let ⟨⟨old, he⟩, hi, hne⟩ := st; ⟨⟨old, k e (by simp) _ he⟩, hi.at fun o q => k it (by simp) o q, hne⟩
  item := by
    intro X hP hw hK hc i pins s σ H E I hf st hg
    subst hP hw hK
    obtain ⟨⟨old, he⟩, hit, hne⟩ := st
    obtain ⟨xs, x, hq, hx⟩ := hg
    obtain ⟨its, rv, p, hz⟩ := I.tuple hq
    obtain ⟨u, hu, ru⟩ := rv.get hx
    have hel : e < s.heap.objs.size := Heap.lt_size he
    have hil : it < s.heap.objs.size := by obtain ⟨_, q, _⟩ := hit; exact Heap.lt_size q
    have hilt : i < its.toArray.size := by
      have := (List.getElem?_eq_some_iff.mp hu).1
      simpa using this
    have hai : a ≠ it := by
      obtain ⟨o1, e1, _, n1, d1⟩ := p
      obtain ⟨o2, e2, _, d2⟩ := hit
      intro z; rw [z, e2] at e1; cases e1; rw [d2] at d1; cases d1
    have hae : a ≠ e := by
      obtain ⟨o1, e1, _, n1, d1⟩ := p
      intro z
      rw [z, he] at e1; cases e1; cases d1
    have D := Draws.tuple (prog := X.prog) (w := X.w) (A := X.A.in1) (by rw [show X.A.in1.handled = none from I.ok.hd hc]) it a hai its.toArray
    refine wpAny_pyNext_enum_itemD D he ⟨hit, p⟩ hilt hne (by
      intro z
      have z' : e = it ∨ e = a := by simpa using z
      rcases z' with z | z
      · exact hne z
      · exact hae z.symm) fun x' h' tk hx' ho hst' hT hsz hk => ?_
    have hxu : x' = u := by
      have e1 : its.toArray[i]? = some u := by simpa using hu
      rw [e1] at hx'; exact (Option.some.inj hx').symm
    subst hxu
    obtain ⟨hit', _⟩ := hst'
    refine ⟨_, rfl, wpAny_letOwnedTupleGo_enum (s := { s with heap := h', toks := tk + 1 }) ho fun h'' he' sb => ?_⟩
    have hT2 : h''.get? s.heap.objs.size = some { cls := .type "tuple", data := .seq #[.int i tk, x'] } := (sb.2 _ (Nat.ne_of_gt hel)).trans hT
    have new : ObjOk X.prog X.w (upd H s.heap.objs.size (.tup [.int (i : Nat), x])) h'' s.heap.objs.size (.tup [.int (i : Nat), x]) :=
      ⟨by show 2 ≤ sizeLine; decide, [.int i tk, x'], .cons ⟨_, rfl⟩ (.cons ru .nil), ⟨_, hT2, rfl, _, rfl⟩⟩
    have I1 : Inv X pins σ (upd H s.heap.objs.size (.tup [.int (i : Nat), x])) { s with heap := h'', toks := tk + 1 } :=
      I.turnedNew (ch := [e, it]) (fun b ob hb q => (sb.2 b (fun z => hb (by simp [z]))).trans (hk b ob (fun z => hb (by simp [z])) (fun z => hb (by simp [z])) q)) hf (Nat.le_refl _) new
    refine ⟨.ref s.heap.objs.size, _, I1, rfl, ⟨_, x, rfl, I.hok.fresh (Nat.le_refl _), rfl, fun ys hy => by rw [I.tuple_inj hy hq]; exact hx⟩, ⟨⟨x', ?_⟩, hit'.at fun o q => (sb.2 it (Ne.symm hne)).trans q, hne⟩, fun b hb => ?_⟩
    · have e1 : ((i + 1 : Nat) : Int) = (i : Int) + 1 := by omega
      rw [e1]; exact he'
    · have hb' : b < s.heap.objs.size := by
        have e' : b = e ∨ b = it := by simpa using hb
        rcases e' with z | z
        · rw [z]; exact hel
        · rw [z]; exact hil
      rw [upd_ne (Nat.ne_of_lt hb')]
      exact (hf b hb).1
  done := by
    intro X hP hw hK hc i pins s σ H E I hf st hg
    subst hP hw hK
    obtain ⟨⟨old, he⟩, hit, hne⟩ := st
    obtain ⟨xs, hq, hx⟩ := hg
    obtain ⟨its, rv, p, hz⟩ := I.tuple hq
    obtain ⟨f0, f1, f2, f3, f4, f5⟩ := hf it (by simp)
    have hl := rv.length
    have hai : a ≠ it := by
      obtain ⟨o1, e1, _, n1, d1⟩ := p
      obtain ⟨o2, e2, _, d2⟩ := hit
      intro z; rw [z, e2] at e1; cases e1; rw [d2] at d1; cases d1
    have hnone : its.toArray[i]? = none := by simp; omega
    unfold pyNext
    have hT : s.TypeIs (.ref e) "enumerate" := ⟨_, he, rfl⟩
    refine wpAny_bind (wpAny_attempt (wpAny_callSpecial?_slot (name := Str.ofString "__next__") hT F.slot_enumerate_next
      (wpAny_call_entry F.slot_enumerate_next hT F.entry_enumerate_next ?_ (F.args_enumerate_next_1 _))))
    show wpAny _ _ (field (.ref e) 2 >>= _) _ _ _
    refine wpAny_bind (wpAny_field he rfl (x := .ref it) rfl ?_)
    refine wpAny_bind (wpAny_nextOf_tuple_end (by rw [show X.A.in1.handled = none from I.ok.hd hc]) hit p hnone fun h' x he' hx' => ?_)
    obtain ⟨o, ho, hc'⟩ := hx'
    refine wpAny_bind (wpAny_isInstance (T := "StopIteration") (b := true) ⟨o, ho, hc'⟩ isSubtype_stop ?_)
    exact wpAny_pure ⟨rfl, I.turned (t' := s.toks) (fun b o hb q => he' b o hb q) f0 f1 f3 f4 f5⟩
  self := fun A i s Q E st h => let ⟨⟨_, he⟩, _⟩ := st; wpAny_pyIter_enum he h
theorem walk_enumT {K : PySem.W.Frag} {a : Addr} {xs : List V} : Walk (IteT K a) xs.length (fun H => SqT K H a xs) (YPair (fun i => some (.int (i : Nat))) (fun i => xs[i]?)) := by
  refine ⟨fun i _ hi q => ⟨xs, xs[i], q, by simp [hi]⟩, fun _ q => ⟨xs, q, Nat.le_refl _⟩, fun i H v H' _ q y => ?_⟩
  obtain ⟨T, x, h1, h2, h3, h4⟩ := y
  exact ⟨T, .int (i : Nat), x, h1, h2, h3, rfl, h4 xs q⟩
theorem enum_or {K : PySem.W.Frag} {H : Hp} {a : Addr} {xs : List V} {R : It → Hp → Prop} (hq : SqL K H a xs ∨ SqT K H a xs)
    (key : ∀ (J : It) (G : Hp → Prop), Walk J xs.length G (YPair (fun i => some (.int (i : Nat))) (fun i => xs[i]?)) → (∀ H', Same H H' → G H') → R J H) : (SqL K H a xs ∧ R (Ite K a) H) ∨ (SqT K H a xs ∧ R (IteT K a) H) := by
  rcases hq with hq | hq
  · exact .inl ⟨hq, key _ _ walk_enum fun H' s => s.seq hq⟩
  · exact .inr ⟨hq, key _ _ walk_enumT fun H' s => by
      rcases hq with (h | ⟨o, h⟩) | h
      · exact .inl (.inl (s _ _ h))
      · exact .inl (.inr ⟨o, s _ _ h⟩)
      · exact .inr h⟩
def iEnumT (K : PySem.W.Frag) (ta : TA) : TI := fun σ H R => ta σ H fun vs H1 => ∃ a xs, vs = [.ref a] ∧ (SqL K H1 a xs ∨ SqT K H1 a xs) ∧
  ∀ (J : It) (G : Hp → Prop), Walk J xs.length G (YPair (fun i => some (.int (i : Nat))) (fun i => xs[i]?)) → (∀ H', Same H1 H' → G H') → R J H1
theorem pi_enumT {X : Cx} {e : Expr} {ta : TA} {p pos tpos : Pos} {elts : List Expr} {kk : Nat} (hg : Gl X "enumerate") (hm : X.mg "enumerate" = none) (ha : PA X [e] ta) (hs : starEach [e] X.env = [(false, eval e X.env)] := by rfl) :
    PI X (.Tuple elts kk tpos) (.Call (.Name "enumerate" p) [e] [] pos) (iEnumT X.K ta) := by
  refine ⟨fun pins s σ H R I h => ?_⟩
  refine Call_ (ld_blt I hg hm boot_enumerate (PyProof.Rows.callWith_type1 (thn (ha.run pos pins s σ H _ I h) fun us s1 ⟨vs, H1, I1, r1, q1⟩ => ?_) hs rfl))
  obtain ⟨a, xs, ex, hq0, key⟩ := q1
  have hq := enum_or (R := R) hq0 key
  subst ex
  cases r1 with
  | cons r rr =>
    cases rr
    cases r
    rcases hq with ⟨hq, q⟩ | ⟨hq, q⟩
    · obtain ⟨its, rv, p', hz⟩ := I1.list hq
      refine call_enumerate_list p'.isList fun h' he hit hsz hk => wpAny_pyIter_enum he ?_
      have I2 : Inv X pins σ H1 { s1 with heap := h' } := I1.kept (t' := s1.toks) hk
      refine ⟨s1.heap.objs.size + 1, [s1.heap.objs.size + 1, s1.heap.objs.size], _, _, H1, rfl, I2, turn_enum a (s1.heap.objs.size + 1) s1.heap.objs.size, ⟨⟨.none, he⟩, hit, Nat.succ_ne_self _⟩, fun b hb => ?_, q⟩
      have e' : b = s1.heap.objs.size + 1 ∨ b = s1.heap.objs.size := by simpa using hb
      have hle : s1.heap.objs.size ≤ b := by
        rcases e' with z | z
        · rw [z]; exact Nat.le_add_right _ _
        · rw [z]; exact Nat.le_refl _
      exact I1.fpOk hle (I1.hok.fresh hle)
    · obtain ⟨its, rv, p', hz⟩ := I1.tuple hq
      refine q_call_enumT p' fun h' he hit hsz hk => wpAny_pyIter_enum he ?_
      have I2 : Inv X pins σ H1 { s1 with heap := h' } := I1.kept (t' := s1.toks) hk
      refine ⟨s1.heap.objs.size + 1, [s1.heap.objs.size + 1, s1.heap.objs.size], _, _, H1, rfl, I2, turn_enumT a (s1.heap.objs.size + 1) s1.heap.objs.size, ⟨⟨.none, he⟩, hit, Nat.succ_ne_self _⟩, fun b hb => ?_, q⟩
      have e' : b = s1.heap.objs.size + 1 ∨ b = s1.heap.objs.size := by simpa using hb
      have hle : s1.heap.objs.size ≤ b := by
        rcases e' with z | z
        · rw [z]; exact Nat.le_add_right _ _
        · rw [z]; exact Nat.le_refl _
      exact I1.fpOk hle (I1.hok.fresh hle)
end L2
/-! x in a list or tuple of texts, x of any kind -/
namespace L2
open PySem PySem.Spec PyProof.Rows
open AutoSeq1 (wpAny_loadPart')
open MeetsSeq MeetsSeq2 MeetsSeq3 SeqRoads2 SeqAt
theorem q_str_eq_dict (b : Str) (u : Tok) (l : Addr) (o : Obj) (hc : o.cls = .type "dict") (hd : ∃ es ep, o.data = .dict es ep) :
    Meets (Builtin.«str.__eq__» ⟨[.str b u, .ref l], []⟩) (fun _ R s => s.heap.get? l = some o ∧ R (.ok (.ret .notImplemented)) s) :=
  .of_wp fun prog w A R s h => by
    obtain ⟨hp, g, d, tk, os⟩ := s; obtain ⟨hl, h⟩ := h
    obtain ⟨c, dd, dt, sl⟩ := o
    obtain ⟨es, ep, hd⟩ := hd
    simp only at hc hd
    subst hc hd
    wp_walk using wpAny_loadPart' hl, wpAny_load hl; exact ⟨_, rfl, h⟩
theorem q_dict_eq_str (l : Addr) (o : Obj) (hc : o.cls = .type "dict") (b : Str) (u : Tok) :
    Meets (Builtin.«dict.__eq__» ⟨[.ref l, .str b u], []⟩) (fun _ R s => s.heap.get? l = some o ∧ R (.ok (.ret .notImplemented)) s) :=
  .of_wp fun prog w A R s h => by
    obtain ⟨hp, g, d, tk, os⟩ := s; obtain ⟨hl, h⟩ := h
    have f1 := F.sub_str_dict
    show wpAny _ _ (Builtin.Dict.dictSlotArgs "__eq__" ⟨[.ref l, .str b u], []⟩ >>= _) _ _ _
    refine wpAny_bind ?_
    unfold Builtin.Dict.dictSlotArgs
    refine wpAny_bind (wpAny_notOrdered_dict (show Shared.TypeIs ⟨hp, g, d, tk, os⟩ (.ref l) "dict" from ⟨_, hl, hc⟩) ?_)
    show wpAny _ _ (pure (Value.ref l, Value.str b u)) _ _ _
    refine wpAny_pure ?_
    wp_walk
    exact ⟨_, rfl, h⟩
theorem q_str_dict {A : Around} {s : Shared} {l : Addr} {o : Obj} (b : Str) (u : Tok) (hl : s.heap.get? l = some o) (hc : o.cls = .type "dict") (hd : ∃ es ep, o.data = .dict es ep) (hu : A.units < cLine) : EqAt A s (.str b u) (.ref l) false := fun prog w E Q h => by
  unfold eqBool
  refine wpAny_holding ?_
  refine wpAny_ite_split (fun hab => absurd (eq_of_beq hab) nofun) (fun _ => ?_)
  refine wpAny_bind ?_
  refine rc_eq_decline_or (k := false) (typeIs_str s b u) ⟨_, hl, hc⟩ (by decide) F.sub_dict_str F.slot_str_eq F.slot_dict_eq_refl
    (fun _ hq => call_meets F.slot_str_eq (typeIs_str s b u) F.entry_str_eq (F.args_str_eq_2 _ _) (q_str_eq_dict b u l o hc hd) ⟨hl, hq⟩)
    (fun _ hq => call_meets F.slot_dict_eq_refl ⟨_, hl, hc⟩ F.entry_dict_eq (F.args_dict_eq_2 _ _) (q_dict_eq_str l o hc b u) ⟨hl, hq⟩)
    (fun _ hq => wpAny_of_eq (rfl : isSame (.str b u) (.ref l) = pure false) hq) (.inr hu) (wpAny_truthy_bool h)
/-- a value that may stand where a name is asked -/
inductive EltV (H : Hp) : V → Prop where
  | flat {x : V} (h : flatV x = true) : EltV H x
  | lst {a : Addr} {xs : List V} (h : H a = some (.lst xs)) : EltV H (.ref a)
  | tup {a : Addr} {xs : List V} (h : H a = some (.tup xs)) : EltV H (.ref a)
  | dct {a : Addr} {kvs : List (Key × V)} (h : H a = some (.dK kvs)) : EltV H (.ref a)
theorem EltV.same {H H' : Hp} (s : Same H H') {x : V} (h : EltV H x) : EltV H' x := by
  cases h with
  | flat h => exact .flat h
  | lst h => exact .lst (s _ _ h)
  | tup h => exact .tup (s _ _ h)
  | dct h => exact .dct (s _ _ h)
def inS (x : V) (ss : List Str) : Bool := ss.any fun z => decide (x = .str z)
theorem inS_iff {x : V} {ss : List Str} : inS x ss = true ↔ ∃ z ∈ ss, x = .str z := by
  unfold inS
  rw [List.any_eq_true]
  simp
theorem inS_str {z : Str} {ss : List Str} : inS (.str z) ss = decide (z ∈ ss) := by
  by_cases h : z ∈ ss
  · rw [decide_eq_true h]
    exact inS_iff.mpr ⟨z, h, rfl⟩
  · rw [decide_eq_false h]
    cases e : inS (.str z) ss with
    | false => rfl
    | true =>
      obtain ⟨y, hy, e⟩ := inS_iff.mp e
      cases e
      exact absurd hy h
def eqS (x : V) (u : Value) : Bool := match u with
  | .str z _ => decide (x = .str z)
  | _ => false
theorem any_eqS {x : V} : ∀ {ss : List Str} {us : List Value}, Vals (ss.map V.str) us → us.any (eqS x) = inS x ss
  | [], _, .nil => rfl
  | z :: ss, u :: us, .cons r t => by
    obtain ⟨k, rfl⟩ := r
    have e := any_eqS (x := x) (ss := ss) (us := us) t
    show (eqS x (.str z k) || us.any (eqS x)) = (decide (x = .str z) || ss.any fun z => decide (x = .str z))
    rw [e]
    rfl
theorem eqAt_S {X : Cx} {pins : List (Addr × Obj)} {σ : St} {H : Hp} {s : Shared} {A : Around} (I : Inv X pins σ H s) (hu : A.units < cLine) {x : V} {v : Value} (rx : RelV x v) (ex : EltV H x) (z : Str) (k : Tok) : EqAt A s (.str z k) v (decide (x = .str z)) := by
  cases ex with
  | flat fx =>
    cases x with
    | non => cases rx; exact EqAt.str_none z k
    | bl b => cases rx; exact EqAt.str_bool z k b
    | int b => obtain ⟨t, rfl⟩ := rx; exact EqAt.str_int z k b t
    | str b =>
      obtain ⟨t, rfl⟩ := rx
      have e := EqAt.str_str (A := A) (s := s) z k b t
      have q : (z == b) = decide (V.str b = V.str z) := by
        by_cases h : z = b
        · subst h; simp
        · have h2 : ¬ V.str b = V.str z := fun y => h (V.str.inj y).symm
          rw [decide_eq_false h2]
          simpa using h
      rw [← q]
      exact e
    | _ => exact absurd (show false = true from fx) Bool.false_ne_true
  | @lst a xs h =>
    cases (show v = Value.ref a from rx)
    obtain ⟨_, its, n, _, h1⟩ := (show ObjOk X.prog X.w H s.heap a (.lst xs) from I.hok a _ h)
    exact EqAt.str_list z k (items := its.toArray) ⟨_, h1, rfl, n, rfl⟩ hu
  | @tup a xs h =>
    cases (show v = Value.ref a from rx)
    obtain ⟨_, its, _, h1⟩ := (show ObjOk X.prog X.w H s.heap a (.tup xs) from I.hok a _ h)
    exact EqAt.str_tuple z k h1 hu
  | @dct a kvs h =>
    cases (show v = Value.ref a from rx)
    obtain ⟨_, _, vs, _, o, es, ep, h1, h2, h3, _⟩ := (show ObjOk X.prog X.w H s.heap a (.dK kvs) from I.hok a _ h)
    exact q_str_dict z k h1 h2.1 ⟨_, _, h3⟩ hu
theorem mem_eqS {X : Cx} {pins : List (Addr × Obj)} {σ : St} {H : Hp} {s : Shared} {A : Around} (I : Inv X pins σ H s) (hu : A.units < cLine) {x : V} {v : Value} (rx : RelV x v) (ex : EltV H x) : ∀ {ss : List Str} {us : List Value}, Vals (ss.map V.str) us → ∀ u ∈ us, EqAt A s u v (eqS x u)
  | [], _, .nil => fun u hu => by cases hu
  | z :: ss, u :: us, .cons r t => fun u' hu' => by
    rcases List.mem_cons.mp hu' with rfl | hu'
    · obtain ⟨k, rfl⟩ := r
      exact eqAt_S I hu rx ex z k
    · exact mem_eqS I hu rx ex t u' hu'
def rInS (K : PySem.W.Frag) (neg : Bool) : R2 := fun x y H Q => ∃ p ss, y = .ref p ∧ (SqL K H p (ss.map V.str) ∨ SqT K H p (ss.map V.str)) ∧ EltV H x ∧ Q (.bl (if neg then !inS x ss else inS x ss)) H
theorem op_inS {X : Cx} (hu : X.A.units + 64 < cLine) : OpR X (compareOp .In) (rInS X.K false) := by
  intro pins s σ H x y v u Q I rx ry h
  obtain ⟨p, ss, rfl, hq, ex, q⟩ := h
  cases ry
  rcases hq with hq | hq
  · obtain ⟨its, r, pl, hz⟩ := I.list hq
    refine SeqAt.in_listAt (eqS x) pl.isList (fun w hw => mem_eqS I (by first | exact Nat.lt_of_le_of_lt (Nat.le_add_right _ 64) hu | exact Nat.lt_of_le_of_lt (Nat.add_le_add_left (by decide) _) hu) rx ex r w (by simpa using hw)) ⟨.bl _, H, I, rfl, ?_⟩
    rw [show its.toArray.any (eqS x) = its.any (eqS x) by simp, any_eqS r]
    exact q
  · obtain ⟨its, r, pl, hz⟩ := I.tuple hq
    refine SeqAt.in_tupleAt (eqS x) pl (fun w hw => mem_eqS I (by first | exact Nat.lt_of_le_of_lt (Nat.le_add_right _ 64) hu | exact Nat.lt_of_le_of_lt (Nat.add_le_add_left (by decide) _) hu) rx ex r w (by simpa using hw)) ⟨.bl _, H, I, rfl, ?_⟩
    rw [show its.toArray.any (eqS x) = its.any (eqS x) by simp, any_eqS r]
    exact q
theorem op_notInS {X : Cx} (hu : X.A.units + 64 < cLine) : OpR X (compareOp .NotIn) (rInS X.K true) := by
  intro pins s σ H x y v u Q I rx ry h
  obtain ⟨p, ss, rfl, hq, ex, q⟩ := h
  cases ry
  rcases hq with hq | hq
  · obtain ⟨its, r, pl, hz⟩ := I.list hq
    refine SeqAt.notIn_listAt (eqS x) pl.isList (fun w hw => mem_eqS I (by first | exact Nat.lt_of_le_of_lt (Nat.le_add_right _ 64) hu | exact Nat.lt_of_le_of_lt (Nat.add_le_add_left (by decide) _) hu) rx ex r w (by simpa using hw)) ⟨.bl _, H, I, rfl, ?_⟩
    rw [show its.toArray.any (eqS x) = its.any (eqS x) by simp, any_eqS r]
    exact q
  · obtain ⟨its, r, pl, hz⟩ := I.tuple hq
    refine SeqAt.notIn_tupleAt (eqS x) pl (fun w hw => mem_eqS I (by first | exact Nat.lt_of_le_of_lt (Nat.le_add_right _ 64) hu | exact Nat.lt_of_le_of_lt (Nat.add_le_add_left (by decide) _) hu) rx ex r w (by simpa using hw)) ⟨.bl _, H, I, rfl, ?_⟩
    rw [show its.toArray.any (eqS x) = its.any (eqS x) by simp, any_eqS r]
    exact q
end L2
/-! sorted(t), t a tuple of texts -/
namespace L2
open PySem PySem.Spec PyProof.Rows
theorem q_collectT {prog : Program} {w : World} {A : Around} {E : Value → Shared → Prop} {s : Shared} {l : Addr} {vs : List Value} {Q : List Value → Shared → Prop} (hl : IsTup s.heap l vs.toArray)
    (h : ∀ h', (∀ b o, s.heap.get? b = some o → h'.get? b = some o) → Q vs { s with heap := h' }) (hsz : vs.length ≤ sizeLine) :
    wpAny (model prog w) A (collect (.ref l)) Q E s := by
  obtain ⟨o, ho, hc, n, hd⟩ := id hl
  have F := h ((s.heap.push (seqObj "list" #[] 0)).update s.heap.objs.size (Obj.mapSeq (· ++ vs.toArray))) (fun b u e => by
    rw [Heap.get?_update_ne _ _ _ _ (Nat.ne_of_lt (Heap.lt_size e))]
    exact Heap.get?_push_of_some _ e)
  unfold collect
  refine wpAny_bind (wpAny_runValue (codeAny_builtin entry_proto_collect' ?_))
  show wpAny _ _ (do again (.builtin "list.__iadd__" ⟨[← newList [], .ref l], []⟩)) _ _ s
  refine wpAny_bind (wpAny_newList (wpAny_pure ⟨Code.quiet_builtin _ (by decide +kernel), codeAny_builtin entry_list_iadd' ?_⟩))
  show wpAny _ _ (Builtin.List.listExtendWith (.ref s.heap.objs.size) (.ref l) (.ref s.heap.objs.size)) _ _ { s with heap := s.heap.push (seqObj "list" #[] 0) }
  unfold Builtin.List.listExtendWith
  have ho' : (s.heap.push (seqObj "list" #[] 0)).get? l = some o := Heap.get?_push_of_some _ ho
  refine wpAny_bind (wpAny_typeOf (T := "tuple") ⟨o, ho', hc⟩ ?_)
  rw [if_pos (by rw [show (Value.type "tuple" == Value.type "tuple") = true by rfl]; simp)]
  refine wpAny_bind (listItems_at ho' hd ?_)
  refine wpAny_bind (listItems_at (xs := #[]) (n := 0) (Heap.get?_push_size _ rfl) rfl ?_)
  rw [if_neg (by simp)]
  refine wpAny_bind (listUpdate_at (xs := #[]) (n := 0) (Heap.get?_push_size _ rfl) rfl ?_ (Nat.zero_le _) (by show (#[] ++ vs.toArray).size ≤ sizeLine + 1; simp only [Array.size_append, List.size_toArray, List.length_nil]; omega))
  refine wpAny_pure ?_
  show wpAny (model prog w) A (do
      let o ← load s.heap.objs.size
      match o.data with
      | .seq xs _ => pure xs.toList
      | _ => unsupported "internal:collect") Q E { s with heap := (s.heap.push (seqObj "list" #[] 0)).update s.heap.objs.size (Obj.mapSeq (· ++ vs.toArray)) }
  refine wpAny_bind (wpAny_load (get?_update_seq (Heap.get?_push_size _ rfl) _) ?_)
  show wpAny _ _ (pure ((#[] : Array Value) ++ vs.toArray).toList) Q E _
  rw [show ((#[] : Array Value) ++ vs.toArray).toList = vs by simp]
  exact wpAny_pure F
section
variable {X : Cx}
def rSortedST (K : PySem.W.Frag) : List V → Hp → VK → Prop := fun vs H Q => ∃ (a : Addr) (xs : List Str), vs = [V.ref a] ∧ SqT K H a (xs.map V.str) ∧ xs.length < 64 ∧
  ∀ (ys : List Str) (p : Addr), ys.Perm xs → sortedS ys = true → H p = none → Q (.ref p) (upd H p (.lst (ys.map V.str)))
theorem cr_sortedST : CallR X (.builtin "sorted") (rSortedST X.K) := by
  intro pins s σ H xs us Q I r q
  obtain ⟨a, ks, ex, hd, h64, q⟩ := q
  subst ex
  obtain ⟨u, eu, rx⟩ := vals1 r
  subst eu
  cases rx
  obtain ⟨its, rv, ht, hz⟩ := I.tuple hd
  have hal : its.length = ks.length := by
    have e := rv.length
    rw [List.length_map] at e
    exact e.symm
  have hS : StrsAre its ks := rv.strs
  refine Calls.call_function_entry PyProof.Rows.kind_sorted PyProof.Rows.plain_sorted PyProof.Rows.entry_sorted (PyProof.Rows.args_sorted1 _) ?_
  unfold Builtin.«sorted»
  refine wpAny_bind (m := checkCount "sorted" 1 1 _) (wpAny_pure ?_)
  refine wpAny_bind (q_collectT ht (fun h' hk => ?_) (by rw [hal, sizeLine_eq]; omega))
  have I1 : Inv X pins σ H { s with heap := h' } := I.kept (t' := s.toks) hk
  refine wpAny_bind (wpAny_newList ?_ (by rw [hal, sizeLine_eq]; omega))
  have hoL : (h'.push (seqObj "list" its.toArray 0)).get? h'.objs.size = some (seqObj "list" its.toArray 0) := Heap.get?_push_size _ rfl
  show wpAny _ _ _ _ _ { s with heap := h'.push (seqObj "list" its.toArray 0) }
  refine wpAny_bind (wpAny_holding (wpAny_call_entry PyProof.Rows.slot_list_sort ⟨_, hoL, rfl⟩ PyProof.Rows.entry_list_sort
    (list_sort_treeK strKind_oneLt (s := { s with heap := h'.push (seqObj "list" its.toArray 0) }) hoL hS.keysOf (fun v₁ v₂ rest e => keyKind_strs (by rw [← e]; exact hS)) (by rw [hal]; exact h64) fun st' hp hs => ⟨_, rfl, ?_⟩)
    (PyProof.Rows.args_list_sort _)))
  obtain ⟨ys, g1, g2, g3⟩ := sorted_out_str hS hp hs
  obtain ⟨e', he'⟩ := PyProof.Rows.sortedHeap_at (vs := its) (out := (arrOf st').map (·.2)) hoL
  have hlen : (ys.map V.str).length ≤ sizeLine := by
    rw [List.length_map, g2.length_eq]
    exact Nat.le_trans (Nat.le_of_lt h64) (by decide)
  refine wpAny_pure ⟨_, rfl, .ref h'.objs.size, upd H h'.objs.size (.lst (ys.map V.str)), I1.laid (t' := s.toks) (fun b u e => ?_) (Nat.le_refl _)
    (show ObjOk X.prog X.w _ _ _ (.lst (ys.map V.str)) from ⟨hlen, ((arrOf st').map (·.2)).toList, e', vals_of_strs g1, by rw [Array.toArray_toList]; exact he'⟩), rfl, q ys _ g2 g3 (I1.hok.fresh (Nat.le_refl _))⟩
  have hb : b < h'.objs.size := Heap.lt_size e
  rw [PyProof.Rows.sortedHeap_old (Nat.ne_of_lt hb) (by rw [size_push']; exact Nat.lt_succ_of_lt hb)]
  exact Heap.get?_push_of_some _ e
end
end L2
/-! an own error over ValueError whose __init__ says super().__init__('..') and then self.f = f -/
namespace PySem
namespace QX
open PySem.W PySem.Calls PyProof.Rows PySem.HandSPX
def iA (f : Str) (p1 p2 : Pos) : Arguments := { posonlyargs := [], args := [{ arg := "self", annotation := none, pos := p1 }, { arg := f, annotation := none, pos := p2 }], vararg := none, kwonlyargs := [], kw_defaults := [], kwarg := none, defaults := [] }
def iB (f t : Str) (k : Nat) (q1 q2 q3 q4 q5 q6 q7 q8 q9 q10 : Pos) : List Stmt :=
  [.Expr (.Call (.Attribute (.Call (.Name "super" q1) [] [] q2) "__init__" q3) [.Constant (.str t) k q4] [] q5) q6, .Assign [.Attribute (.Name "self" q7) f q8] (.Name f q9) q10]
def iS (f : Str) : Scope := { kind := .function, names := [("self", .local), (f, .local), ("__class__", .free), ("super", .globalImplicit)], isGenerator := false, isCoroutine := false, more := [] }
/-- what the written part says of the class at C (its __init__ at fI, the cell of __class__ at cc, the code at cda) -/
structure OwnTxt (P : Program) (K : Frag) (mg : Str → Option Value) (cn f : Str) (C fI : Addr) : Prop where
  gC : mg cn = some (.ref C)
  gS : mg "super" = none
  cls : ∃ nm q N bs bm sn sub ab col dd k0 k1 k2 k3 k5, K.lookup C = some (excClassObj nm q C N bs bm true sn sub ab col dd k0 k1 k2 k3 k5 "ValueError.__new__") ∧ refsVE bm = true ∧ alongIn K "__init__" bm = some (some (.builtin "ValueError.__init__"))
  sa : findIn K (.ref C) "__setattr__" = some (some (.builtin "object.__setattr__"))
  ga : findIn K (.ref C) "__getattribute__" = some (some (.builtin "BaseException.__getattribute__"))
  gg : findIn K (.ref C) "__getattr__" = some none
  noN : findIn K (.ref C) f = some none
  iC : findIn K (.ref C) "__init__" = some (some (.ref fI))
  tC : typeIn K (.ref fI) = some (.type "function")
  kC : keepIn K (.ref C) = true
  exC : subIn K (.ref C) (.type "BaseException") = some true
  veC : subIn K (.ref C) (.type "ValueError") = some true
  slC : mroIn K C (.ref C) = some true
  tyC : typeIn K (.ref C) = some (.type "type")
  hdC : hasDictIn K C = true
  te : exmOne K (.ref C) (.ref C) = some true
  op : nsIn K cStatics "thirdparty.any" = some none
  top : (P.main.scope.names.lookup ("super" : Str)).isSome = false
  fn : ∃ (qual t : Str) (kk : Nat) (oc : Value) (od : Option Addr) (doc pm : Value) (an : Option Addr) (cda cc : Addr) (ct : Value) (osl : Array (Option Value)) (p1 p2 q1 q2 q3 q4 q5 q6 q7 q8 q9 q10 : Pos),
    K.lookup fI = some ⟨oc, od, .func (ksFn "__init__" qual (iA f p1 p2) (iB f t kk q1 q2 q3 q4 q5 q6 q7 q8 q9 q10) (iS f) .none .none doc pm an (.ref cda) ct cc), osl⟩ ∧ codeIn K (.ref cda) qual = true ∧ (q3.endLine == q5.line) = true ∧
    (∃ ccl cdd vs ccs file tf, K.lookup cda = some ⟨ccl, cdd, .fields vs, ccs⟩ ∧ vs[2]? = some (.str file tf) ∧ ((P.main.file : Str) == file) = true) ∧
    ∃ cl cld csl, K.lookup cc = some ⟨cl, cld, .cell (some (.ref C)), csl⟩
  sc1 : (iS f).names.lookup f = some .local
  sc2 : (iS f).names.lookup ("super" : Str) = some .globalImplicit
  sc3 : (iS f).names.lookup ("__class__" : Str) = some .free
  sc4 : (iS f).names.lookup ("self" : Str) = some .local
  dbg : (f == ("__debug__" : Str)) = false
  bnd : ∀ (qual : Str) (p1 p2 : Pos) (b : List Stmt) (doc pm : Value) (an : Option Addr) (cdv ct : Value) (cc : Addr) (s : Shared) (u v : Value), BindsTo s (ksFn "__init__" qual (iA f p1 p2) b (iS f) .none .none doc pm an cdv ct cc) ⟨[u, v], []⟩ [("self", u), (f, v)]
  lk1 : ∀ (u v : Value), ([("self", u), (f, v)] : List (Str × Value)).reverse.lookup ("self" : Str) = some u
  lk2 : ∀ (u v : Value), ([("self", u), (f, v)] : List (Str × Value)).reverse.lookup f = some v
/-- what __init__ leaves of a fresh exception at x -/
structure InitEnd (f : Str) (h h' : Heap) (x C dx t1 : Addr) (v : Value) : Prop where
  keep : ∀ b o, b ≠ x → h.get? b = some o → h'.get? b = some o
  obj : h'.get? x = some { cls := .ref C, dict := some dx, data := .fields #[.ref t1, .none, .none, .none, .bool false, .none] }
  dbig : h.objs.size ≤ dx
  dne : dx ≠ x
  ns : h'.Ns1 dx (fun y => if y = f then some v else none)
section
variable {prog : Program} {w : World} {A : Around} {E : Value → Shared → Prop} {h : Heap} {g : Array GenState} {d : Drawn} {t : Nat} {os : OsState}
variable {nm q : Str} {C N : Addr} {bs bm : List Value} {hdct : Bool} {sn : List Str} {sub : List Value} {ab : Bool} {col : Option Bool} {dd : Option Addr} {k0 k1 k2 k3 k5 : Option Value}
/-- the bound ValueError.__init__, called -/
theorem q_call_bw {u e t0 : Addr} {rest : List Value} {Q : Value → Shared → Prop}
    (hC : h.get? C = some (excClassObj nm q C N bs bm hdct sn sub ab col dd k0 k1 k2 k3 k5 "ValueError.__new__")) (he : h.get? e = some (excO C t0)) (hu : h.get? u = some (kxs_mw "ValueError.__init__" e)) (hrest : rest.length ≤ sizeLine)
    (hq : ∀ h' t1, (∀ b o, b ≠ e → h.get? b = some o → h'.get? b = some o) → h'.get? e = some (excO C t1) → Q .none ⟨h', g, d, t, os⟩) :
    wpAny (model prog w) A (call (.ref u) rest) Q E ⟨h, g, d, t, os⟩ := by
  have F := F.excBase_ValueError
  refine wpAny_call (codeAny_of_tree ?_)
  show wpAny _ A.in1 (callAny (.ref u) ⟨rest, []⟩) _ _ _
  simp only [callAny]
  refine wpAny_bind (wpAny_load hu ?_)
  simp only [kxs_mw, show (Value.type "method-wrapper" == Value.type "method" || Value.type "method-wrapper" == Value.type "builtin_function_or_method" || Value.type "method-wrapper" == Value.type "method-wrapper") = true by decide, if_true]
  refine KFB.if_so (by decide) ?_
  refine wpAny_bind (check_bound_init F.toExcCallFacts hC he rfl ?_)
  refine wpAny_bind (wpAny_pure (wpAny_pure ?_))
  refine ⟨plainId_quiet F.init.plain _, codeAny_builtin F.initEntry ?_⟩
  rw [Around.under_plainId F.init.plain _]
  wp_walk
  refine hq _ h.objs.size (fun b o hb ho => ?_) ?_
  · rw [Heap.get?_update_other _ _ (Ne.symm hb)]
    exact Heap.get?_push_of_some _ ho
  · rw [Heap.get?_update_self _ (Heap.get?_push_of_some _ he) rfl]
    rfl
end
section
variable {prog : Program} {w : World} {A : Around} {E : Value → Shared → Prop} {R : Result → Shared → Prop} {s : Shared} {K : Frag} {mg : Str → Option Value} {C fI : Addr} {cn f : Str}
theorem one_size (v : Value) : [v].length ≤ sizeLine := by
  rw [sizeLine_eq]
  exact (by decide : 1 ≤ 16777216)
theorem ldX {M : Model} {s : Shared} {env : Env} {m : Str → Option Value} {x : Str} {pos : Pos} {v : Value} {Q : Value → Shared → Prop} {A : Around} {E : Value → Shared → Prop} (hn : s.heap.Ns env.locals m) (hv : m x = some v) (h : Q v s)
    (hk : env.scope.kind = .function) (hl : env.kindOf x = some .local) (hd : (x == ("__debug__" : Str)) = false) : wpAny M A (eval (.Name x pos) env) Q E s := wpAny_Name (wpAny_loadName_local hk hl hn hv h) hd
theorem own_init (T : OwnTxt prog K mg cn f C fI) {x t0 : Addr} {v : Value} (X : K.In s.heap) (hlim : s.heap.NoLimit) (hgl : s.heap.Ns mainGlobals mg) (hbl : ∃ mb, s.heap.Ns builtinsNs mb ∧ ∀ x : Str, x ≠ "__name__" → mb x = bootBuiltins x)
    (hx : s.heap.get? x = some (excO C t0)) (hnx : K.lookup x = none) (hroom : A.depth < recursionLimit)
    (hq : ∀ h' tk dx t1, InitEnd f s.heap h' x C dx t1 v → R (.ok (.ret .none)) { s with heap := h', toks := tk }) :
    codeAny (model prog w) A (.call (.ref fI) ⟨[.ref x, v], []⟩) R s := by
  obtain ⟨qual, tx, kk, oc, od, doc, pm, an, cda, cc, ct, osl, p1, p2, q1, q2, q3, q4, q5, q6, q7, q8, q9, q10, ho, hcd, hl, ⟨ccl, cdd, vs, ccs, file, tf, hcda, hvs, hfile⟩, ⟨cl, cld, csl, hcell⟩⟩ := T.fn
  obtain ⟨nm, q, N, bs, bm, sn, sub, ab, col, dd, k0, k1, k2, k3, k5, hC, hbm, hal⟩ := T.cls
  obtain ⟨mb, hmb, hmb2⟩ := hbl
  have hcl : clsIn K C = some { name := nm, bases := bs, mro := .ref C :: bm, ns := N, qualname := q, hasDict := true, slotNames := sn, subclasses := sub, abstract := ab, collection := col, hasDel := false } := by unfold clsIn; rw [hC] <;> rfl
  refine ks_codeAny_call_defAt (binds := [("self", .ref x), (f, v)]) hroom (X _ _ ho) rfl hlim (PySem.W.codeRec_of X hcd) rfl (T.bnd _ _ _ _ _ _ _ _ _ _ _ _ _) ?hcell ?hloc (fun h₁ hns k => ?_) rfl rfl rfl
  case hcell =>
    intro y hy
    have hy' : y = (("self" : Str), NameKind.local) ∨ y = (f, NameKind.local) ∨ y = (("__class__" : Str), NameKind.free) ∨ y = (("super" : Str), NameKind.globalImplicit) := by
      have z : y ∈ (iS f).names := hy
      simpa [iS] using z
    rcases hy' with e | e | e | e <;> (rw [e]; intro z; cases z)
  case hloc =>
    intro y hy
    have hy' : y = (("self" : Str), Value.ref x) ∨ y = (f, v) := by simpa using hy
    rcases hy' with e | e
    · rw [e]; rfl
    · rw [e]; exact T.sc1
  have hxL : s.heap.objs.size ≠ x := Nat.ne_of_gt (Heap.lt_size hx)
  have X₁ : K.In h₁ := X.keeps k
  have hx₁ := k _ _ hx
  have hC₁ := X₁ _ _ hC
  have lt₁ : s.heap.objs.size < h₁.objs.size := hns.lt
  have hgl₁ : h₁.Ns mainGlobals mg := hgl.keeps k
  have hmb₁ : h₁.Ns builtinsNs mb := hmb.keeps k
  have hsn : mb "super" = some (.type "super") := (hmb2 "super" (by decide)).trans (by first | boot_by_name | rfl | kernel_rfl)
  refine ks_wpAt_execs_cons (ks_wpAt_Expr_any (ks_wpAt_MethodCall (pl := (do return (← importBound (.Call (.Name "super" q1) [] [] q2) (callEnv (ksFn "__init__" qual (iA f p1 p2) (iB f tx kk q1 q2 q3 q4 q5 q6 q7 q8 q9 q10) (iS f) .none .none doc pm an (.ref cda) ct cc) s.heap.objs.size fI)).getD true)) ?_ (by
    rw [arm_eval_Call]
    unfold methodCall methodCallPos
    simp only [hl, Bool.or_true, if_true]
    rfl)) (by rfl) (by rfl))
  refine ks_wpAt_super_base T.sc2 T.sc3 (by decide) rfl (X₁ _ _ ho) rfl (by rfl) rfl (X₁ _ _ hcda) rfl hvs hfile T.top ?_
  refine ks_loadName_global rfl T.sc2 (Calls.loadGlobal_builtin hgl₁ T.gS hmb₁ hsn ⟨rfl, ?_⟩)
  refine wpAny_loadName_free rfl T.sc3 (by rfl) ⟨_, X₁ _ _ hcell, rfl⟩ ?_
  refine wpAny_loadName_local rfl T.sc4 hns (T.lk1 _ _) ?_
  refine ks_wpAny_isType_cls hC₁ rfl ⟨rfl, ?_⟩
  refine ks_wpAny_call_super hC₁ rfl hx₁ rfl (fun c e => by cases e) (looks_mroIn X₁ T.slC) (fun h₂ eso k₂ => ?_)
  have X₂ : K.In h₂ := X₁.keeps k₂
  have I₂ : PySem.W.InstAt h₂ x (excO C t0) C none := ⟨k₂ _ _ hx₁, rfl, rfl, trivial⟩
  have hxC : x ≠ C := fun z => by rw [z, hC] at hnx; cases hnx
  refine kxs_getMethod kxs_ValueError eso (looks_opaque X₂ T.op) (l₀ := .ref C :: bm) (l := bm) (fun A' Q' E' s' k' q' => wpAny_bind ((looks_clsIn X₂ hcl) A' _ E' s' k' (wpAny_pure q'))) (by simp [List.dropWhile_cons]) X₂ hal (I₂.type.andThen (looks_subIn X₂ T.veC)) hxC (by decide) ?_
  refine kxs_callWith (i := "ValueError.__init__") (x := x) (by rfl) ?_
  refine evalArgs_plain (Calls.spliced_cons (Calls.Constant_str (k := kk) (pos := q4) (Calls.spliced_nil ?_)))
  refine ⟨Heap.get?_push_at rfl rfl, ?_⟩
  have hC₃ : (h₂.push (kxs_mw "ValueError.__init__" x)).get? C = some (excClassObj nm q C N bs bm true sn sub ab col dd k0 k1 k2 k3 k5 "ValueError.__new__") := Heap.get?_push_of_some _ (k₂ _ _ hC₁)
  have hx₃ : (h₂.push (kxs_mw "ValueError.__init__" x)).get? x = some (excO C t0) := Heap.get?_push_of_some _ (k₂ _ _ hx₁)
  refine q_call_bw hC₃ hx₃ (Heap.get?_push_at rfl rfl) (one_size _) (fun h₄ t1 k₄ hx₄ => ?_)
  have kall : ∀ b o, b ≠ x → s.heap.get? b = some o → h₄.get? b = some o := fun b o hb e => k₄ b o hb (Heap.get?_push_of_some _ (k₂ _ _ (k _ _ e)))
  have k14 : ∀ b o, b ≠ x → h₁.get? b = some o → h₄.get? b = some o := fun b o hb e => k₄ b o hb (Heap.get?_push_of_some _ (k₂ _ _ e))
  have X₄ : K.In h₄ := fun a o e => by
    by_cases ha : a = x
    · rw [ha, hnx] at e; cases e
    · exact kall a o ha (X a o e)
  have hLx : s.heap.objs.size ≠ x := hxL
  have hns₄ : h₄.Ns s.heap.objs.size fun y => ([(("self" : Str), Value.ref x), (f, v)] : List (Str × Value)).reverse.lookup y := by
    obtain ⟨o, es, ep, e1, r⟩ := hns
    exact ⟨o, es, ep, k14 _ _ hLx e1, r⟩
  have sz₄ : s.heap.objs.size ≤ h₄.objs.size := Nat.le_of_lt hns₄.lt
  refine wpAt_of_wpAny ?_
  refine wpAny_execs_cons (plainObj_wpAny_Assign_Attribute ?_ (by rfl))
  refine ldX hns₄ (T.lk2 _ _) (ldX hns₄ (T.lk1 _ _) ?_ rfl T.sc4 (by decide)) rfl T.sc1 T.dbg
  refine set_plain X₄ (ox := excO C t1) (od := none) ⟨hx₄, rfl, rfl, trivial⟩ T.sa ?_
  refine exc_osa X₄ hx₄ hcl (show refsVE (.ref C :: bm) = true from hbm) rfl T.noN (fun h₅ tk₅ dx k₅ dn dne hx₅ hn₅ => ?_)
  show wpAny _ _ (execs _ _) _ _ _
  exact wpAny_execs_nil (hq h₅ tk₅ dx t1 ⟨fun b o hb e => k₅ b o hb (kall b o hb e), hx₅, Nat.le_trans sz₄ dn, dne, hn₅⟩)
end
/-- a made error -/
structure OwnMade (f : Str) (h h' : Heap) (e C d : Addr) (v : Value) : Prop where
  keep : ∀ b o, h.get? b = some o → h'.get? b = some o
  new : h.objs.size ≤ e
  obj : ∃ oe vs, h'.get? e = some oe ∧ oe.cls = .ref C ∧ oe.dict = some d ∧ oe.data = .fields vs ∧ vs[1]? = some .none
  dbig : h.objs.size ≤ d
  dne : d ≠ e
  ns : h'.Ns1 d (fun y => if y = f then some v else none)
section
variable {prog : Program} {w : World} {A : Around} {R : Result → Shared → Prop} {s : Shared} {K : Frag} {mg : Str → Option Value} {C fI : Addr} {cn f : Str}
theorem own_made (T : OwnTxt prog K mg cn f C fI) {v : Value} (X : K.In s.heap) (hlim : s.heap.NoLimit) (hgl : s.heap.Ns mainGlobals mg) (hbl : ∃ mb, s.heap.Ns builtinsNs mb ∧ ∀ x : Str, x ≠ "__name__" → mb x = bootBuiltins x)
    (hroom : A.depth + 1 < recursionLimit)
    (hq : ∀ h' tk e d, OwnMade f s.heap h' e C d v → R (.ok (.ret (.ref e))) { s with heap := h', toks := tk }) :
    codeAny (model prog w) A (.call (.ref C) ⟨[v], []⟩) R s := by
  obtain ⟨nm, q, N, bs, bm, sn, sub, ab, col, dd, k0, k1, k2, k3, k5, hC, hbm, _⟩ := T.cls
  obtain ⟨mb, hmb, hmb2⟩ := hbl
  obtain ⟨hp, g, dr, tk, os⟩ := s
  have k : ∀ b o, hp.get? b = some o → ((hp.push (kdv_tup [v])).push (excO C hp.objs.size)).get? b = some o := fun b o e => Heap.get?_push_of_some _ (Heap.get?_push_of_some _ e)
  have hget : ((hp.push (kdv_tup [v])).push (excO C hp.objs.size)).get? (hp.objs.size + 1) = some (excO C hp.objs.size) := by heap_get
  have hnx : K.lookup (hp.objs.size + 1) = none := by
    cases e : K.lookup (hp.objs.size + 1) with
    | none => rfl
    | some o =>
      have z : hp.get? (hp.objs.size + 1) = some o := X _ _ e
      exact absurd (Nat.lt_of_succ_lt (Heap.lt_size z)) (Nat.lt_irrefl _)
  refine call_own F.excBase_ValueError (fun X => refsVE_contains X bm hbm) (X _ _ hC) (looks_findIn X T.iC) (fun self => bind_fn X self T.tC) (one_size v) ?_
  refine own_init (s := ⟨(hp.push (kdv_tup [v])).push (excO C hp.objs.size), g, dr, tk, os⟩) T (X.keeps k) (hlim.keeps k) (hgl.keeps k) ⟨mb, hmb.keeps k, hmb2⟩ hget hnx ?_ fun h' tk' dx t1 ⟨k', hx, dn, dne, hns⟩ => ?_
  · show A.depth + 1 < recursionLimit
    exact hroom
  · have old : ∀ b o, hp.get? b = some o → h'.get? b = some o := fun b o e => k' b o (Nat.ne_of_lt (Nat.lt_succ_of_lt (Heap.lt_size e))) (k b o e)
    have z : hp.objs.size + 1 + 1 ≤ dx := by
      first
        | (simpa only [Heap.size_push] using dn)
        | exact dn
        | (have q := dn; rw [Heap.size_push, Heap.size_push] at q; exact q)
    exact ⟨rfl, hq h' tk' (hp.objs.size + 1) dx ⟨old, Nat.le_succ _, ⟨_, _, hx, rfl, rfl, rfl, rfl⟩, Nat.le_trans (Nat.le_trans (Nat.le_succ _) (Nat.le_succ _)) z, dne, hns⟩⟩
end
end QX
end PySem
namespace L2
open PySem PySem.Spec PyProof.Rows
theorem relO_one {f : Str} {v : V} {v' : Value} (r : RelV v v') (g : Str) : RelO (List.lookup g [(f, v)]) (if g = f then some v' else none) := by
  by_cases hw : g = f
  · subst hw
    rw [if_pos rfl]
    have q : List.lookup g [(g, v)] = some v := by simp [List.lookup]
    rw [q]
    exact r
  · rw [if_neg hw]
    have qw : (g == f) = false := by simpa using hw
    have q2 : List.lookup g [(f, v)] = none := by simp [List.lookup, qw]
    rw [q2]
    trivial
section
variable {X : Cx} {C fI : Addr} {cn f : Str}
/-- C(e) -/
def tMkOwn (C : Addr) (f : Str) (ta : TA) : St → Hp → XK → Prop := fun σ H Q => ta σ H fun vs H1 => ∃ v, vs = [v] ∧ ∀ d, H1 d = none → Q (.ref C) (some d) (upd H1 d (.xd [(f, v)]))
theorem pmk_ownS {a : Expr} {ta : TA} {p pos : Pos} {k : Nat} (T : PySem.QX.OwnTxt X.prog X.K X.mg cn f C fI) (hr : Room k X.A) (ha : PA X [a] ta) (hg : Gl X cn) (hdb : (cn == ("__debug__" : Str)) = false := by decide)
    (he : starEach (a :: []) X.env = (false, eval a X.env) :: starEach [] X.env := by rfl) (hpl : (backTo pos (starEach [] X.env)).any (·.1) = false := by rfl) :
    PMk X (.Call (.Name cn p) [a] [] pos) (tMkOwn C f ta) := by
  intro pins s σ H Q I h
  refine wpAny_Call_Name_kw (ld_glob I hg T.gC ?_ hdb)
  refine PySem.W.callWith_K (h₀ := X.base) I.ok.mod.kin T.kC (thn (ha.run pos pins s σ H _ I h) fun us s1 hh => ?_) he hpl
  obtain ⟨vs, H1, I1, r1, v, ev, q1⟩ := hh
  subst ev
  refine ⟨I1.kIn, ?_⟩
  cases r1 with
  | cons rv rn =>
    rename_i v' us'
    cases rn
    show wpAny _ _ (call (.ref C) [v']) _ _ _
    have hlim := I1.nolimit
    have hgl := I1.mod.glob.keeps I1.bk
    have hbl : ∃ mb, s1.heap.Ns builtinsNs mb ∧ ∀ x : Str, x ≠ "__name__" → mb x = bootBuiltins x := by
      obtain ⟨mb, h1, h2⟩ := I1.mod.blt
      exact ⟨mb, h1.keeps I1.bk, h2⟩
    obtain ⟨hp, g, dr, tk, os⟩ := s1
    refine wpAny_call (PySem.QX.own_made T I1.kIn hlim hgl hbl (by have := hr.dp; omega) fun h' tk' e d M => ?_)
    show MkP X pins σ Q (.ref e) ⟨h', g, dr, tk', os⟩
    obtain ⟨oe, fv, hoe, hc, hd, hdat, h1⟩ := M.obj
    have hns := M.ns
    obtain ⟨G', g1, g2⟩ := restrict h' fun b => decide (b ≠ e)
    have gk : ∀ b, b ≠ e → G'.get? b = h'.get? b := fun b hb => g1 b (decide_eq_true hb)
    have ge : G'.get? e = none := g2 e (by simp)
    have old : ∀ b o, hp.get? b = some o → G'.get? b = some o := fun b o q => (gk b (Nat.ne_of_lt (Nat.lt_of_lt_of_le (Heap.lt_size q) M.new))).trans (M.keep b o q)
    have ob : ObjOk X.prog X.w (upd H1 d (.xd [(f, v)])) G' d (.xd [(f, v)]) :=
      ⟨_, hns.at (fun o q => (gk d M.dne).trans q), fun g => relO_one rv g⟩
    have J : Inv X pins σ (upd H1 d (.xd [(f, v)])) ⟨G', g, dr, tk', os⟩ := I1.laid (t' := tk') old M.dbig ob
    refine ⟨e, oe, fv, ⟨G', g, dr, tk', os⟩, _, .ref C, some d, rfl, J, fun b o q => ?_, ge, hoe, ⟨hc, hd⟩, hdat, h1, ?_, rfl, I1.bare, raises_own T.exC T.tyC, q1 d (I1.hok.fresh M.dbig)⟩
    · by_cases hb : b = e
      · have q' : G'.get? b = some o := q
        rw [hb, ge] at q'; cases q'
      · exact (gk b hb).symm.trans q
    · rw [upd_ne (Ne.symm M.dne)]
      exact I1.hok.fresh M.new
/-- raise C(e) -/
def tRaiseS (C : Addr) (f : Str) (W : WX) (ta : TA) : TS := fun _ σ H => tMkOwn C f ta σ H fun cls d H' => W cls d σ H'
theorem ps_raiseS {a : Expr} {ta : TA} {W : WX} {p pos pos2 : Pos} {k : Nat} (hc : X.calm = true) (T : PySem.QX.OwnTxt X.prog X.K X.mg cn f C fI) (hr : Room k X.A) (tk : Takes X W) (ha : PA X [a] ta) (hg : Gl X cn) (hdb : (cn == ("__debug__" : Str)) = false := by decide)
    (he : starEach (a :: []) X.env = (false, eval a X.env) :: starEach [] X.env := by rfl) (hpl : (backTo pos (starEach [] X.env)).any (·.1) = false := by rfl) :
    PS X (.Raise (some (.Call (.Name cn p) [a] [] pos)) none pos2) (tRaiseS C f W ta) := ps_raise hc tk (pmk_ownS T hr ha hg hdb he hpl)
/-- e.f, e the exception that the suite holds (at a; its class cls, its dict d) -/
def tByOwn (C : Addr) (f : Str) (a : Addr) (cls : Value) (d : Option Addr) (te : TE) : TE := fun σ H Q => te σ H fun x H1 => x = .ref a ∧ cls = .ref C ∧ ∃ (dd : Addr) (v : V), d = some dd ∧ H1 dd = some (.xd [(f, v)]) ∧ Q v H1
theorem pe_byOwn {a : Addr} {oe : Obj} {cls : Value} {d : Option Addr} {pn : List (Addr × Obj)} {e : Expr} {te : TE} {pos : Pos} (T : PySem.QX.OwnTxt X.prog X.K X.mg cn f C fI) (hz : Zc cls d oe) (hf : ∃ vs, oe.data = .fields vs) (he : PE (X.suite a ((a, oe) :: pn)) e te)
    (hb : attributeBase e f X.env (eval e X.env) = eval e X.env := by rfl) :
    PE (X.suite a ((a, oe) :: pn)) (.Attribute e f pos) (tByOwn C f a cls d te) := by
  refine ⟨fun pins s σ H Q I h => ?_⟩
  refine attr_of hb (thn (he.run pins s σ H _ I h) fun u s1 hh => ?_)
  obtain ⟨x, H1, I1, rx, ex, ec, dd, v, ed, ea, q⟩ := hh
  subst ex
  obtain rfl : u = Value.ref a := rx
  subst ec
  subst ed
  obtain ⟨ha, _⟩ := I1.pin (a, oe) (List.mem_append_left _ List.mem_cons_self)
  obtain ⟨vs, hd⟩ := hf
  have hx : ObjOk X.prog X.w H1 s1.heap dd (.xd [(f, v)]) := I1.hok dd _ ea
  obtain ⟨mA, hns, hr⟩ := hx
  obtain ⟨od, ho, hl⟩ := lookIn_ns hns
  have l : List.lookup f [(f, v)] = some v := by simp [List.lookup]
  obtain ⟨u, hu, ru⟩ := RelO.some_of (v := v) (o := mA f) (by rw [← l]; exact hr f)
  have J : PySem.W.InstAt s1.heap a oe C (some od) := ⟨ha, hz.1, by unfold PySem.W.notCls; rw [hd] <;> rfl, by rw [hz.2]; exact ho⟩
  exact HandSPX.exc_get I1.kIn J T.ga T.gg T.exC (PySem.W.findObj_own T.hdC T.noN rfl (by rw [hl, hu])) (handed_of ru) ⟨v, H1, I1.tok _, ru, q⟩
end
end L2
namespace L2
open PySem PySem.Spec PyProof.Rows
/-! ### a def that is called -/
structure CF (P : Program) (w : World) (K : PySem.W.Frag) (mg : Str → Option Value) (base : Heap) (CX : CXT) (k : Nat) (x : Str) (ps : List Str) (sp : Sp) : Prop where
  ex : ∃ f fd, FnOk P w K mg base CX k f fd ps sp ∧ mg x = some (.ref f) ∧ PySem.W.keepIn K (.ref f) = true ∧ Binds K fd ps []
section
variable {X : Cx} {CX : CXT} {k : Nat} {ps : List Str} {sp : Sp} {E : XK} {x : Str} {p pos : Pos} {e : Expr} {es : List Expr} {ta : TE} {t : TA}
theorem pe_cf (c : CF X.prog X.w X.K X.mg X.base CX k x ps sp) (hr : Room k X.A) (hx : Passes CX X E) (ha : PA X (e :: es) t) (hg : Gl X x := by rfl)
    (hdb : (x == ("__debug__" : Str)) = false := by decide) (he : starEach (e :: es) X.env = (false, eval e X.env) :: starEach es X.env := by rfl) (hpl : (backTo pos (starEach es X.env)).any (·.1) = false := by rfl) :
    PE X (.Call (.Name x p) (e :: es) [] pos) (tCall sp [] E t) := by
  obtain ⟨f, fd, F, hm, hk, hb⟩ := c.ex
  exact pe_call F hr hg hm hk hb .nil hx ha hdb he hpl
theorem pe_cfS {E : St → XK} (c : CF X.prog X.w X.K X.mg X.base CX k x ps sp) (hr : Room k X.A) (hx : ∀ σ, PassesAt CX X σ (E σ)) (ha : PA X (e :: es) t) (hg : Gl X x := by rfl)
    (hdb : (x == ("__debug__" : Str)) = false := by decide) (he : starEach (e :: es) X.env = (false, eval e X.env) :: starEach es X.env := by rfl) (hpl : (backTo pos (starEach es X.env)).any (·.1) = false := by rfl) :
    PE X (.Call (.Name x p) (e :: es) [] pos) (tCallS sp E t) := by
  obtain ⟨f, fd, F, hm, hk, hb⟩ := c.ex
  exact pe_callS F hr hg hm hk hb hx ha hdb he hpl
end
/-! ### kinds -/
inductive Kd where | non | bl | int | str | lst | tup | dct
  deriving DecidableEq
def Kd.ty : Kd → String
  | .non => "NoneType" | .bl => "bool" | .int => "int" | .str => "str" | .lst => "list" | .tup => "tuple" | .dct => "dict"
/-- x is of that kind -/
inductive IsK (H : Hp) : V → Kd → Prop where
  | non : IsK H .non .non
  | bl (b : Bool) : IsK H (.bl b) .bl
  | int (i : Int) : IsK H (.int i) .int
  | str (z : Str) : IsK H (.str z) .str
  | lst {a : Addr} {xs : List V} (h : H a = some (.lst xs)) : IsK H (.ref a) .lst
  | tup {a : Addr} {xs : List V} (h : H a = some (.tup xs)) : IsK H (.ref a) .tup
  | dct {a : Addr} {kvs : List (Key × V)} (h : H a = some (.dK kvs)) : IsK H (.ref a) .dct
theorem IsK.same {H H' : Hp} (s : Same H H') {x : V} {k : Kd} (h : IsK H x k) : IsK H' x k := by
  cases h with
  | non => exact .non
  | bl b => exact .bl b
  | int i => exact .int i
  | str z => exact .str z
  | lst h => exact .lst (s _ _ h)
  | tup h => exact .tup (s _ _ h)
  | dct h => exact .dct (s _ _ h)
theorem IsK.elt {H : Hp} {x : V} {k : Kd} (h : IsK H x k) : EltV H x := by
  cases h with
  | non => exact .flat rfl
  | bl b => exact .flat rfl
  | int i => exact .flat rfl
  | str z => exact .flat rfl
  | lst h => exact .lst h
  | tup h => exact .tup h
  | dct h => exact .dct h
theorem IsK.tyX {K : PySem.W.Frag} {H : Hp} {x : V} {k : Kd} (h : IsK H x k) : TyX K H x (.type k.ty) := by
  cases h with
  | non => exact .base .non
  | bl b => exact .base (.bl b)
  | int i => exact .base (.int i)
  | str z => exact .base (.str z)
  | lst h => exact .base (.lst h)
  | tup h => exact .base (.tup h)
  | dct h => exact .base (.dK h)
/-- isinstance of a kind -/
def isaB (k : Kd) (T : String) : Bool := match k with
  | .bl => T == "bool" || T == "int"
  | k => T == k.ty
theorem kit_str (k : Kd) : kitB k.ty "str" = some (isaB k "str") := by cases k <;> decide +kernel
theorem kit_tuple (k : Kd) : kitB k.ty "tuple" = some (isaB k "tuple") := by cases k <;> decide +kernel
theorem kit_list (k : Kd) : kitB k.ty "list" = some (isaB k "list") := by cases k <;> decide +kernel
theorem kit_dict (k : Kd) : kitB k.ty "dict" = some (isaB k "dict") := by cases k <;> decide +kernel
theorem kit_int (k : Kd) : kitB k.ty "int" = some (isaB k "int") := by cases k <;> decide +kernel
theorem kit_bool (k : Kd) : kitB k.ty "bool" = some (isaB k "bool") := by cases k <;> decide +kernel
def rIs (T : String) : List V → Hp → VK → Prop := fun xs H Q => ∃ (x : V) (k : Kd), xs = [x, .ty T] ∧ IsK H x k ∧ Q (.bl (isaB k T)) H
section
variable {X : Cx} {p p2 pos : Pos} {e : Expr} {te : TE}
theorem call_is {T : String} (hk : ∀ k : Kd, kitB k.ty T = some (isaB k T)) : CallR X (.builtin "isinstance") (rIs T) := fun pins s σ H xs us Q I r ⟨x, k, ex, ik, q⟩ =>
  call_isi pins s σ H xs us Q I r ⟨x, .ty T, .type k.ty, .type T, isaB k T, ex, .ty T, ik.tyX, kit_ty (hk k), q⟩
theorem pe_isi {T : String} (hk : ∀ k : Kd, kitB k.ty T = some (isaB k T)) (hm : X.mg "isinstance" = none) (hT : X.mg T = none) (he : PE X e te) (hb : bootBuiltins T = some (.type T) := by decide +kernel) (hg : Gl X "isinstance" := by rfl) (hgT : Gl X T := by rfl)
    (hn : (PySem.Str.ofString T) ≠ "__name__" := by decide +kernel) (hd : ((PySem.Str.ofString T) == ("__debug__" : Str)) = false := by decide +kernel)
    (hs : starEach [e, .Name T p2] X.env = (false, eval e X.env) :: starEach [.Name T p2] X.env := by rfl) (hs2 : starEach [.Name T p2] X.env = (false, eval (.Name T p2) X.env) :: starEach [] X.env := by rfl) (hpl : (backTo pos (starEach [.Name T p2] X.env)).any (·.1) = false := by rfl) :
    PE X (.Call (.Name "isinstance" p) [e, .Name T p2] [] pos) (tCB (rIs T) (tCons te (tCons (tC (.ty T)) tNil))) :=
  pe_callB (X := X) (p := p) (pos := pos) (call_is hk) hg hm (by decide +kernel) (pa_cons he (pa_cons (pe_bltn (v := .ty T) hgT hT hb rfl hn hd) pa_nil hs2) hs) (by decide) (by decide) hs hpl
end
/-! ### slices of a list or a tuple -/
def rSlQ (K : PySem.W.Frag) : V → Option Int → Option Int → Hp → VK → Prop := fun x lo hi H Q => ∃ a xs, x = .ref a ∧ ((SqL K H a xs ∧ ∀ p, H p = none → Q (.ref p) (upd H p (.lst (cutV xs lo hi)))) ∨
  (SqT K H a xs ∧ (HT.sIx xs.length 0 lo = 0 ∧ HT.sIx xs.length xs.length hi = xs.length → Q (.ref a) H) ∧ (¬ (HT.sIx xs.length 0 lo = 0 ∧ HT.sIx xs.length xs.length hi = xs.length) → ∀ p, H p = none → Q (.ref p) (upd H p (.tup (cutV xs lo hi))))))
theorem Same.new {H : Hp} {p : Addr} {o : HO} (h : H p = none) : Same H (upd H p o) := fun b u e => by rw [upd_ne (ne_of_none e h)]; exact e
theorem sl_both {X : Cx} : SlR X (fun x lo hi H Q => rSlL X.K x lo hi H Q ∨ rSlA X.K x lo hi H Q) := sl_list.or sl_tupA
theorem cut_take (xs : List V) (i : Nat) (h : i ≤ xs.length) : cutV xs none (some (i : Int)) = xs.take i := by
  unfold cutV
  rw [HT.sIx_none, HT.sIx_nat, List.drop_zero, Nat.sub_zero, Nat.min_eq_left h]
/-- xs[:i], xs a list or a tuple -/
theorem take_both {K : PySem.W.Frag} {H : Hp} {a : Addr} {xs : List V} {i : Nat} {Q : VK} (hq : SqL K H a xs ∨ SqT K H a xs) (hi : i < xs.length) (h : ∀ p H', Same H H' → (SqL K H' p (xs.take i) ∨ SqT K H' p (xs.take i)) → Q (.ref p) H') :
    rSlL K (.ref a) none (some (i : Int)) H Q ∨ rSlA K (.ref a) none (some (i : Int)) H Q := by
  rcases hq with hq | hq
  · refine .inl ⟨a, xs, rfl, hq, fun p hp => h p _ (Same.new hp) (.inl (SqL.of ?_))⟩
    rw [upd_same, cut_take xs i (Nat.le_of_lt hi)]
  · refine .inr ⟨a, xs, rfl, hq, fun z => ?_, fun _ p hp => h p _ (Same.new hp) (.inr (SqT.of ?_))⟩
    · rw [HT.sIx_nat] at z
      have := z.2
      omega
    · rw [upd_same, cut_take xs i (Nat.le_of_lt hi)]
/-! ### names -/
def lowC (c : Nat) : Bool := decide (97 ≤ c) && decide (c ≤ 122)
def nameS (z : Str) : Bool := decide (1 ≤ z.length) && decide (z.length ≤ 8) && z.cps.toList.all lowC
def nameV : V → Bool
  | .str z => nameS z
  | _ => false
/-- the first place of an item that is not right or stands ahead; pre: what stands ahead of the rest -/
def badFrom (ok : V → Bool) : List V → List V → Option Nat
  | _, [] => none
  | pre, x :: r => if ok x && !pre.contains x then badFrom ok (pre ++ [x]) r else some pre.length
theorem badFrom_cons {ok : V → Bool} {pre r : List V} {x : V} : badFrom ok pre (x :: r) = if ok x && !pre.contains x then badFrom ok (pre ++ [x]) r else some pre.length := rfl
theorem badFrom_congr {ok ok' : V → Bool} : ∀ {pre l : List V}, (∀ x ∈ l, ok x = ok' x) → badFrom ok pre l = badFrom ok' pre l
  | _, [], _ => rfl
  | pre, x :: r, h => by
    unfold badFrom
    rw [h x List.mem_cons_self, badFrom_congr (pre := pre ++ [x]) (l := r) fun y hy => h y (List.mem_cons_of_mem _ hy)]
def vOpt : Option Nat → V
  | none => .non
  | some k => .int k
theorem badFrom_none {ok : V → Bool} : ∀ {pre l : List V}, pre.Nodup → badFrom ok pre l = none → (∀ x ∈ l, ok x = true) ∧ (pre ++ l).Nodup
  | pre, [], hn, _ => ⟨fun _ h => (by cases h), by simpa using hn⟩
  | pre, x :: r, hn, h => by
    unfold badFrom at h
    by_cases c : (ok x && !pre.contains x) = true
    · rw [if_pos c] at h
      rw [Bool.and_eq_true] at c
      have hx : x ∉ pre := by
        intro z
        have e : pre.contains x = true := by simpa using z
        rw [e] at c
        exact absurd c.2 (by decide)
      have hn' : (pre ++ [x]).Nodup := by
        rw [List.nodup_append]
        refine ⟨hn, by simp, fun a ha b hb => ?_⟩
        have : b = x := by simpa using hb
        subst this
        intro e
        subst e
        exact hx ha
      have ih := badFrom_none (pre := pre ++ [x]) (l := r) hn' h
      refine ⟨fun y hy => ?_, by simpa using ih.2⟩
      rcases List.mem_cons.mp hy with e | hy
      · rw [e]; exact c.1
      · exact ih.1 y hy
    · rw [if_neg c] at h
      cases h
theorem badFrom_lt {ok : V → Bool} : ∀ {pre l : List V} {k : Nat}, badFrom ok pre l = some k → k < pre.length + l.length
  | pre, [], _, h => by cases h
  | pre, x :: r, k, h => by
    unfold badFrom at h
    by_cases c : (ok x && !pre.contains x) = true
    · rw [if_pos c] at h
      have ih := badFrom_lt h
      simp only [List.length_append, List.length_cons, List.length_nil] at ih ⊢
      omega
    · rw [if_neg c] at h
      cases h
      simp only [List.length_cons]
      omega
theorem strs_of : ∀ {l : List V}, (∀ x ∈ l, nameV x = true) → ∃ zs : List Str, l = zs.map V.str ∧ ∀ z ∈ zs, nameS z = true
  | [], _ => ⟨[], rfl, fun _ h => by cases h⟩
  | x :: r, h => by
    obtain ⟨zs, e, hz⟩ := strs_of (l := r) fun y hy => h y (List.mem_cons_of_mem _ hy)
    have hx := h x List.mem_cons_self
    cases x with
    | str z => exact ⟨z :: zs, by rw [e]; rfl, fun y hy => by
        rcases List.mem_cons.mp hy with q | hy
        · rw [q]; exact hx
        · exact hz y hy⟩
    | _ => cases hx
theorem cmp_low1 (c : Nat) : (!decide (([c] : List Nat) < [97])) = decide (97 ≤ c) := by
  by_cases h : 97 ≤ c
  · have q : ¬ (([c] : List Nat) < [97]) := by
      intro z
      cases z with
      | cons z => cases z
      | rel z => exact absurd z (by omega)
    rw [decide_eq_true h, decide_eq_false q]
    rfl
  · have q : (([c] : List Nat) < [97]) := List.Lex.rel (by omega)
    rw [decide_eq_false h, decide_eq_true q]
    rfl
theorem cmp_low2 (c : Nat) : (!decide (([122] : List Nat) < [c])) = decide (c ≤ 122) := by
  by_cases h : c ≤ 122
  · have q : ¬ (([122] : List Nat) < [c]) := by
      intro z
      cases z with
      | cons z => cases z
      | rel z => exact absurd z (by omega)
    rw [decide_eq_true h, decide_eq_false q]
    rfl
  · have q : (([122] : List Nat) < [c]) := List.Lex.rel (by omega)
    rw [decide_eq_false h, decide_eq_true q]
    rfl
/-- a comprehension's turn that keeps its item -/
theorem lcTurn {te : TE} {σ : St} {H : Hp} {R : VK} {N : Hp → Prop} (h : te σ H R) : tYes σ H (fun b H3 => if b = true then te σ H3 R else N H3) := h
/-! ### heaps -/
/-- all but st as it was -/
def SameBut (st : Addr) (H H' : Hp) : Prop := ∀ b o, b ≠ st → H b = some o → H' b = some o
theorem SameBut.refl (st : Addr) (H : Hp) : SameBut st H H := fun _ _ _ h => h
theorem SameBut.trans {st : Addr} {H H1 H2 : Hp} (a : SameBut st H H1) (b : SameBut st H1 H2) : SameBut st H H2 := fun c o n h => b c o n (a c o n h)
theorem Same.but {H H' : Hp} (s : Same H H') (st : Addr) : SameBut st H H' := fun b o _ h => s b o h
theorem Same.seqT {K : PySem.W.Frag} {H H' : Hp} {a : Addr} {xs : List V} (e : Same H H') (h : SqT K H a xs) : SqT K H' a xs := by
  rcases h with (h | ⟨o, h⟩) | h
  · exact .inl (.inl (e _ _ h))
  · exact .inl (.inr ⟨o, e _ _ h⟩)
  · exact .inr h
/-- a drawing state: a list of two ints -/
def StAt (H : Hp) (st : Addr) : Prop := ∃ n s : Int, H st = some (.lst [.int n, .int s]) ∧ 0 ≤ n ∧ 0 ≤ s ∧ s < 2147483629
theorem SameBut.set {st : Addr} {H : Hp} {o : HO} : SameBut st H (upd H st o) := fun b u n e => by rw [upd_ne n]; exact e
theorem StAt.same {H H' : Hp} {st : Addr} (s : Same H H') (h : StAt H st) : StAt H' st := by
  obtain ⟨n, z, e, r⟩ := h
  exact ⟨n, z, s _ _ e, r⟩
/-! ### names are unlike each other -/
theorem nodup_sub_length {α : Type} [DecidableEq α] : ∀ {l m : List α}, l.Nodup → (∀ x ∈ l, x ∈ m) → l.length ≤ m.length
  | [], _, _, _ => Nat.zero_le _
  | x :: l, m, hn, h => by
    obtain ⟨hx, hl⟩ := List.nodup_cons.mp hn
    have hm : x ∈ m := h x List.mem_cons_self
    have ih := nodup_sub_length (l := l) (m := m.erase x) hl fun y hy => by
      have hne : y ≠ x := fun e => hx (e ▸ hy)
      exact (List.mem_erase_of_ne hne).mpr (h y (List.mem_cons_of_mem _ hy))
    rw [List.length_erase_of_mem hm] at ih
    have : 0 < m.length := List.length_pos_of_mem hm
    simp only [List.length_cons]
    omega
/-! ### for x in xs, xs a list or a tuple -/
def iSeq (K : PySem.W.Frag) (i : Nat) : TI := fun σ H R => ∃ (a : Addr) (xs : List V), σ[i]? = some (some (.ref a)) ∧ (SqL K H a xs ∨ SqT K H a xs) ∧ ∀ (J : It) (G : Hp → Prop), Walk J xs.length G (YAt xs) → (∀ H', Same H H' → G H') → R J H
theorem pi_seq {X : Cx} {tg : Expr} (i : Nat) {x : Str} {pos : Pos} (hN : X.N[i]? = some x := by rfl) (hv : Vis X.env.scope x := by first | exact Or.inl rfl | exact Or.inr (Or.inl rfl) | exact Or.inr (Or.inr rfl)) (hd : (x == ("__debug__" : Str)) = false := by decide)
    (hcd : (x == ("__classdict__" : Str)) = false := by decide) : PI X tg (.Name x pos) (iSeq X.K i) := by
  refine ⟨fun pins s σ H R I h => ?_⟩
  obtain ⟨a, xs, e, hq, key⟩ := h
  rcases hq with hq | hq
  · exact (pi_list (pe_var hN hv hd hcd)).run pins s σ H R I ⟨_, e, a, rfl, ⟨xs, hq⟩, key _ _ walk_list fun H' s => s.seq hq⟩
  · exact (pi_tup (pe_var hN hv hd hcd)).run pins s σ H R I ⟨_, e, a, rfl, ⟨xs, hq⟩, key _ _ walk_tup fun H' s => s.seqT hq⟩
def hasB (kvs : List (Key × V)) (ss : List Str) : Bool := decide (kvs.length = ss.length) && ss.all fun z => (valV kvs (Sum.inr z)).isSome
/-- an item of a list or tuple that is asked -/
def GoodE (H : Hp) (x : V) : Prop := (∃ k, IsK H x k) ∧ ∀ z, x = .str z → z.length ≤ 1000
theorem GoodE.same {H H' : Hp} (s : Same H H') {x : V} (h : GoodE H x) : GoodE H' x := ⟨h.1.imp fun _ q => q.same s, h.2⟩
theorem GoodE.elt {H : Hp} {x : V} (h : GoodE H x) : EltV H x := by
  obtain ⟨⟨k, q⟩, _⟩ := h
  exact q.elt
theorem GoodE.str {H : Hp} {z : Str} (h : z.length ≤ 1000) : GoodE H (.str z) := ⟨⟨_, .str z⟩, fun y e => by
  cases e
  exact h⟩
end L2
namespace L2
open PySem PySem.Spec PyProof.Rows
/-- a dict comprehension over it -/
theorem dc_it {J : It} {n : Nat} {G : Hp → Prop} {Y : Nat → Hp → V → Hp → Prop} (w : Walk J n G Y) {g : TG} {tt : TT} {tk tv : TE} {vs : List Nat} {σ : St} {H1 : Hp} {D : Addr} {Qd : Hp → Prop} (Pv : Nat → Hp → Prop) (h0 : Pv 0 (upd H1 D (.dK []))) (hG : ∀ i H, i ≤ n → Pv i H → G H)
    (hs : ∀ i x H H', i < n → Pv i H → Y i H x H' → g x (wipe σ vs) H' fun σ2 H2 => wipe σ2 vs = wipe σ vs ∧ tt σ2 H2 fun b H3 =>
      if b = true then tk σ2 H3 fun y H4 => tv σ2 H4 fun z H5 => ∃ kvs k, y = kV k ∧ H5 D = some (.dK kvs) ∧ kvs.length < sizeLine ∧ Pv (i + 1) (upd H5 D (.dK (putK kvs k z))) else Pv (i + 1) H3) (hd : ∀ H, Pv n H → Qd H) :
    ∃ W : Nat → Nat → Hp → Prop, (∃ m, W 0 m (upd H1 D (.dK []))) ∧ ∀ i m H, W i m H →
      (J.stop i H ∧ Qd H) ∨ (J.go i H ∧ ∃ Nx : Hp → Prop, (∀ H', Nx H' → ∃ m', m' < m ∧ W (i + 1) m' H') ∧ ∀ x H', J.yld i H x H' → g x (wipe σ vs) H' fun σ2 H2 => wipe σ2 vs = wipe σ vs ∧ tt σ2 H2 fun b H3 =>
        if b = true then tk σ2 H3 fun y H4 => tv σ2 H4 fun z H5 => ∃ kvs k, y = kV k ∧ H5 D = some (.dK kvs) ∧ kvs.length < sizeLine ∧ Nx (upd H5 D (.dK (putK kvs k z))) else Nx H3) := by
  refine ⟨fun i m H => m = n - i ∧ i ≤ n ∧ Pv i H, ⟨n, by simp, Nat.zero_le _, h0⟩, ?_⟩
  rintro i m H ⟨rfl, hi, p⟩
  have q := hG i H hi p
  by_cases hlt : i < n
  · exact .inr ⟨w.goes i H hlt q, Pv (i + 1), fun H' p' => ⟨n - (i + 1), by omega, rfl, hlt, p'⟩, fun x H' y => hs i x H H' hlt p (w.yields i H x H' hlt q y)⟩
  · have e : i = n := by omega
    subst e
    exact .inl ⟨w.stops H q, hd H p⟩
theorem dcTurn {tk tv : TE} {σ : St} {H : Hp} {R : V → VK} {N : Hp → Prop} (h : tk σ H fun y H4 => tv σ H4 (R y)) : tYes σ H (fun b H3 => if b = true then tk σ H3 (fun y H4 => tv σ H4 (R y)) else N H3) := h
/-- a dict from names to objects -/
def RowsG (H : Hp) (d : Addr) (ps : List Str) (cnt : Str → HO) : Prop := ∃ ad : Str → Addr, H d = some (.dK (ps.map fun a => (Sum.inr a, V.ref (ad a)))) ∧ ∀ a ∈ ps, H (ad a) = some (cnt a) ∧ ad a ≠ d
theorem RowsG.same {H H' : Hp} (s : Same H H') {d : Addr} {ps : List Str} {cnt : Str → HO} (h : RowsG H d ps cnt) : RowsG H' d ps cnt := by
  obtain ⟨ad, e, q⟩ := h
  exact ⟨ad, s _ _ e, fun a ha => ⟨s _ _ (q a ha).1, (q a ha).2⟩⟩
theorem RowsG.nil {H : Hp} {d : Addr} {cnt : Str → HO} (h : H d = some (.dK [])) : RowsG H d [] cnt := ⟨fun _ => 0, h, fun _ h => by cases h⟩
theorem valV_rows {ad : Str → Addr} : ∀ {ps : List Str} {a : Str}, a ∈ ps → valV (ps.map fun a => ((Sum.inr a : Key), V.ref (ad a))) (Sum.inr a) = some (.ref (ad a))
  | [], _, h => by cases h
  | b :: ps, a, h => by
    rw [List.map_cons]
    by_cases e : b = a
    · rw [valV_pos (by rw [e]), e]
    · rw [valV_neg (fun q => e (Sum.inr.inj q))]
      refine valV_rows ?_
      rcases List.mem_cons.mp h with q | q
      · exact absurd q.symm e
      · exact q
theorem valV_rows_none {ad : Str → Addr} : ∀ {ps : List Str} {a : Str}, a ∉ ps → valV (ps.map fun a => ((Sum.inr a : Key), V.ref (ad a))) (Sum.inr a) = none
  | [], _, _ => rfl
  | b :: ps, a, h => by
    rw [List.map_cons, valV_neg (fun q => h (by rw [Sum.inr.inj q]; exact List.mem_cons_self))]
    exact valV_rows_none fun q => h (List.mem_cons_of_mem _ q)
theorem RowsG.snoc {H H1 : Hp} {D p : Addr} {qs : List Str} {cnt : Str → HO} {a : Str} (R : RowsG H D qs cnt) (s : Same H H1) (ha : a ∉ qs) (hp : H1 p = some (cnt a)) (hpd : p ≠ D) :
    ∃ kvs, H1 D = some (.dK kvs) ∧ kvs.length = qs.length ∧ RowsG (upd H1 D (.dK (putK kvs (Sum.inr a) (.ref p)))) D (qs ++ [a]) cnt := by
  obtain ⟨ad, e, q⟩ := R
  refine ⟨_, s _ _ e, by rw [List.length_map], fun x => if x = a then p else ad x, ?_, fun x hx => ?_⟩
  · rw [upd_same, putK_new _ (valV_rows_none ha), List.map_append]
    have e1 : (qs.map fun x => ((Sum.inr x : Key), V.ref (if x = a then p else ad x))) = qs.map fun x => (Sum.inr x, V.ref (ad x)) := by
      refine List.map_congr_left fun x hx => ?_
      rw [if_neg (fun z : x = a => ha (z ▸ hx))]
    rw [e1]
    simp
  · by_cases hxa : x = a
    · subst hxa
      show upd H1 D _ (if x = x then p else ad x) = some (cnt x) ∧ (if x = x then p else ad x) ≠ D
      rw [if_pos rfl, upd_ne hpd]
      exact ⟨hp, hpd⟩
    · show upd H1 D _ (if x = a then p else ad x) = some (cnt x) ∧ (if x = a then p else ad x) ≠ D
      rw [if_neg hxa]
      have hx' : x ∈ qs := by
        rcases List.mem_append.mp hx with h | h
        · exact h
        · exact absurd (by simpa using h) hxa
      rw [upd_ne (q x hx').2]
      exact ⟨s _ _ (q x hx').1, (q x hx').2⟩
/-- a list of texts, as it stands -/
def lstO (ss : List Str) : HO := .lst (ss.map V.str)
/-- a dict of indexes -/
def rnkO (ss : List Str) : HO := .dK (ss.zipIdx.map fun q => (Sum.inr q.1, V.int (q.2 : Nat)))
def opn (ws : Str → List Str) (a : Str) : List Str := (ws a).filter fun b => decide (a ∈ ws b)
theorem take_snoc {α : Type} {l : List α} {i : Nat} {x : α} (h : l[i]? = some x) : l.take (i + 1) = l.take i ++ [x] := by
  rw [List.take_add_one, h]
  rfl
theorem not_mem_take {α : Type} {l : List α} (hn : l.Nodup) {i : Nat} {x : α} (h : l[i]? = some x) : x ∉ l.take i := by
  intro hm
  obtain ⟨j, hj⟩ := List.mem_iff_getElem?.mp hm
  have hji : j < i := by
    have := (List.getElem?_eq_some_iff.mp hj).1
    rw [List.length_take] at this
    omega
  rw [List.getElem?_take_of_lt hji] at hj
  have := nd_ix hn hj h
  omega
/-! ### the scope of a comprehension -/
def cScope (e : Expr) : Scope := match e with
  | .DictComp _ _ _ sc _ => sc
  | .ListComp _ _ sc _ => sc
  | _ => { kind := .function, names := [], isGenerator := false, isCoroutine := false }
def retE (b : List Stmt) (i : Nat) : Expr := match b.getD i (.Pass ⟨0, 0, 0, 0⟩) with
  | .Return (some e) _ => e
  | .Assign _ e _ => e
  | .Expr e _ => e
  | _ => .Constant .none 0 ⟨0, 0, 0, 0⟩
theorem lookup_rel {env : Env} : ∀ {names : List (Str × NameKind)} {x : Str}, names.lookup x = some .cell ∨ names.lookup x = some .free →
    (names.map fun (n, k) => if (k == NameKind.free && env.scope.kind == .function && env.kindOf n == some .cell) then (n, NameKind.cell) else (n, k)).lookup x = some .cell ∨
    (names.map fun (n, k) => if (k == NameKind.free && env.scope.kind == .function && env.kindOf n == some .cell) then (n, NameKind.cell) else (n, k)).lookup x = some .free
  | [], _, h => by simp at h
  | (n, k) :: r, x, h => by
    have ih := @lookup_rel env r x
    rw [List.map_cons]
    by_cases e : x = n
    · subst e
      have hk : k = .cell ∨ k = .free := by simpa [List.lookup] using h
      by_cases c : (k == NameKind.free && env.scope.kind == .function && env.kindOf x == some .cell) = true
      · refine .inl ?_
        simp only [if_pos c]
        simp [List.lookup]
      · simp only [if_neg c]
        rcases hk with hk | hk
        · exact .inl (by simp [List.lookup, hk])
        · exact .inr (by simp [List.lookup, hk])
    · have e' : (x == n) = false := by simpa using e
      have h' : r.lookup x = some .cell ∨ r.lookup x = some .free := by simpa [List.lookup, e'] using h
      have q := ih h'
      by_cases c : (k == NameKind.free && env.scope.kind == .function && env.kindOf n == some .cell) = true
      · simp only [if_pos c]
        simpa [List.lookup, e'] using q
      · simp only [if_neg c]
        simpa [List.lookup, e'] using q
/-- a comprehension within a comprehension -/
theorem BlkOk.rel {N : List Str} {sc scope : Scope} {own : List (Str × Nat)} {env : Env} (h : BlkOk N sc scope own) : BlkOk N (relabel sc env) scope own :=
  ⟨h.kind, h.uniq, h.ix, fun y hy e => lookup_rel (h.free y hy e), h.own⟩
/-! ### rules that name the written part, for a block within a block -/
section
variable {X : Cx} {K : PySem.W.Frag}
theorem pi_listK {tg e : Expr} {te : TE} (hK : X.K = K) (he : PE X e te) : PI X tg e (iList K te) := by
  subst hK
  exact pi_list he
theorem op_inSK (hK : X.K = K) (hu : X.A.units + 64 < cLine) : OpR X (compareOp .In) (rInS K false) := by
  subst hK
  exact op_inS hu
theorem pi_enumK {e : Expr} {ta : TA} {p pos tpos : Pos} {elts : List Expr} {kk : Nat} (hK : X.K = K) (hg : Gl X "enumerate") (hm : X.mg "enumerate" = none) (ha : PA X [e] ta) (hs : starEach [e] X.env = [(false, eval e X.env)] := by rfl) :
    PI X (.Tuple elts kk tpos) (.Call (.Name "enumerate" p) [e] [] pos) (iEnumT K ta) := by
  subst hK
  exact pi_enumT hg hm ha hs
theorem pg_tupK {es : List Expr} {k : Nat} {t : TGs} {n : Nat} {pos : Pos} (hK : X.K = K) (hc : X.calm = true) (h : PGs X es t)
    (hn : (assignEach es X.env).length = n := by rfl) (hst : (assignEach es X.env).findIdx? (·.1) = none := by rfl) : PG X (.Tuple es k pos) (gTup K n t) := by
  subst hK
  exact pg_tup hc h hn hst
end
theorem valV_rnk_none : ∀ {ss : List Str} {k : Nat} {a : Str}, a ∉ ss → valV ((ss.zipIdx k).map fun q => ((Sum.inr q.1 : Key), V.int (q.2 : Nat))) (Sum.inr a) = none
  | [], _, _, _ => rfl
  | b :: ss, k, a, h => by
    rw [List.zipIdx_cons, List.map_cons, valV_neg (fun q => h (by
      have e : b = a := Sum.inr.inj q
      rw [e]; exact List.mem_cons_self))]
    exact valV_rnk_none fun q => h (List.mem_cons_of_mem _ q)
theorem zip_snoc {ss : List Str} {b : Str} : ((ss ++ [b]).zipIdx.map fun q => ((Sum.inr q.1 : Key), V.int (q.2 : Nat))) = (ss.zipIdx.map fun q => ((Sum.inr q.1 : Key), V.int (q.2 : Nat))) ++ [(Sum.inr b, V.int (ss.length : Nat))] := by
  rw [List.zipIdx_append, List.map_append]
  simp
theorem call_listK {X : Cx} {K : PySem.W.Frag} (hK : X.K = K) : CallR X (.type "list") (fun xs H Q => ∃ p ys, xs = [.ref p] ∧ (SqL K H p ys ∨ SqT K H p ys) ∧ ∀ l, H l = none → Q (.ref l) (upd H l (.lst ys))) := by
  subst hK
  exact call_list_of
end L2
namespace Qp
open PySem L2
def topS (i : Nat) : Stmt := PySem.Challenge.pw_quietpairs_k89_spoilt_lines_of_dealings.main.body.getD i (.Pass ⟨0, 0, 0, 0⟩)
abbrev swall : Stmt := topS 0
abbrev scopied : Stmt := topS 2
abbrev sBadPeopleinit : Stmt := inClass (topS 4) 0
abbrev sBadWishesinit : Stmt := inClass (topS 5) 0
abbrev sNoPersoninit : Stmt := inClass (topS 6) 0
abbrev sNoTextinit : Stmt := inClass (topS 7) 0
abbrev sisname : Stmt := topS 9
abbrev shaskeys : Stmt := topS 10
abbrev sbadindex : Stmt := topS 11
abbrev sislot : Stmt := topS 12
abbrev sdealt : Stmt := topS 14
abbrev scheckpeople : Stmt := topS 17
abbrev scheckwishes : Stmt := topS 18
abbrev sopenrows : Stmt := topS 19
abbrev srankrows : Stmt := topS 20
abbrev sGroupinit : Stmt := inClass (topS 21) 0
abbrev sGrouppeople : Stmt := inClass (topS 21) 1
abbrev sGroupwishes : Stmt := inClass (topS 21) 2
abbrev sGroupopento : Stmt := inClass (topS 21) 3
abbrev sGrouprank : Stmt := inClass (topS 21) 4
abbrev sGrouppairs : Stmt := inClass (topS 21) 5
abbrev sGroupwithwishes : Stmt := inClass (topS 21) 6
abbrev sGroupwithout : Stmt := inClass (topS 21) 7
abbrev sGroupjoined : Stmt := inClass (topS 21) 8
abbrev sGrouprenamed : Stmt := inClass (topS 21) 9
abbrev sGroupinside : Stmt := inClass (topS 21) 10
abbrev sGroupoutside : Stmt := inClass (topS 21) 11
abbrev sGroupexchanged : Stmt := inClass (topS 21) 12
abbrev sGroupstruck : Stmt := inClass (topS 21) 13
abbrev sGrouplen : Stmt := inClass (topS 21) 14
abbrev sGroupcontains : Stmt := inClass (topS 21) 15
abbrev sGroupgetitem : Stmt := inClass (topS 21) 16
abbrev sGroupiter : Stmt := inClass (topS 21) 17
abbrev sGroupeq : Stmt := inClass (topS 21) 18
abbrev sGrouphas : Stmt := inClass (topS 21) 19
abbrev sGroupcheckperson : Stmt := inClass (topS 21) 20
abbrev sGroupcheckopen : Stmt := inClass (topS 21) 21
abbrev sGroupcheckplaces : Stmt := inClass (topS 21) 22
abbrev sGroupchecknames : Stmt := inClass (topS 21) 23
abbrev sGroupchecklot : Stmt := inClass (topS 21) 24
abbrev sGroupwithrow : Stmt := inClass (topS 21) 25
abbrev sGroupwithonly : Stmt := inClass (topS 21) 26
abbrev sasrows : Stmt := topS 23
abbrev sisrowofdealing : Stmt := topS 24
abbrev sreaddealing : Stmt := topS 25
abbrev sLisinteger : Stmt := topS 27
abbrev sLcell : Stmt := topS 28
abbrev sLtake : Stmt := topS 29
abbrev sLname : Stmt := topS 30
abbrev sLnames : Stmt := topS 31
abbrev sLmixed : Stmt := topS 32
abbrev sLothers : Stmt := topS 33
abbrev sLblockwishes : Stmt := topS 34
abbrev sLsidewishes : Stmt := topS 35
abbrev sLplainwishes : Stmt := topS 36
abbrev sLwishes : Stmt := topS 37
abbrev sLgroup : Stmt := topS 38
abbrev sLcopy : Stmt := topS 39
abbrev sLmutual : Stmt := topS 40
abbrev sLvalue : Stmt := topS 41
abbrev sLsame : Stmt := topS 42
abbrev sLanydealing : Stmt := topS 43
abbrev sLdealingrows : Stmt := topS 44
abbrev sLlines : Stmt := topS 45
abbrev sLspoiltrows : Stmt := topS 46
abbrev sLdue : Stmt := topS 47
abbrev sLread : Stmt := topS 48
abbrev slaw : Stmt := topS 49
theorem scwall : FnScope ["k"] ["k"] (defScope swall) := ⟨rfl, rfl, rfl, by decide +kernel, rfl, by decide +kernel, by decide +kernel⟩
theorem sccopied : FnScope ["value", "item", "key"] ["value"] (defScope scopied) := ⟨rfl, rfl, rfl, by decide +kernel, rfl, by decide +kernel, by decide +kernel⟩
theorem scisname : FnScope ["value", "letter"] ["value"] (defScope sisname) := ⟨rfl, rfl, rfl, by decide +kernel, rfl, by decide +kernel, by decide +kernel⟩
theorem schaskeys : FnScope ["value", "names", "name"] ["value", "names"] (defScope shaskeys) := ⟨rfl, rfl, rfl, by decide +kernel, rfl, by decide +kernel, by decide +kernel⟩
theorem scbadindex : FnScope ["items", "names", "index", "item"] ["items", "names"] (defScope sbadindex) := ⟨rfl, rfl, rfl, by decide +kernel, rfl, by decide +kernel, by decide +kernel⟩
theorem scislot : FnScope ["value", "names"] ["value", "names"] (defScope sislot) := ⟨rfl, rfl, rfl, by decide +kernel, rfl, by decide +kernel, by decide +kernel⟩
theorem scdealt : FnScope ["x", "a", "b", "longer"] ["x", "a", "b"] (defScope sdealt) := ⟨rfl, rfl, rfl, by decide +kernel, rfl, by decide +kernel, by decide +kernel⟩
theorem sccheckpeople : FnScope ["people", "index", "person"] ["people"] (defScope scheckpeople) := ⟨rfl, rfl, rfl, by decide +kernel, rfl, by decide +kernel, by decide +kernel⟩
theorem sccheckwishes : FnScope ["people", "wishes", "person", "other"] ["people", "wishes"] (defScope scheckwishes) := ⟨rfl, rfl, rfl, by decide +kernel, rfl, by decide +kernel, by decide +kernel⟩
theorem scopenrows : FnScope ["wishes", "a", "b"] ["wishes"] (defScope sopenrows) := ⟨rfl, rfl, rfl, by decide +kernel, rfl, by decide +kernel, by decide +kernel⟩
theorem scrankrows : FnScope ["rows", "a", "index", "b"] ["rows"] (defScope srankrows) := ⟨rfl, rfl, rfl, by decide +kernel, rfl, by decide +kernel, by decide +kernel⟩
theorem scGroupinit : FnScope ["self", "people", "wishes", "a"] ["self", "people", "wishes"] (defScope sGroupinit) := ⟨rfl, rfl, rfl, by decide +kernel, rfl, by decide +kernel, by decide +kernel⟩
theorem scGrouppeople : FnScope ["self"] ["self"] (defScope sGrouppeople) := ⟨rfl, rfl, rfl, by decide +kernel, rfl, by decide +kernel, by decide +kernel⟩
theorem scGroupwishes : FnScope ["self", "a"] ["self", "a"] (defScope sGroupwishes) := ⟨rfl, rfl, rfl, by decide +kernel, rfl, by decide +kernel, by decide +kernel⟩
theorem scGroupopento : FnScope ["self", "a"] ["self", "a"] (defScope sGroupopento) := ⟨rfl, rfl, rfl, by decide +kernel, rfl, by decide +kernel, by decide +kernel⟩
theorem scGrouprank : FnScope ["self", "a", "b"] ["self", "a", "b"] (defScope sGrouprank) := ⟨rfl, rfl, rfl, by decide +kernel, rfl, by decide +kernel, by decide +kernel⟩
theorem scGrouppairs : FnScope ["self"] ["self"] (defScope sGrouppairs) := ⟨rfl, rfl, rfl, by decide +kernel, rfl, by decide +kernel, by decide +kernel⟩
theorem scGroupwithwishes : FnScope ["self", "a", "wishes"] ["self", "a", "wishes"] (defScope sGroupwithwishes) := ⟨rfl, rfl, rfl, by decide +kernel, rfl, by decide +kernel, by decide +kernel⟩
theorem scGroupwithout : FnScope ["self", "a"] ["self", "a"] (defScope sGroupwithout) := ⟨rfl, rfl, rfl, by decide +kernel, rfl, by decide +kernel, by decide +kernel⟩
theorem scGroupjoined : FnScope ["self", "name", "wishes", "places"] ["self", "name", "wishes", "places"] (defScope sGroupjoined) := ⟨rfl, rfl, rfl, by decide +kernel, rfl, by decide +kernel, by decide +kernel⟩
theorem scGrouprenamed : FnScope ["self", "names"] ["self", "names"] (defScope sGrouprenamed) := ⟨rfl, rfl, rfl, by decide +kernel, rfl, by decide +kernel, by decide +kernel⟩
theorem scGroupinside : FnScope ["self", "lot"] ["self", "lot"] (defScope sGroupinside) := ⟨rfl, rfl, rfl, by decide +kernel, rfl, by decide +kernel, by decide +kernel⟩
theorem scGroupoutside : FnScope ["self", "lot"] ["self", "lot"] (defScope sGroupoutside) := ⟨rfl, rfl, rfl, by decide +kernel, rfl, by decide +kernel, by decide +kernel⟩
theorem scGroupexchanged : FnScope ["self", "a", "k"] ["self", "a", "k"] (defScope sGroupexchanged) := ⟨rfl, rfl, rfl, by decide +kernel, rfl, by decide +kernel, by decide +kernel⟩
theorem scGroupstruck : FnScope ["self", "a", "b"] ["self", "a", "b"] (defScope sGroupstruck) := ⟨rfl, rfl, rfl, by decide +kernel, rfl, by decide +kernel, by decide +kernel⟩
theorem scGrouplen : FnScope ["self"] ["self"] (defScope sGrouplen) := ⟨rfl, rfl, rfl, by decide +kernel, rfl, by decide +kernel, by decide +kernel⟩
theorem scGroupcontains : FnScope ["self", "x"] ["self", "x"] (defScope sGroupcontains) := ⟨rfl, rfl, rfl, by decide +kernel, rfl, by decide +kernel, by decide +kernel⟩
theorem scGroupgetitem : FnScope ["self", "at"] ["self", "at"] (defScope sGroupgetitem) := ⟨rfl, rfl, rfl, by decide +kernel, rfl, by decide +kernel, by decide +kernel⟩
theorem scGroupiter : FnScope ["self"] ["self"] (defScope sGroupiter) := ⟨rfl, rfl, rfl, by decide +kernel, rfl, by decide +kernel, by decide +kernel⟩
theorem scGroupeq : FnScope ["self", "other"] ["self", "other"] (defScope sGroupeq) := ⟨rfl, rfl, rfl, by decide +kernel, rfl, by decide +kernel, by decide +kernel⟩
theorem scGrouphas : FnScope ["self", "value"] ["self", "value"] (defScope sGrouphas) := ⟨rfl, rfl, rfl, by decide +kernel, rfl, by decide +kernel, by decide +kernel⟩
theorem scGroupcheckperson : FnScope ["self", "value"] ["self", "value"] (defScope sGroupcheckperson) := ⟨rfl, rfl, rfl, by decide +kernel, rfl, by decide +kernel, by decide +kernel⟩
theorem scGroupcheckopen : FnScope ["self", "a", "b"] ["self", "a", "b"] (defScope sGroupcheckopen) := ⟨rfl, rfl, rfl, by decide +kernel, rfl, by decide +kernel, by decide +kernel⟩
theorem scGroupcheckplaces : FnScope ["self", "places"] ["self", "places"] (defScope sGroupcheckplaces) := ⟨rfl, rfl, rfl, by decide +kernel, rfl, by decide +kernel, by decide +kernel⟩
theorem scGroupchecknames : FnScope ["self", "names"] ["self", "names"] (defScope sGroupchecknames) := ⟨rfl, rfl, rfl, by decide +kernel, rfl, by decide +kernel, by decide +kernel⟩
theorem scGroupchecklot : FnScope ["self", "lot"] ["self", "lot"] (defScope sGroupchecklot) := ⟨rfl, rfl, rfl, by decide +kernel, rfl, by decide +kernel, by decide +kernel⟩
theorem scGroupwithrow : FnScope ["self", "a", "row"] ["self", "a", "row"] (defScope sGroupwithrow) := ⟨rfl, rfl, rfl, by decide +kernel, rfl, by decide +kernel, by decide +kernel⟩
theorem scGroupwithonly : FnScope ["self", "people"] ["self", "people"] (defScope sGroupwithonly) := ⟨rfl, rfl, rfl, by decide +kernel, rfl, by decide +kernel, by decide +kernel⟩
theorem scasrows : FnScope ["text", "line"] ["text"] (defScope sasrows) := ⟨rfl, rfl, rfl, by decide +kernel, rfl, by decide +kernel, by decide +kernel⟩
theorem scisrowofdealing : FnScope ["group", "row"] ["group", "row"] (defScope sisrowofdealing) := ⟨rfl, rfl, rfl, by decide +kernel, rfl, by decide +kernel, by decide +kernel⟩
theorem screaddealing : FnScope ["group", "text", "rows", "x", "line", "row", "a"] ["group", "text"] (defScope sreaddealing) := ⟨rfl, rfl, rfl, by decide +kernel, rfl, by decide +kernel, by decide +kernel⟩
theorem scLisinteger : FnScope ["_law_actual"] ["_law_actual"] (defScope sLisinteger) := ⟨rfl, rfl, rfl, by decide +kernel, rfl, by decide +kernel, by decide +kernel⟩
theorem scLcell : FnScope ["_law_script", "_law_k", "_law_number", "_law_seed"] ["_law_script", "_law_k"] (defScope sLcell) := ⟨rfl, rfl, rfl, by decide +kernel, rfl, by decide +kernel, by decide +kernel⟩
theorem scLtake : FnScope ["_law_state", "_law_many", "_law_digit", "_law_mixed_here"] ["_law_state", "_law_many"] (defScope sLtake) := ⟨rfl, rfl, rfl, by decide +kernel, rfl, by decide +kernel, by decide +kernel⟩
theorem scLname : FnScope ["_law_state", "_law_taken", "_law_letters", "_law_size", "_law_k", "_law_name_here", "_law_last", "_law_other"] ["_law_state", "_law_taken"] (defScope sLname) := ⟨rfl, rfl, rfl, by decide +kernel, rfl, by decide +kernel, by decide +kernel⟩
theorem scLnames : FnScope ["_law_state", "_law_many", "_law_names_here", "_law_k"] ["_law_state", "_law_many"] (defScope sLnames) := ⟨rfl, rfl, rfl, by decide +kernel, rfl, by decide +kernel, by decide +kernel⟩
theorem scLmixed : FnScope ["_law_state", "_law_items", "_law_pool", "_law_row", "_law_k"] ["_law_state", "_law_items"] (defScope sLmixed) := ⟨rfl, rfl, rfl, by decide +kernel, rfl, by decide +kernel, by decide +kernel⟩
theorem scLothers : FnScope ["_law_names_here", "_law_a", "_law_b"] ["_law_names_here", "_law_a"] (defScope sLothers) := ⟨rfl, rfl, rfl, by decide +kernel, rfl, by decide +kernel, by decide +kernel⟩
theorem scLblockwishes : FnScope ["_law_state", "_law_names_here", "_law_order", "_law_wishes_here", "_law_at", "_law_turn", "_law_size", "_law_block", "_law_k", "_law_ring", "_law_head", "_law_tail", "_law_b"] ["_law_state", "_law_names_here"] (defScope sLblockwishes) := ⟨rfl, rfl, rfl, by decide +kernel, rfl, by decide +kernel, by decide +kernel⟩
theorem scLsidewishes : FnScope ["_law_state", "_law_names_here", "_law_order", "_law_left", "_law_right", "_law_turned", "_law_wishes_here", "_law_k"] ["_law_state", "_law_names_here"] (defScope sLsidewishes) := ⟨rfl, rfl, rfl, by decide +kernel, rfl, by decide +kernel, by decide +kernel⟩
theorem scLplainwishes : FnScope ["_law_state", "_law_names_here", "_law_mode", "_law_order", "_law_wishes_here", "_law_k", "_law_others_here", "_law_b"] ["_law_state", "_law_names_here", "_law_mode"] (defScope sLplainwishes) := ⟨rfl, rfl, rfl, by decide +kernel, rfl, by decide +kernel, by decide +kernel⟩
theorem scLwishes : FnScope ["_law_state", "_law_names_here", "_law_mode"] ["_law_state", "_law_names_here"] (defScope sLwishes) := ⟨rfl, rfl, rfl, by decide +kernel, rfl, by decide +kernel, by decide +kernel⟩
theorem scLgroup : FnScope ["_law_state", "_law_top", "_law_names_here", "_law_wishes_here"] ["_law_state", "_law_top"] (defScope sLgroup) := ⟨rfl, rfl, rfl, by decide +kernel, rfl, by decide +kernel, by decide +kernel⟩
theorem scLcopy : FnScope ["_law_wishes_here", "_law_copy_here", "_law_a"] ["_law_wishes_here"] (defScope sLcopy) := ⟨rfl, rfl, rfl, by decide +kernel, rfl, by decide +kernel, by decide +kernel⟩
theorem scLmutual : FnScope ["_law_names_here", "_law_wishes_here", "_law_mutual_here", "_law_a", "_law_b"] ["_law_names_here", "_law_wishes_here"] (defScope sLmutual) := ⟨rfl, rfl, rfl, by decide +kernel, rfl, by decide +kernel, by decide +kernel⟩
theorem scLvalue : FnScope ["_law_state", "_law_deep", "_law_k", "_law_values"] ["_law_state"] (defScope sLvalue) := ⟨rfl, rfl, rfl, by decide +kernel, rfl, by decide +kernel, by decide +kernel⟩
theorem scLsame : FnScope ["_law_actual", "_law_due_here", "_law_k", "_law_key"] ["_law_actual", "_law_due_here"] (defScope sLsame) := ⟨rfl, rfl, rfl, by decide +kernel, rfl, by decide +kernel, by decide +kernel⟩
theorem scLanydealing : FnScope ["_law_state", "_law_mutual_here", "_law_x", "_law_a", "_law_free", "_law_at", "_law_b"] ["_law_state", "_law_mutual_here"] (defScope sLanydealing) := ⟨rfl, rfl, rfl, by decide +kernel, rfl, by decide +kernel, by decide +kernel⟩
theorem scLdealingrows : FnScope ["_law_x", "_law_rows", "_law_a"] ["_law_x"] (defScope sLdealingrows) := ⟨rfl, rfl, rfl, by decide +kernel, rfl, by decide +kernel, by decide +kernel⟩
theorem scLlines : FnScope ["_law_rows", "_law_row"] ["_law_rows"] (defScope sLlines) := ⟨rfl, rfl, rfl, by decide +kernel, rfl, by decide +kernel, by decide +kernel⟩
theorem scLspoiltrows : FnScope ["_law_state", "_law_rows", "_law_words", "_law_kind", "_law_at", "_law_other", "_law_row", "_law_signs", "_law_sign", "_law_word", "_law_k", "_law_parts"] ["_law_state", "_law_rows", "_law_words"] (defScope sLspoiltrows) := ⟨rfl, rfl, rfl, by decide +kernel, rfl, by decide +kernel, by decide +kernel⟩
theorem scLdue : FnScope ["_law_mutual_here", "_law_rows", "_law_x", "_law_last", "_law_k", "_law_parts"] ["_law_mutual_here", "_law_rows"] (defScope sLdue) := ⟨rfl, rfl, rfl, by decide +kernel, rfl, by decide +kernel, by decide +kernel⟩
theorem scLread : FnScope ["_law_group_here", "_law_text", "_law_told", "e"] ["_law_group_here", "_law_text"] (defScope sLread) := ⟨rfl, rfl, rfl, by decide +kernel, rfl, by decide +kernel, by decide +kernel⟩
theorem sclaw : FnScope ["_law_script", "_law_state", "_law_names_here", "_law_wishes_here", "_law_group_here", "_law_mutual_here", "_law_rows", "_law_k", "_law_text", "_law_value_here"] ["_law_script"] (defScope slaw) := ⟨rfl, rfl, rfl, by decide +kernel, rfl, by decide +kernel, by decide +kernel⟩
/-- built-in names that the module does not bind -/
structure Bl (mg : Str → Option Value) : Prop where
  len : mg "len" = none
  isi : mg "isinstance" = none
  all : mg "all" = none
  enum : mg "enumerate" = none
  str : mg "str" = none
  tup : mg "tuple" = none
  lst : mg "list" = none
  dct : mg "dict" = none
  srt : mg "sorted" = none
  rng : mg "range" = none
  abs : mg "abs" = none
  int : mg "int" = none
  min : mg "min" = none
  bool : mg "bool" = none
  rev : mg "reversed" = none
  iter : mg "iter" = none
  any : mg "any" = none
end Qp
namespace L2
open PySem PySem.Spec PyProof.Rows
theorem FnOk.sub {P : Program} {w : World} {K : PySem.W.Frag} {mg : Str → Option Value} {base : Heap} {CX : CXT} {k : Nat} {f : Addr} {fd : FuncData} {ps : List Str} {sp sp2 : Sp} (i : ∀ vs H Q E, sp2 vs H Q E → sp vs H Q E) (a : FnOk P w K mg base CX k f fd ps sp) : FnOk P w K mg base CX k f fd ps sp2 :=
  ⟨fun vs H Q E h => a.len vs H Q E (i _ _ _ _ h), fun A outer s H args us vs Q E hr he hb hv h => a.run A outer s H args us vs Q E hr he hb hv (i _ _ _ _ h)⟩
end L2
namespace Qp
open PySem L2
section
variable {P : Program} {w : World} {K : PySem.W.Frag} {mg : Str → Option Value} {base : Heap}
/-- is_name of a longer value -/
def spIsNameL : Sp := fun vs H Q _ => ∃ (x : V) (k : Kd), vs = [x] ∧ IsK H x k ∧ (∀ z, x = .str z → z.length ≤ 1000000) ∧ ∀ H', Same H H' → Q (.bl (nameV x)) H'
theorem ok_isnameL {f : Addr} {fd : FuncData} (F : Fun K "is_name" "is_name" sisname f fd) (B : Bl mg) : FnOk P w K mg base CX0 1 f fd ["value"] spIsNameL := by
  refine F.ok scisname (fun vs H Q E h => ?_) (fun cdv A outer s H vs Q E hr h => ?_)
  · obtain ⟨x, k, rfl, _⟩ := h
    rfl
  · obtain ⟨x, k, rfl, ik, hz, kq⟩ := h
    refine ⟨_, pss_one (ps_ret (pe_and (pe_isi kit_str B.isi B.str (pv 0)) (pe_and (pe_chain op_le op_le pe_int (pe_callB call_len (by rfl) B.len PySem.boot_len (pa_cons (pv 0) pa_nil)) pe_int)
      (pe_one (pe_callB (cr_all rfl) (by rfl) B.all (by decide +kernel) (pa_cons (pe_lc (own := [("letter", 1)]) (g := gName 1) (tt := tYes) rfl scisname.nd (pi_str (pv 0)) (blkOk_by (own := [("letter", 1)]) (N := ["value", "letter"]) (sc := defScope sisname) (by decide +kernel))
        (fun _ _ _ _ _ => pg_name (i := 1) scisname.nd rfl (Or.inl rfl)) (fun _ _ _ _ _ => pts_nil) (fun _ _ _ _ _ => pe_chain op_le_str op_le_str pe_str (pv 1) pe_str)) pa_nil)))))), ?_⟩
    refine ⟨_, rfl, x, k, rfl, ik, ?_⟩
    cases ik with
    | str z =>
      refine ⟨true, rfl, iteT ?_⟩
      have hl := hz z rfl
      have e2 : sizeLine = 16777216 := sizeLine_eq
      refine ⟨_, rfl, .str z, z.length, rfl, ⟨by omega, rfl⟩, _, _, rfl, rfl, _, rfl, ?_⟩
      have nf : ∀ {b : Bool}, nameS z = b → nameV (V.str z) = b := fun e => e
      refine ite2 (fun h1 => ?_) (fun h1 => ?_)
      · refine ⟨_, _, rfl, rfl, _, rfl, ite2 (fun h2 => ?_) (fun h2 => ?_)⟩
        · refine ⟨_, rfl, z, rfl, fun D hD => lc_it walk_str (fun i H' => H' = upd H D (.lst (((z.cps.toList.take i).map lowC).map V.bl))) rfl (fun _ _ _ _ => True.intro) ?_ ?_⟩
          · rintro i y H1 H' hi rfl ⟨rfl, c, hc, rfl⟩
            have ea : ("a" : Str).cps.toList = [97] := by decide +kernel
            have ez : ("z" : Str).cps.toList = [122] := by decide +kernel
            have k1 : (!decide (((⟨#[c]⟩ : Str).cps.toList) < ("a" : Str).cps.toList)) = decide (97 ≤ c) := by rw [ea]; exact cmp_low1 c
            have k2 : (!decide (("z" : Str).cps.toList < ((⟨#[c]⟩ : Str).cps.toList))) = decide (c ≤ 122) := by rw [ez]; exact cmp_low2 c
            have hc' : z.cps.toList[i]? = some c := by rw [Array.getElem?_toList]; exact hc
            have tk : (((z.cps.toList.take (i + 1)).map lowC).map V.bl) = (((z.cps.toList.take i).map lowC).map V.bl) ++ [V.bl (lowC c)] := by
              rw [List.take_add_one, hc']
              simp
            have sz : z.cps.toList.length = z.length := by simp [Str.length]
            have fin : ∀ b, b = lowC c → ∃ acc, (upd H D (.lst (((z.cps.toList.take i).map lowC).map V.bl))) D = some (.lst acc) ∧ acc.length < sizeLine ∧
                upd (upd H D (.lst (((z.cps.toList.take i).map lowC).map V.bl))) D (.lst (acc ++ [V.bl b])) = upd H D (.lst (((z.cps.toList.take (i + 1)).map lowC).map V.bl)) := by
              intro b eb
              refine ⟨_, upd_same, ?_, ?_⟩
              · rw [List.length_map, List.length_map, List.length_take]
                omega
              · rw [upd_upd, eb, tk]
            refine ⟨rfl, lcTurn ⟨_, rfl, _, _, rfl, rfl, _, rfl, ite2 (fun h3 => ?_) (fun h3 => ?_)⟩⟩
            · refine ⟨_, _, rfl, rfl, fin _ ?_⟩
              rw [k1] at h3
              rw [k2]
              unfold lowC
              rw [h3, Bool.true_and]
            · refine fin _ ?_
              rw [k1] at h3
              unfold lowC
              cases e : decide (97 ≤ c) with
              | true => exact absurd e h3
              | false => rw [Bool.false_and]
          · rintro H' rfl
            refine ⟨D, z.cps.toList.map lowC, rfl, SqL.of ?_, ?_⟩
            · rw [upd_same, List.take_of_length_le (by simp)]
            · have e : nameV (V.str z) = ((z.cps.toList.map lowC).all id) := by
                refine nf ?_
                have h1' : decide (1 ≤ z.length) = true := by
                  have := of_decide_eq_true h1
                  exact decide_eq_true (by omega)
                have h2' : decide (z.length ≤ 8) = true := by
                  have := of_decide_eq_true h2
                  exact decide_eq_true (by omega)
                unfold nameS
                rw [h1', h2', List.all_map]
                rfl
              rw [← e]
              exact kq _ (Same.new hD)
        · have e : nameV (V.str z) = false := by
            refine nf ?_
            have h2' : decide (z.length ≤ 8) = false := decide_eq_false fun q => h2 (decide_eq_true (by omega))
            unfold nameS
            rw [h2', Bool.and_false, Bool.false_and]
          have q := kq H (Same.refl H)
          rw [e] at q
          exact q
      · have e : nameV (V.str z) = false := by
          refine nf ?_
          have h1' : decide (1 ≤ z.length) = false := decide_eq_false fun q => h1 (decide_eq_true (by omega))
          unfold nameS
          rw [h1', Bool.false_and, Bool.false_and]
        have q := kq H (Same.refl H)
        rw [e] at q
        exact ⟨false, rfl, iteF q⟩
    | _ => exact ⟨false, rfl, iteF (kq H (Same.refl H))⟩
/-- is_name(value) -/
def spIsName : Sp := fun vs H Q _ => ∃ (x : V) (k : Kd), vs = [x] ∧ IsK H x k ∧ (∀ z, x = .str z → z.length ≤ 1000) ∧ ∀ H', Same H H' → Q (.bl (nameV x)) H'
theorem ok_isname {f : Addr} {fd : FuncData} (F : Fun K "is_name" "is_name" sisname f fd) (B : Bl mg) : FnOk P w K mg base CX0 1 f fd ["value"] spIsName :=
  FnOk.sub (fun vs H Q E ⟨x, k, h1, h2, h3, h4⟩ => ⟨x, k, h1, h2, fun z e => Nat.le_trans (h3 z e) (by decide), h4⟩) (ok_isnameL F B)
end
end Qp
namespace Qp
open PySem L2
section
variable {P : Program} {w : World} {K : PySem.W.Frag} {mg : Str → Option Value} {base : Heap}
/-- bad_index(items, names) -/
def spBad (K : PySem.W.Frag) : Sp := fun vs H Q _ => ∃ (a b : Addr) (xs : List V) (ss : List Str), vs = [.ref a, .ref b] ∧ (SqL K H a xs ∨ SqT K H a xs) ∧ (SqL K H b (ss.map V.str) ∨ SqT K H b (ss.map V.str)) ∧ (∀ x ∈ xs, EltV H x) ∧
  ∀ H', Same H H' → Q (vOpt (badFrom (fun x => inS x ss) [] xs)) H'
theorem sq_same {K : PySem.W.Frag} {H H' : Hp} {a : Addr} {xs : List V} (s : Same H H') (h : SqL K H a xs ∨ SqT K H a xs) : SqL K H' a xs ∨ SqT K H' a xs := h.imp s.seq s.seqT
theorem ok_bad {f : Addr} {fd : FuncData} (F : Fun K "bad_index" "bad_index" sbadindex f fd) (B : Bl mg) : FnOk P w K mg base CX0 1 f fd ["items", "names"] (spBad K) := by
  refine F.ok scbadindex (fun vs H Q E h => ?_) (fun cdv A outer s H vs Q E hr h => ?_)
  · obtain ⟨a, b, xs, ss, rfl, _⟩ := h
    rfl
  · obtain ⟨a, b, xs, ss, rfl, ha, hb, hx, kq⟩ := h
    refine ⟨_, pss_cons (ps_for PassesOwn.never rfl (pi_enumT (by rfl) B.enum (pa_cons (pv 0) pa_nil))
        (pg_tup rfl (pgs_cons (pg_name (i := 2) scbadindex.nd rfl (Or.inl rfl)) (pgs_cons (pg_name (i := 3) scbadindex.nd rfl (Or.inl rfl)) pgs_nil)))
        (pss_one (ps_if (PW.pt (pw_or (pt_cmpR (op_notInS hr.units) (pv 3) (pv 1) (by rfl)) (pw_or1 (pt_cmpR (op_inS hr.units) (pv 3) (pe_slice sl_both (pv 0) po_none (po_some (pv 2))) (by rfl)))))
          (pss_one (ps_ret (pv 2))) pss_nil)))
      (pss_one (ps_ret pe_non)), ?_⟩
    refine ⟨_, rfl, a, xs, rfl, ha, fun J G wk hG => for_it wk (fun i σ H' => ∃ (v2 v3 : Option V) (zs : List Str), σ = [some (.ref a), some (.ref b), v2, v3] ∧ Same H H' ∧ xs.take i = zs.map V.str ∧
      badFrom (fun x => inS x ss) (xs.take i) (xs.drop i) = badFrom (fun x => inS x ss) [] xs) ⟨none, none, [], rfl, Same.refl H, rfl, rfl⟩ (fun i σ H' _ ⟨_, _, _, _, s, _⟩ => hG H' s) ?_ ?_⟩
    · rintro i v σ H1 H2 hi ⟨v2, v3, zs, rfl, s, htk, hbf⟩ ⟨T, x, y, rfl, hT, rfl, ex, ey⟩
      cases ex
      have ey : xs[i]? = some y := ey
      have s2 : Same H (upd H1 T (.tup [.int (i : Nat), y])) := s.trans (Same.new hT)
      have hlen : xs.drop i = y :: xs.drop (i + 1) := by
        have h1 := (List.getElem?_eq_some_iff.mp ey)
        rw [List.drop_eq_getElem_cons hi, h1.2]
      have htk2 : xs.take (i + 1) = xs.take i ++ [y] := by
        rw [List.take_add_one, ey]
        rfl
      have hli : (xs.take i).length = i := by
        rw [List.length_take]
        omega
      rw [hlen, badFrom_cons] at hbf
      have ey' : EltV (upd H1 T (.tup [.int (i : Nat), y])) y := (hx y (List.mem_of_getElem? ey)).same s2
      refine ⟨T, [.int (i : Nat), y], rfl, SqT.of upd_same, rfl, _, _, rfl, _, _, rfl, rfl, ?_⟩
      refine ⟨_, rfl, _, rfl, b, ss, rfl, sq_same s2 hb, ey', _, rfl, ?_⟩
      cases e1 : inS y ss with
      | false =>
        refine iteT (iteT ⟨_, rfl, ?_⟩)
        have q := kq _ s2
        rw [← hbf, e1, Bool.false_and, if_neg Bool.false_ne_true, hli] at q
        exact q
      | true =>
        obtain ⟨z, hz, rfl⟩ := inS_iff.mp e1
        refine iteF ⟨_, rfl, _, rfl, _, rfl, _, rfl, take_both (sq_same s2 ha) hi fun p H3 s3 hp => ⟨p, zs, rfl, by rw [← htk]; exact hp, ey'.same s3, _, rfl, ?_⟩⟩
        have ec : (xs.take i).contains (V.str z) = inS (V.str z) zs := by
          rw [htk, inS_str]
          simp
        cases e2 : inS (V.str z) zs with
        | true =>
          refine iteT ⟨_, rfl, ?_⟩
          have q := kq _ (s2.trans s3)
          rw [← hbf, e1, ec, e2, Bool.not_true, Bool.and_false, if_neg Bool.false_ne_true, hli] at q
          exact q
        | false =>
          refine iteF ⟨_, _, zs ++ [z], rfl, s2.trans s3, by rw [htk2, htk, List.map_append]; rfl, ?_⟩
          rw [e1, ec, e2, Bool.not_false, Bool.true_and, if_pos rfl] at hbf
          rw [htk2]
          exact hbf
    · rintro σ H1 ⟨v2, v3, zs, rfl, s, htk, hbf⟩
      have q := kq H1 s
      rw [← hbf, List.drop_length] at q
      exact q
end
end Qp
namespace L2
open PySem PySem.Spec PyProof.Rows
/-- no dict, whatever it is -/
def NotD (K : PySem.W.Frag) (H : Hp) (x : V) : Prop := ∀ H', Same H H' → ∃ t, TyX K H' x t ∧ PySem.W.kitOne K t (.type "dict") = some false
theorem NotD.same {K : PySem.W.Frag} {H H' : Hp} (s : Same H H') {x : V} (h : NotD K H x) : NotD K H' x := fun H2 s2 => h H2 (s.trans s2)
def rNotD (K : PySem.W.Frag) : List V → Hp → VK → Prop := fun xs H Q => ∃ x : V, xs = [x, .ty "dict"] ∧ NotD K H x ∧ Q (.bl false) H
section
variable {X : Cx} {p p2 pos : Pos} {e : Expr} {te : TE}
theorem call_notD : CallR X (.builtin "isinstance") (rNotD X.K) := fun pins s σ H xs us Q I r ⟨x, ex, hx, q⟩ => by
  obtain ⟨t, h1, h2⟩ := hx H (Same.refl H)
  exact call_isi pins s σ H xs us Q I r ⟨x, .ty "dict", t, .type "dict", false, ex, .ty "dict", h1, h2, q⟩
/-- isinstance(e, dict), e of a kind or no dict at all -/
theorem pe_isiD (hm : X.mg "isinstance" = none) (hT : X.mg "dict" = none) (he : PE X e te) (hg : Gl X "isinstance" := by rfl) (hgT : Gl X "dict" := by rfl)
    (hs : starEach [e, .Name "dict" p2] X.env = (false, eval e X.env) :: starEach [.Name "dict" p2] X.env := by rfl) (hs2 : starEach [.Name "dict" p2] X.env = (false, eval (.Name "dict" p2) X.env) :: starEach [] X.env := by rfl) (hpl : (backTo pos (starEach [.Name "dict" p2] X.env)).any (·.1) = false := by rfl) :
    PE X (.Call (.Name "isinstance" p) [e, .Name "dict" p2] [] pos) (tCB (fun xs H Q => rIs "dict" xs H Q ∨ rNotD X.K xs H Q) (tCons te (tCons (tC (.ty "dict")) tNil))) :=
  pe_callB (X := X) (p := p) (pos := pos) ((call_is kit_dict).or call_notD) hg hm (by decide +kernel) (pa_cons he (pa_cons (pe_bltn (v := .ty "dict") hgT hT (by decide +kernel) rfl (by decide +kernel) (by decide +kernel)) pa_nil hs2) hs) (by decide) (by decide) hs hpl
end
end L2
namespace Qp
open PySem L2
section
variable {P : Program} {w : World} {K : PySem.W.Frag} {mg : Str → Option Value} {base : Heap}
/-- has_keys(value, names) -/
def spHas (K : PySem.W.Frag) : Sp := fun vs H Q _ => (∃ (x : V) (b : Addr), vs = [x, .ref b] ∧ NotD K H x ∧ ∀ H', Same H H' → Q (.bl false) H') ∨ ∃ (x : V) (k : Kd) (b : Addr) (ss : List Str), vs = [x, .ref b] ∧ IsK H x k ∧ (SqL K H b (ss.map V.str) ∨ SqT K H b (ss.map V.str)) ∧ ss.length ≤ 1000 ∧
  (k ≠ .dct → ∀ H', Same H H' → Q (.bl false) H') ∧ ∀ d kvs, x = .ref d → H d = some (.dK kvs) → ∀ H', Same H H' → Q (.bl (hasB kvs ss)) H'
theorem ok_has {f : Addr} {fd : FuncData} (F : Fun K "has_keys" "has_keys" shaskeys f fd) (B : Bl mg) : FnOk P w K mg base CX0 1 f fd ["value", "names"] (spHas K) := by
  refine F.ok schaskeys (fun vs H Q E h => ?_) (fun cdv A outer s H vs Q E hr h => ?_)
  · rcases h with ⟨x, b, rfl, _⟩ | ⟨x, k, b, ss, rfl, _⟩ <;> rfl
  · have hu := hu_of hr
    refine ⟨_, pss_one (ps_ret (pe_and (pe_isiD B.isi B.dct (pv 0)) (pe_and (pe_cmpR op_eq (pe_callB call_lenD (by rfl) B.len PySem.boot_len (pa_cons (pv 0) pa_nil)) (pe_callB call_len_seq (by rfl) B.len PySem.boot_len (pa_cons (pv 1) pa_nil)) (nomark _))
      (pe_one (pe_callB (cr_all rfl) (by rfl) B.all (by decide +kernel) (pa_cons (pe_lc (own := [("name", 2)]) (g := gName 2) (tt := tYes) rfl schaskeys.nd (pi_seq 1) (blkOk_by (own := [("name", 2)]) (N := ["value", "names", "name"]) (sc := defScope shaskeys) (by decide +kernel))
        (fun _ _ _ _ _ => pg_name (i := 2) schaskeys.nd rfl (Or.inl rfl)) (fun _ _ _ _ _ => pts_nil) (fun _ _ _ _ _ => pe_cmp (pc_din hu (pv 2) (pv 0)) rfl)) pa_nil)))))), ?_⟩
    rcases h with ⟨x, b, rfl, hx, kq⟩ | ⟨x, k, b, ss, rfl, ik, hb, hl, kn, kq⟩
    · exact ⟨_, rfl, .inr ⟨x, rfl, hx, _, rfl, iteF (kq H (Same.refl H))⟩⟩
    refine ⟨_, rfl, .inl ⟨x, k, rfl, ik, ?_⟩⟩
    cases ik with
    | @dct d kvs hd =>
      have kq' := kq d kvs rfl hd
      have e2 : sizeLine = 16777216 := sizeLine_eq
      refine ⟨true, rfl, iteT ?_⟩
      refine ⟨_, rfl, d, kvs, rfl, hd, _, rfl, b, _, rfl, hb, rfl, ?_⟩
      by_cases hc : kvs.length = ss.length
      · have e1 : decide (V.int (kvs.length : Int) = V.int ((ss.map V.str).length : Int)) = true := by
          rw [List.length_map, hc]
          exact decide_eq_true rfl
        refine ⟨_, rfl, ?_⟩
        rw [e1]
        refine iteT ⟨b, ss.map V.str, rfl, hb, fun J G wk hG D hD => lc_it wk (fun i H' => Same H H' ∧ H' D = some (.lst (((ss.take i).map fun z => (valV kvs (Sum.inr z)).isSome).map V.bl))) ⟨Same.new hD, upd_same⟩ (fun i H' _ z => hG H' z.1) ?_ ?_⟩
        · rintro i y H1 H' hi ⟨s1, hD1⟩ ⟨rfl, hy⟩
          rw [List.getElem?_map] at hy
          cases ez : ss[i]? with
          | none => rw [ez] at hy; cases hy
          | some z =>
            rw [ez] at hy
            cases hy
            refine ⟨rfl, lcTurn ⟨_, rfl, _, rfl, d, _, rfl, DGet.k (k := Sum.inr z) (s1 _ _ hd), _, hD1, ?_, fun b' o' e' => ?_, ?_⟩⟩
            · rw [List.length_map, List.length_map, List.length_take]
              omega
            · rw [upd_ne (ne_of_none e' hD)]
              exact s1 _ _ e'
            · rw [upd_same, List.take_add_one, ez]
              simp
        · rintro H' ⟨s1, hD1⟩
          refine ⟨D, ss.map fun z => (valV kvs (Sum.inr z)).isSome, rfl, SqL.of ?_, ?_⟩
          · rw [hD1, List.take_of_length_le (by simp)]
          · have e : hasB kvs ss = (ss.map fun z => (valV kvs (Sum.inr z)).isSome).all id := by
              unfold hasB
              rw [decide_eq_true hc, Bool.true_and, List.all_map]
              rfl
            rw [← e]
            exact kq' _ s1
      · have e1 : decide (V.int (kvs.length : Int) = V.int ((ss.map V.str).length : Int)) = false := by
          rw [List.length_map]
          refine decide_eq_false fun z => hc ?_
          have := V.int.inj z
          omega
        refine ⟨_, rfl, ?_⟩
        rw [e1]
        have e : hasB kvs ss = false := by
          unfold hasB
          rw [decide_eq_false hc, Bool.false_and]
        have q := kq' H (Same.refl H)
        rw [e] at q
        exact iteF q
    | _ => exact ⟨false, rfl, iteF (kn (by intro z; cases z) H (Same.refl H))⟩
/-- is_lot(value, names) -/
def spLot (K : PySem.W.Frag) : Sp := fun vs H Q _ => ∃ (x : V) (k : Kd) (b : Addr) (ss : List Str), vs = [x, .ref b] ∧ IsK H x k ∧ (SqL K H b (ss.map V.str) ∨ SqT K H b (ss.map V.str)) ∧
  (k ≠ .lst → ∀ H', Same H H' → Q (.bl false) H') ∧ ∀ a xs, x = .ref a → H a = some (.lst xs) → (∀ y ∈ xs, EltV H y) ∧ ∀ H', Same H H' → Q (.bl (decide (vOpt (badFrom (fun x => inS x ss) [] xs) = .non))) H'
theorem ok_lot {f : Addr} {fd : FuncData} (F : Fun K "is_lot" "is_lot" sislot f fd) (B : Bl mg) (cB : CF P w K mg base CX0 1 "bad_index" ["items", "names"] (spBad K)) : FnOk P w K mg base CX0 2 f fd ["value", "names"] (spLot K) := by
  refine F.ok scislot (fun vs H Q E h => ?_) (fun cdv A outer s H vs Q E hr h => ?_)
  · obtain ⟨x, k, b, ss, rfl, _⟩ := h
    rfl
  · obtain ⟨x, k, b, ss, rfl, ik, hb, kn, kq⟩ := h
    refine ⟨_, pss_one (ps_ret (pe_and (pe_isi kit_list B.isi B.lst (pv 0)) (pe_one (pe_cmp (pc_isN (pe_cf cB hr pass0 (pa_cons (pv 0) (pa_cons (pv 1) pa_nil)))) rfl)))), ?_⟩
    refine ⟨_, rfl, x, k, rfl, ik, ?_⟩
    cases ik with
    | @lst a xs ha =>
      obtain ⟨hx, kq⟩ := kq a xs rfl ha
      exact ⟨true, rfl, iteT ⟨_, rfl, _, rfl, a, b, xs, ss, rfl, .inl (SqL.of ha), hb, hx, kq⟩⟩
    | _ => exact ⟨false, rfl, iteF (kn (by intro z; cases z) H (Same.refl H))⟩
end
end Qp
namespace Qp
open PySem L2
/-- what is wrong with people: none, or the index of BadPeople -/
def dueP : Option (List V) → Option Int
  | none => some (-1)
  | some xs => if xs.length ≤ 16 then (badFrom nameV [] xs).map Int.ofNat else some (-1)
section
variable {P : Program} {w : World} {K : PySem.W.Frag} {mg : Str → Option Value} {base : Heap}
/-- an error of the class at C with one field leaves -/
def Leaves (C : Addr) (f : Str) (v : V) (H : Hp) (E : XK) : Prop := ∀ (d : Addr) (H' : Hp), Same H H' → H' d = some (.xd [(f, v)]) → E (.ref C) (some d) H'
theorem Leaves.go {C : Addr} {f : Str} {v : V} {H H1 : Hp} {E : XK} (h : Leaves C f v H E) (s : Same H H1) (d : Addr) (hd : H1 d = none) : E (.ref C) (some d) (upd H1 d (.xd [(f, v)])) := h d _ (s.trans (Same.new hd)) upd_same
/-- people as a tuple, or none -/
def TupOf (H : Hp) (x : V) (o : Option (List V)) : Prop := ∃ k, IsK H x k ∧ match o with
  | none => k ≠ .tup
  | some xs => ∃ a, x = .ref a ∧ H a = some (.tup xs) ∧ (∀ y ∈ xs, GoodE H y) ∧ xs.length ≤ 1000
/-- _check_people(people) -/
def spCP (C : Addr) : Sp := fun vs H Q E => ∃ (x : V) (o : Option (List V)), vs = [x] ∧ TupOf H x o ∧ (dueP o = none → ∀ H', Same H H' → Q .non H') ∧ ∀ i, dueP o = some i → Leaves C "index" (.int i) H E
theorem names_ok {xs : List V} {zs : List Str} (h : xs.filter nameV = zs.map V.str) : badFrom (fun x => inS x zs) [] xs = badFrom nameV [] xs := by
  refine badFrom_congr fun x hx => ?_
  cases e : nameV x with
  | true =>
    have hm : x ∈ xs.filter nameV := List.mem_filter.mpr ⟨hx, e⟩
    rw [h] at hm
    obtain ⟨z, hz, rfl⟩ := List.mem_map.mp hm
    exact inS_iff.mpr ⟨z, hz, rfl⟩
  | false =>
    cases e2 : inS x zs with
    | false => rfl
    | true =>
      obtain ⟨z, hz, rfl⟩ := inS_iff.mp e2
      have hm : V.str z ∈ zs.map V.str := List.mem_map.mpr ⟨z, hz, rfl⟩
      rw [← h] at hm
      have := (List.mem_filter.mp hm).2
      rw [e] at this
      cases this
theorem ok_cp {f C fI : Addr} {fd : FuncData} {tk : Tok} (F : Fun K "_check_people" "_check_people" scheckpeople f fd) (B : Bl mg) (T : PySem.QX.OwnTxt P K mg "BadPeople" "index" C fI) (hM : mg "MOST_PEOPLE" = some (.int 16 tk))
    (cN : CF P w K mg base CX0 1 "is_name" ["value"] spIsName) (cB : CF P w K mg base CX0 1 "bad_index" ["items", "names"] (spBad K)) : FnOk P w K mg base (L2.CX P w) 2 f fd ["people"] (spCP C) := by
  refine F.okX sccheckpeople (fun vs H Q E h => ?_) (fun cdv A outer s H vs Q E hr h => ?_)
  · obtain ⟨x, o, rfl, _⟩ := h
    rfl
  · obtain ⟨x, o, rfl, ⟨k, ik, hx⟩, kq, kx⟩ := h
    refine ⟨_, pss_cons (ps_if (PW.pt (pw_or (pt_not (pt_val (pe_isi kit_tuple B.isi B.tup (pv 0)))) (pw_or1 (pt_cmpR op_gt (pe_callB call_len_seq (by rfl) B.len PySem.boot_len (pa_cons (pv 0) pa_nil)) (pe_glob (v := .int 16) rfl hM ⟨_, rfl⟩) (nomark _)))))
        (pss_one (ps_raiseS rfl T hr (takes_of rfl rfl rfl rfl) (pa_cons (pe_un un_neg pe_int) pa_nil) rfl)) pss_nil)
      (pss_cons (ps_set (i := 1) sccheckpeople.nd rfl (Or.inl rfl) (pe_cf cB hr pass0 (pa_cons (pv 0) (pa_cons
          (pe_lc (own := [("person", 2)]) (g := gName 2) rfl sccheckpeople.nd (pi_seq 0) (blkOk_by (own := [("person", 2)]) (N := ["people", "index", "person"]) (sc := defScope scheckpeople) (by decide +kernel))
            (fun _ _ _ _ _ => pg_name (i := 2) sccheckpeople.nd rfl (Or.inl rfl)) (fun _ _ _ _ _ => pts_one (pt_val (pe_cf cN hr pass0 (pa_cons (pv 2) pa_nil)))) (fun _ _ _ _ _ => pv 2)) pa_nil))))
      (pss_one (ps_if (pt_cmp (pc_notN (pv 1))) (pss_one (ps_raiseS rfl T hr (takes_of rfl rfl rfl rfl) (pa_cons (pv 1) pa_nil) rfl)) pss_nil))), ?_⟩
    refine ⟨_, rfl, x, k, rfl, ik, _, rfl, ?_⟩
    cases o with
    | none =>
      have e : isaB k "tuple" = false := by
        have hk : k ≠ .tup := hx
        cases k <;> first | rfl | exact absurd rfl hk
      rw [e]
      refine iteT (iteT ?_)
      exact ⟨_, rfl, _, rfl, fun d hd => (kx (-1) rfl).go (Same.refl H) d hd⟩
    | some xs =>
      obtain ⟨a, rfl, ha, hg, hlen⟩ := hx
      have e : isaB k "tuple" = true := by
        cases ik with
        | lst h => rw [ha] at h; cases h
        | tup h => rfl
        | dct h => rw [ha] at h; cases h
      rw [e]
      refine iteF ⟨_, rfl, a, xs, rfl, .inr (SqT.of ha), _, _, rfl, rfl, _, rfl, ?_⟩
      refine ite2 (fun h1 => ?_) (fun h1 => ?_)
      · have h2 := of_decide_eq_true h1
        have e2 : dueP (some xs) = some (-1) := if_neg (by omega)
        exact ⟨_, rfl, _, rfl, fun d hd => (kx (-1) e2).go (Same.refl H) d hd⟩
      · have h2 : xs.length ≤ 16 := by
          have q : ¬ ((16 : Int) < xs.length) := fun z => h1 (decide_eq_true z)
          omega
        have e2 : dueP (some xs) = (badFrom nameV [] xs).map Int.ofNat := if_pos h2
        have esz : sizeLine = 16777216 := sizeLine_eq
        refine ⟨_, rfl, a, xs, rfl, .inr (SqT.of ha), fun J G wk hG D hD => lc_it wk (fun i H' => Same H H' ∧ H' D = some (.lst ((xs.take i).filter nameV))) ⟨Same.new hD, upd_same⟩ (fun i H' _ z => hG H' z.1) ?_ ?_⟩
        · rintro i y H1 H' hi ⟨s1, hD1⟩ ⟨rfl, hy⟩
          obtain ⟨⟨ky, iy⟩, hz⟩ := hg y (List.mem_of_getElem? hy)
          refine ⟨rfl, _, rfl, y, ky, rfl, iy.same s1, hz, fun H2 s2 => ⟨_, rfl, ?_⟩⟩
          have tk : (xs.take (i + 1)).filter nameV = (xs.take i).filter nameV ++ [y].filter nameV := by
            rw [List.take_add_one, hy, List.filter_append]
            rfl
          have hD2 := s2 _ _ hD1
          have hlt : ((xs.take i).filter nameV).length < sizeLine := by
            have q1 := List.length_filter_le nameV (xs.take i)
            rw [List.length_take] at q1
            omega
          cases en : nameV y with
          | true =>
            refine iteT ⟨_, rfl, _, hD2, hlt, fun b' o' e' => ?_, ?_⟩
            · rw [upd_ne (ne_of_none e' hD)]
              exact s2 _ _ (s1 _ _ e')
            · rw [upd_same, tk, List.filter_cons_of_pos (by exact en)]
              rfl
          | false =>
            refine iteF ⟨s1.trans s2, ?_⟩
            rw [hD2, tk, List.filter_cons_of_neg (by rw [en]; decide), List.filter_nil, List.append_nil]
        · rintro H1 ⟨s1, hD1⟩
          obtain ⟨zs, ez, _⟩ := strs_of (l := xs.filter nameV) fun y hy => (List.mem_filter.mp hy).2
          rw [List.take_of_length_le (Nat.le_refl _), ez] at hD1
          refine ⟨a, D, xs, zs, rfl, .inr (SqT.of (s1 _ _ ha)), .inl (SqL.of hD1), fun y hy => (hg y hy).elt.same s1, fun H2 s2 => ?_⟩
          rw [names_ok ez]
          refine ⟨_, rfl, _, rfl, ?_⟩
          cases eb : badFrom nameV [] xs with
          | none =>
            refine iteF (kq ?_ H2 (s1.trans s2))
            rw [e2, eb]
            rfl
          | some i =>
            refine iteT ⟨_, rfl, _, rfl, fun d hd => (kx i ?_).go (s1.trans s2) d hd⟩
            rw [e2, eb]
            rfl
end
end Qp
namespace Qp
open PySem L2
/-- a list, or something else -/
def LstOf (H : Hp) (v : V) (o : Option (List V)) : Prop := ∃ k, IsK H v k ∧ match o with
  | none => k ≠ .lst
  | some xs => ∃ a, v = .ref a ∧ H a = some (.lst xs) ∧ ∀ y ∈ xs, EltV H y
theorem LstOf.same {H H' : Hp} (s : Same H H') {v : V} {o : Option (List V)} (h : LstOf H v o) : LstOf H' v o := by
  obtain ⟨k, ik, q⟩ := h
  refine ⟨k, ik.same s, ?_⟩
  cases o with
  | none => exact q
  | some xs =>
    obtain ⟨a, e, h, hy⟩ := q
    exact ⟨a, e, s _ _ h, fun y m => (hy y m).same s⟩
/-- the wishes of p are as they should be -/
def okW (ps : List Str) (p : Str) : Option (List V) → Bool
  | none => false
  | some xs => decide (vOpt (badFrom (fun x => inS x (ps.filter fun z => !decide (z = p))) [] xs) = .non)
section
variable {P : Program} {w : World} {K : PySem.W.Frag} {mg : Str → Option Value} {base : Heap}
/-- _check_wishes(people, wishes) -/
def spCW (C : Addr) : Sp := fun vs H Q E => ∃ (a : Addr) (x : V) (k : Kd) (ps : List Str), vs = [.ref a, x] ∧ H a = some (.tup (ps.map V.str)) ∧ ps.length ≤ 60 ∧ IsK H x k ∧
  (k ≠ .dct → Leaves C "person" (.str "") H E) ∧
  ∀ d kvs, x = .ref d → H d = some (.dK kvs) → (hasB kvs ps = false → Leaves C "person" (.str "") H E) ∧ (hasB kvs ps = true → ∃ wo : Str → Option (List V),
    (∀ p ∈ ps, ∃ v, valV kvs (Sum.inr p) = some v ∧ LstOf H v (wo p)) ∧ ((∀ p ∈ ps, okW ps p (wo p) = true) → ∀ H', Same H H' → Q .non H') ∧
    ∀ (ys pre post : List Str) (p : Str), ys.Perm ps → PyProof.Rows.sortedS ys = true → ys = pre ++ p :: post → (∀ q ∈ pre, okW ps q (wo q) = true) → okW ps p (wo p) = false → Leaves C "person" (.str p) H E)
theorem ok_cw {f C fI : Addr} {fd : FuncData} (F : Fun K "_check_wishes" "_check_wishes" scheckwishes f fd) (B : Bl mg) (T : PySem.QX.OwnTxt P K mg "BadWishes" "person" C fI)
    (cH : CF P w K mg base CX0 1 "has_keys" ["value", "names"] (spHas K)) (cL : CF P w K mg base CX0 2 "is_lot" ["value", "names"] (spLot K)) : FnOk P w K mg base (L2.CX P w) 3 f fd ["people", "wishes"] (spCW C) := by
  refine F.okX sccheckwishes (fun vs H Q E h => ?_) (fun cdv A outer s H vs Q E hr h => ?_)
  · obtain ⟨a, x, k, ps, rfl, _⟩ := h
    rfl
  · obtain ⟨a, x, k, ps, rfl, ha, hlen, ik, kn, kq⟩ := h
    have hu := hu_of hr
    have esz : sizeLine = 16777216 := sizeLine_eq
    refine ⟨_, pss_cons (ps_if (pt_not (pt_val (pe_cf cH (hr.mono (by decide)) pass0 (pa_cons (pv 1) (pa_cons (pv 0) pa_nil))))) (pss_one (ps_raiseS rfl T hr (takes_of rfl rfl rfl rfl) (pa_cons pe_str pa_nil) rfl)) pss_nil)
      (pss_one (ps_for (passes_of rfl) rfl (pi_list (pe_callB cr_sortedST (by rfl) B.srt (by decide +kernel) (pa_cons (pv 0) pa_nil))) (pg_name (i := 2) sccheckwishes.nd rfl (Or.inr rfl))
        (pss_one (ps_if (pt_not (pt_val (pe_cf cL hr pass0 (pa_cons (pe_dget hu (pv 1) (pv 2) (fun _ _ => rfl)) (pa_cons
          (pe_lc (own := [("other", 3)]) (g := gName 3) rfl sccheckwishes.nd (pi_seq 0) (blkOk_by (own := [("other", 3)]) (N := ["people", "wishes", "person", "other"]) (sc := defScope scheckwishes) (by decide +kernel))
            (fun _ _ _ _ _ => pg_name (i := 3) sccheckwishes.nd rfl (Or.inl rfl)) (fun _ _ _ _ _ => pts_one (pt_cmpR op_ne (pv 3) (pv 2) (nomark _))) (fun _ _ _ _ _ => pv 3)) pa_nil)))))
          (pss_one (ps_raiseS rfl T hr (takes_of rfl rfl rfl rfl) (pa_cons (pv 2) pa_nil) rfl)) pss_nil)))), ?_⟩
    refine ⟨_, rfl, _, rfl, .inr ⟨x, k, a, ps, rfl, ik, .inr (SqT.of ha), by omega, fun hk H1 s1 => ?_, fun d kvs ex hd H1 s1 => ?_⟩⟩
    · exact ⟨false, rfl, iteT ⟨_, rfl, fun d hd => (kn hk).go s1 d hd⟩⟩
    · subst ex
      obtain ⟨k1, k2⟩ := kq d kvs rfl hd
      refine ⟨_, rfl, ?_⟩
      cases eb : hasB kvs ps with
      | false => exact iteT ⟨_, rfl, fun d hd => (k1 eb).go s1 d hd⟩
      | true =>
        obtain ⟨wo, hw, kok, kbad⟩ := k2 eb
        refine iteF ⟨_, rfl, a, ps, rfl, SqT.of (s1 _ _ ha), by omega, fun ys l hp hs hl => ⟨l, rfl, ⟨_, SqL.of upd_same⟩, ?_⟩⟩
        have s2 : Same H (upd H1 l (.lst (ys.map V.str))) := s1.trans (Same.new hl)
        refine for_it (walk_list (xs := ys.map V.str)) (fun i σ H' => ∃ (v2 : Option V), σ = [some (.ref a), some (.ref d), v2, none] ∧ Same (upd H1 l (.lst (ys.map V.str))) H' ∧ ∀ q ∈ ys.take i, okW ps q (wo q) = true)
          ⟨none, rfl, Same.refl _, fun q hq => by simp at hq⟩ (fun i σ H' _ ⟨_, _, s3, _⟩ => SqL.of (s3 _ _ upd_same)) ?_ ?_
        · rintro i y σ Hx H2 hi ⟨v2, rfl, s3, hok⟩ ⟨rfl, hy⟩
          rw [List.length_map] at hi
          rw [List.getElem?_map] at hy
          cases ep : ys[i]? with
          | none => rw [ep] at hy; cases hy
          | some p =>
            rw [ep] at hy
            cases hy
            have hpm : p ∈ ps := hp.mem_iff.mp (List.mem_of_getElem? ep)
            obtain ⟨v, hv, hlv⟩ := hw p hpm
            have s4 : Same H H2 := s2.trans s3
            refine ⟨_, rfl, _, rfl, d, v, rfl, by rw [← hv]; exact DGet.k (k := Sum.inr p) (s4 _ _ hd), a, ps.map V.str, rfl, .inr (SqT.of (s4 _ _ ha)), fun J G wk hG D hD => lc_it wk (fun j H' => Same H2 H' ∧ H' D = some (.lst (((ps.take j).filter fun z => !decide (z = p)).map V.str))) ⟨Same.new hD, upd_same⟩ (fun j H' _ z => hG H' z.1) ?_ ?_⟩
            · rintro j y H3 H' hj ⟨s5, hD5⟩ ⟨rfl, hy⟩
              rw [List.length_map] at hj
              rw [List.getElem?_map] at hy
              cases eo : ps[j]? with
              | none => rw [eo] at hy; cases hy
              | some z =>
                rw [eo] at hy
                cases hy
                refine ⟨rfl, _, rfl, _, rfl, rfl, _, rfl, ?_⟩
                have tk : (ps.take (j + 1)).filter (fun z => !decide (z = p)) = (ps.take j).filter (fun z => !decide (z = p)) ++ [z].filter (fun z => !decide (z = p)) := by
                  rw [List.take_add_one, eo, List.filter_append]
                  rfl
                have hlt : (((ps.take j).filter fun z => !decide (z = p)).map V.str).length < sizeLine := by
                  have q1 := List.length_filter_le (fun z => !decide (z = p)) (ps.take j)
                  rw [List.length_take] at q1
                  rw [List.length_map]
                  omega
                by_cases ez : z = p
                · have e1 : decide (V.str z = V.str p) = true := decide_eq_true (by rw [ez])
                  rw [e1]
                  refine iteF ⟨s5, ?_⟩
                  rw [hD5, tk, List.filter_cons_of_neg (by rw [decide_eq_true ez]; decide), List.filter_nil, List.append_nil]
                · have e1 : decide (V.str z = V.str p) = false := decide_eq_false fun q => ez (V.str.inj q)
                  rw [e1]
                  refine iteT ⟨_, rfl, _, hD5, hlt, fun b' o' e' => ?_, ?_⟩
                  · rw [upd_ne (ne_of_none e' hD)]
                    exact s5 _ _ e'
                  · rw [upd_same, tk, List.filter_cons_of_pos (by rw [decide_eq_false ez]; decide), List.filter_nil, List.map_append]
                    rfl
            · rintro H3 ⟨s5, hD5⟩
              rw [List.length_map, List.take_of_length_le (Nat.le_refl _)] at hD5
              have s6 : Same H H3 := s4.trans s5
              obtain ⟨kv, ikv, hq⟩ := hlv.same s6
              have go_ok : okW ps p (wo p) = true → ∀ H4, Same H3 H4 → ∃ v2 : Option V, ([some (.ref a), some (.ref d), v2, none].set 2 (some (V.str p)) : List (Option V)) = [some (.ref a), some (.ref d), some (V.str p), none] := fun _ _ _ => ⟨none, rfl⟩
              have step : okW ps p (wo p) = true → ∀ q ∈ ys.take (i + 1), okW ps q (wo q) = true := fun e q hq => by
                rw [List.take_add_one, ep] at hq
                rcases List.mem_append.mp hq with h | h
                · exact hok q h
                · have : q = p := by simpa using h
                  rw [this]
                  exact e
              have bad : okW ps p (wo p) = false → Leaves C "person" (.str p) H E := fun e => by
                have hd1 : ys.drop i = p :: ys.drop (i + 1) := by
                  have h1 := (List.getElem?_eq_some_iff.mp ep)
                  rw [List.drop_eq_getElem_cons h1.1, h1.2]
                have es : ys = ys.take i ++ p :: ys.drop (i + 1) := by rw [← hd1, List.take_append_drop]
                exact kbad ys (ys.take i) (ys.drop (i + 1)) p hp hs es hok e
              refine ⟨v, kv, D, ps.filter (fun z => !decide (z = p)), rfl, ikv, .inl (SqL.of hD5), fun hk H4 s7 => ?_, fun av xs ev hav => ⟨fun y hy => ?_, fun H4 s7 => ?_⟩⟩
              · have e1 : okW ps p (wo p) = false := by
                  cases e : wo p with
                  | none => rfl
                  | some xs =>
                    rw [e] at hq
                    obtain ⟨a', e', h', _⟩ := hq
                    subst e'
                    cases ikv with
                    | lst h => exact absurd rfl hk
                    | tup h => rw [h'] at h; cases h
                    | dct h => rw [h'] at h; cases h
                exact ⟨_, rfl, iteT ⟨_, rfl, _, rfl, fun d' hd' => (bad e1).go (s6.trans s7) d' hd'⟩⟩
              · cases e : wo p with
                | none =>
                  rw [e] at hq
                  subst ev
                  cases ikv with
                  | lst h => exact absurd rfl hq
                  | tup h => rw [hav] at h; cases h
                  | dct h => rw [hav] at h; cases h
                | some xs' =>
                  rw [e] at hq
                  obtain ⟨a', e', h', hy'⟩ := hq
                  rw [ev] at e'
                  cases e'
                  rw [hav] at h'
                  cases h'
                  exact hy' y hy
              · have e1 : okW ps p (wo p) = decide (vOpt (badFrom (fun x => inS x (ps.filter fun z => !decide (z = p))) [] xs) = .non) := by
                  cases e : wo p with
                  | none =>
                    rw [e] at hq
                    subst ev
                    cases ikv with
                    | lst h => exact absurd rfl hq
                    | tup h => rw [hav] at h; cases h
                    | dct h => rw [hav] at h; cases h
                  | some xs' =>
                    rw [e] at hq
                    obtain ⟨a', e', h', hy'⟩ := hq
                    rw [ev] at e'
                    cases e'
                    rw [hav] at h'
                    cases h'
                    rfl
                refine ⟨_, rfl, ?_⟩
                rw [← e1]
                cases eo : okW ps p (wo p) with
                | false => exact iteT ⟨_, rfl, _, rfl, fun d' hd' => (bad eo).go (s6.trans s7) d' hd'⟩
                | true => exact iteF ⟨some (V.str p), rfl, s3.trans (s5.trans s7), step eo⟩
        · rintro σ H2 ⟨v2, rfl, s3, hok⟩
          rw [List.length_map, List.take_of_length_le (Nat.le_refl _)] at hok
          exact kok (fun q hq => hok q (hp.mem_iff.mpr hq)) _ (s2.trans s3)
end
end Qp
namespace Qp
open PySem L2
section
variable {P : Program} {w : World} {K : PySem.W.Frag} {mg : Str → Option Value} {base : Heap}
/-- _open_rows(wishes) -/
def spOR : Sp := fun vs H Q _ => ∃ (d : Addr) (ps : List Str) (ws : Str → List Str), vs = [.ref d] ∧ RowsG H d ps (fun a => lstO (ws a)) ∧ ps.Nodup ∧ ps.length ≤ 1000 ∧ (∀ a ∈ ps, (ws a).length ≤ 1000 ∧ ∀ b ∈ ws a, b ∈ ps) ∧
  ∀ D H', Same H H' → RowsG H' D ps (fun a => lstO (opn ws a)) → Q (.ref D) H'
theorem ok_or {f : Addr} {fd : FuncData} (F : Fun K "_open_rows" "_open_rows" sopenrows f fd) : FnOk P w K mg base CX0 1 f fd ["wishes"] spOR := by
  refine F.ok scopenrows (fun vs H Q E h => ?_) (fun cdv A outer s H vs Q E hr h => ?_)
  · obtain ⟨d, ps, ws, rfl, _⟩ := h
    rfl
  · obtain ⟨d, ps, ws, rfl, hR, hnd, hlen, hcl, kq⟩ := h
    have hu := hu_of hr
    have esz : sizeLine = 16777216 := sizeLine_eq
    refine ⟨_, pss_one (ps_ret (pe_lock (pe_dc (own := [("a", 1)]) (g := gName 1) (tt := tYes) rfl scopenrows.nd (pi_keys (pv 0)) (blkOk_by (own := [("a", 1)]) (N := ["wishes", "a", "b"]) (sc := defScope sopenrows) (by decide +kernel))
      (fun _ _ _ _ _ => pg_name (i := 1) scopenrows.nd rfl (Or.inr rfl)) (fun _ _ _ _ _ => pts_nil) (fun _ _ _ _ _ => pv 1)
      (fun _ _ _ _ _ => pe_lc (own := [("b", 2)]) (g := gName 2) rfl scopenrows.nd (pi_listK (K := K) rfl (pe_dget hu (pv 0) (pv 1) (fun _ _ => rfl))) (blkOk_by (own := [("b", 2)]) (N := ["wishes", "a", "b"]) (sc := cScope (retE (defBody sopenrows) 0)) (by decide +kernel)).rel
        (fun _ _ _ _ _ => pg_name (i := 2) scopenrows.nd rfl (Or.inl rfl)) (fun _ _ _ _ _ => pts_one (pt_cmpR (op_inSK (K := K) rfl hr.units) (pv 1) (pe_dget hu (pv 0) (pv 2) (fun _ _ => rfl)) (by rfl))) (fun _ _ _ _ _ => pv 2))))), ?_⟩
    obtain ⟨ad, hd, hrows⟩ := hR
    refine ⟨d, _, hd, True.intro, fun od => ?_⟩
    have sl : ∀ b o, b ≠ d → H b = some o → (upd H d (.frz od (.dK (ps.map fun a => (Sum.inr a, V.ref (ad a)))))) b = some o := fun b o n e => by rw [upd_ne n]; exact e
    generalize hL : upd H d (.frz od (.dK (ps.map fun a => (Sum.inr a, V.ref (ad a))))) = HL at sl
    have hf : HL d = some (.frz od (.dK (ps.map fun a => (Sum.inr a, V.ref (ad a))))) := by rw [← hL]; exact upd_same
    have back : ∀ H', Same HL H' → Same H (upd H' d (.dK (ps.map fun a => (Sum.inr a, V.ref (ad a))))) := fun H' s b o e => by
      by_cases hb : b = d
      · rw [hb, upd_same]
        rw [hb, hd] at e
        exact e
      · rw [upd_ne hb]
        exact s _ _ (sl b o hb e)
    have look : ∀ H', Same HL H' → ∀ a ∈ ps, DGet H' d (.str a) (some (.ref (ad a))) ∧ H' (ad a) = some (lstO (ws a)) := fun H' s a ha =>
      ⟨.inl ⟨_, Sum.inr a, .inr ⟨od, s _ _ hf⟩, rfl, (valV_rows ha).symm⟩, s _ _ (sl _ _ (hrows a ha).2 (hrows a ha).1)⟩
    refine ⟨_, rfl, d, od, rfl, .inl ⟨_, hf, fun D hD => dc_it walk_keys (fun i H' => Same HL H' ∧ RowsG H' D (ps.take i) (fun a => lstO (opn ws a))) ⟨Same.new hD, RowsG.nil upd_same⟩ (fun i H' _ z => z.1 _ _ hf) ?_ ?_⟩⟩
    · rintro i x Hx H1 hi ⟨s1, hR1⟩ ⟨rfl, k, v, hk, rfl⟩
      rw [List.length_map] at hi
      rw [List.getElem?_map] at hk
      cases ea : ps[i]? with
      | none => rw [ea] at hk; cases hk
      | some a =>
        rw [ea] at hk
        cases hk
        have ha : a ∈ ps := List.mem_of_getElem? ea
        obtain ⟨g1, g2⟩ := look H1 s1 a ha
        obtain ⟨hl1, hl2⟩ := hcl a ha
        have gL : SqL K H1 (ad a) ((ws a).map V.str) := SqL.of g2
        refine ⟨rfl, dcTurn ⟨_, rfl, _, rfl, _, rfl, d, _, rfl, g1, _, rfl, ⟨_, gL⟩, fun L hL2 => lc_it (walk_list (xs := (ws a).map V.str)) (fun j H' => Same H1 H' ∧ H' L = some (.lst ((((ws a).take j).filter fun b => decide (a ∈ ws b)).map V.str))) ⟨Same.new hL2, upd_same⟩ (fun j H' _ z => z.1.seq gL) ?_ ?_⟩⟩
        · rintro j y Hy H2 hj ⟨s2, hL3⟩ ⟨rfl, hy⟩
          rw [List.length_map] at hj
          rw [List.getElem?_map] at hy
          cases eb : (ws a)[j]? with
          | none => rw [eb] at hy; cases hy
          | some b =>
            rw [eb] at hy
            cases hy
            have hb : b ∈ ps := hl2 b (List.mem_of_getElem? eb)
            obtain ⟨g3, g4⟩ := look H2 (s1.trans s2) b hb
            have g4' : SqL K H2 (ad b) ((ws b).map V.str) := SqL.of g4
            refine ⟨rfl, _, rfl, _, rfl, _, rfl, d, _, rfl, g3, ad b, ws b, rfl, .inl g4', .flat rfl, _, rfl, ?_⟩
            have einS : inS (kV (Sum.inr a)) (ws b) = decide (a ∈ ws b) := inS_str
            rw [einS]
            have tk : ((ws a).take (j + 1)).filter (fun b => decide (a ∈ ws b)) = ((ws a).take j).filter (fun b => decide (a ∈ ws b)) ++ [b].filter (fun b => decide (a ∈ ws b)) := by
              rw [take_snoc eb, List.filter_append]
            have hlt : ((((ws a).take j).filter fun b => decide (a ∈ ws b)).map V.str).length < sizeLine := by
              have q1 := List.length_filter_le (fun b => decide (a ∈ ws b)) ((ws a).take j)
              rw [List.length_take] at q1
              rw [List.length_map]
              omega
            by_cases em : a ∈ ws b
            · rw [decide_eq_true em]
              refine iteT ⟨_, rfl, _, hL3, hlt, fun b' o' e' => ?_, ?_⟩
              · rw [upd_ne (ne_of_none e' hL2)]
                exact s2 _ _ e'
              · rw [upd_same, tk, List.filter_cons_of_pos (by exact decide_eq_true em), List.filter_nil, List.map_append]
                rfl
            · rw [decide_eq_false em]
              refine iteF ⟨s2, ?_⟩
              rw [hL3, tk, List.filter_cons_of_neg (by rw [decide_eq_false em]; decide), List.filter_nil, List.append_nil]
        · rintro H2 ⟨s2, hL3⟩
          rw [List.length_map, List.take_of_length_le (Nat.le_refl _)] at hL3
          have hDL : L ≠ D := by
            obtain ⟨ad2, e2, _⟩ := hR1
            intro z
            rw [z, e2] at hL2
            cases hL2
          obtain ⟨kvs, h1, h2, h3⟩ := hR1.snoc s2 (not_mem_take hnd ea) (p := L) hL3 hDL
          refine ⟨kvs, Sum.inr a, rfl, h1, ?_, ?_, ?_⟩
          · rw [h2, List.length_take]
            omega
          · intro b o e
            have hbD : b ≠ D := ne_of_none e hD
            rw [upd_ne hbD]
            exact s2 _ _ (s1 _ _ e)
          · rw [take_snoc ea]
            exact h3
    · rintro H1 ⟨s1, hR1⟩
      rw [List.length_map, List.take_of_length_le (Nat.le_refl _)] at hR1
      refine ⟨s1 _ _ hf, kq D _ (back H1 s1) ?_⟩
      obtain ⟨ad2, e2, q2⟩ := hR1
      have hDd : D ≠ d := fun z => by
        rw [z, hf] at hD
        cases hD
      refine ⟨ad2, by rw [upd_ne hDd]; exact e2, fun a ha => ⟨?_, (q2 a ha).2⟩⟩
      have hne : ad2 a ≠ d := fun z => by
        have q := (q2 a ha).1
        rw [z, s1 _ _ hf] at q
        cases q
      rw [upd_ne hne]
      exact (q2 a ha).1
end
end Qp
namespace Qp
open PySem L2
section
variable {P : Program} {w : World} {K : PySem.W.Frag} {mg : Str → Option Value} {base : Heap}
/-- _rank_rows(rows) -/
def spRR : Sp := fun vs H Q _ => ∃ (d : Addr) (ps : List Str) (ws : Str → List Str), vs = [.ref d] ∧ RowsG H d ps (fun a => lstO (ws a)) ∧ ps.Nodup ∧ ps.length ≤ 1000 ∧ (∀ a ∈ ps, (ws a).length ≤ 1000 ∧ (ws a).Nodup) ∧
  ∀ D H', Same H H' → RowsG H' D ps (fun a => rnkO (ws a)) → Q (.ref D) H'
theorem ok_rr {f : Addr} {fd : FuncData} (F : Fun K "_rank_rows" "_rank_rows" srankrows f fd) (B : Bl mg) : FnOk P w K mg base CX0 1 f fd ["rows"] spRR := by
  refine F.ok scrankrows (fun vs H Q E h => ?_) (fun cdv A outer s H vs Q E hr h => ?_)
  · obtain ⟨d, ps, ws, rfl, _⟩ := h
    rfl
  · obtain ⟨d, ps, ws, rfl, hR, hnd, hlen, hcl, kq⟩ := h
    have hu := hu_of hr
    have esz : sizeLine = 16777216 := sizeLine_eq
    refine ⟨_, pss_one (ps_ret (pe_lock (pe_dc (own := [("a", 1)]) (g := gName 1) (tt := tYes) rfl scrankrows.nd (pi_keys (pv 0)) (blkOk_by (own := [("a", 1)]) (N := ["rows", "a", "index", "b"]) (sc := defScope srankrows) (by decide +kernel))
      (fun _ _ _ _ _ => pg_name (i := 1) scrankrows.nd rfl (Or.inl rfl)) (fun _ _ _ _ _ => pts_nil) (fun _ _ _ _ _ => pv 1)
      (fun _ _ _ _ _ => pe_dc (own := [("index", 2), ("b", 3)]) (g := gTup K 2 (gCons (gName 2) (gCons (gName 3) gNil))) (tt := tYes) rfl scrankrows.nd (pi_enumK (K := K) rfl (by rfl) B.enum (pa_cons (pe_dget hu (pv 0) (pv 1) (fun _ _ => rfl)) pa_nil))
        (blkOk_by (own := [("index", 2), ("b", 3)]) (N := ["rows", "a", "index", "b"]) (sc := cScope (retE (defBody srankrows) 0)) (by decide +kernel)).rel
        (fun _ _ _ _ _ => pg_tupK (K := K) rfl rfl (pgs_cons (pg_name (i := 2) scrankrows.nd rfl (Or.inl rfl)) (pgs_cons (pg_name (i := 3) scrankrows.nd rfl (Or.inl rfl)) pgs_nil))) (fun _ _ _ _ _ => pts_nil) (fun _ _ _ _ _ => pv 3) (fun _ _ _ _ _ => pv 2))))), ?_⟩
    obtain ⟨ad, hd, hrows⟩ := hR
    refine ⟨d, _, hd, True.intro, fun od => ?_⟩
    have sl : ∀ b o, b ≠ d → H b = some o → (upd H d (.frz od (.dK (ps.map fun a => (Sum.inr a, V.ref (ad a)))))) b = some o := fun b o n e => by rw [upd_ne n]; exact e
    generalize hL : upd H d (.frz od (.dK (ps.map fun a => (Sum.inr a, V.ref (ad a))))) = HL at sl
    have hf : HL d = some (.frz od (.dK (ps.map fun a => (Sum.inr a, V.ref (ad a))))) := by rw [← hL]; exact upd_same
    have back : ∀ H', Same HL H' → Same H (upd H' d (.dK (ps.map fun a => (Sum.inr a, V.ref (ad a))))) := fun H' s b o e => by
      by_cases hb : b = d
      · rw [hb, upd_same]
        rw [hb, hd] at e
        exact e
      · rw [upd_ne hb]
        exact s _ _ (sl b o hb e)
    have look : ∀ H', Same HL H' → ∀ a ∈ ps, DGet H' d (.str a) (some (.ref (ad a))) ∧ H' (ad a) = some (lstO (ws a)) := fun H' s a ha =>
      ⟨.inl ⟨_, Sum.inr a, .inr ⟨od, s _ _ hf⟩, rfl, (valV_rows ha).symm⟩, s _ _ (sl _ _ (hrows a ha).2 (hrows a ha).1)⟩
    refine ⟨_, rfl, d, od, rfl, .inl ⟨_, hf, fun D hD => dc_it walk_keys (fun i H' => Same HL H' ∧ RowsG H' D (ps.take i) (fun a => rnkO (ws a))) ⟨Same.new hD, RowsG.nil upd_same⟩ (fun i H' _ z => z.1 _ _ hf) ?_ ?_⟩⟩
    · rintro i x Hx H1 hi ⟨s1, hR1⟩ ⟨rfl, k, v, hk, rfl⟩
      rw [List.length_map] at hi
      rw [List.getElem?_map] at hk
      cases ea : ps[i]? with
      | none => rw [ea] at hk; cases hk
      | some a =>
        rw [ea] at hk
        cases hk
        have ha : a ∈ ps := List.mem_of_getElem? ea
        obtain ⟨g1, g2⟩ := look H1 s1 a ha
        obtain ⟨hl1, hl2⟩ := hcl a ha
        have gL : SqL K H1 (ad a) ((ws a).map V.str) := SqL.of g2
        refine ⟨rfl, dcTurn ⟨_, rfl, _, rfl, _, rfl, d, _, rfl, g1, ad a, (ws a).map V.str, rfl, .inl gL, fun J G wk hG L hL2 => dc_it wk (fun j H' => Same H1 H' ∧ H' L = some (rnkO ((ws a).take j))) ⟨Same.new hL2, upd_same⟩ (fun j H' _ z => hG H' z.1) ?_ ?_⟩⟩
        · rintro j y H2 Hy hj ⟨s2, hL3⟩ ⟨T, x, y, rfl, hT, rfl, ex, ey⟩
          cases ex
          rw [List.length_map] at hj
          have ey : ((ws a).map V.str)[j]? = some y := ey
          rw [List.getElem?_map] at ey
          cases eb : (ws a)[j]? with
          | none => rw [eb] at ey; cases ey
          | some b =>
            rw [eb] at ey
            cases ey
            have hTL : L ≠ T := ne_of_none hL3 hT
            refine ⟨T, [.int (j : Nat), .str b], rfl, SqT.of upd_same, rfl, _, _, rfl, _, _, rfl, rfl, rfl, dcTurn ⟨_, rfl, _, rfl, _, Sum.inr b, rfl, by rw [upd_ne hTL]; exact hL3, ?_, fun b' o' e' => ?_, ?_⟩⟩
            · rw [List.length_map, List.length_zipIdx, List.length_take]
              omega
            · rw [upd_ne (ne_of_none e' hL2), upd_ne (ne_of_none (s2 _ _ e') hT)]
              exact s2 _ _ e'
            · have hlt : ((ws a).take j).length = j := by
                rw [List.length_take]
                omega
              rw [upd_same, putK_new _ (valV_rnk_none (not_mem_take hl2 eb)), take_snoc eb]
              unfold rnkO
              rw [zip_snoc, hlt]
        · rintro H2 ⟨s2, hL3⟩
          rw [List.length_map, List.take_of_length_le (Nat.le_refl _)] at hL3
          have hDL : L ≠ D := by
            obtain ⟨ad2, e2, _⟩ := hR1
            intro z
            rw [z, e2] at hL2
            cases hL2
          obtain ⟨kvs, h1, h2, h3⟩ := hR1.snoc s2 (not_mem_take hnd ea) (p := L) hL3 hDL
          refine ⟨kvs, Sum.inr a, rfl, h1, ?_, ?_, ?_⟩
          · rw [h2, List.length_take]
            omega
          · intro b o e
            have hbD : b ≠ D := ne_of_none e hD
            rw [upd_ne hbD]
            exact s2 _ _ (s1 _ _ e)
          · rw [take_snoc ea]
            exact h3
    · rintro H1 ⟨s1, hR1⟩
      rw [List.length_map, List.take_of_length_le (Nat.le_refl _)] at hR1
      refine ⟨s1 _ _ hf, kq D _ (back H1 s1) ?_⟩
      obtain ⟨ad2, e2, q2⟩ := hR1
      have hDd : D ≠ d := fun z => by
        rw [z, hf] at hD
        cases hD
      refine ⟨ad2, by rw [upd_ne hDd]; exact e2, fun a ha => ⟨?_, (q2 a ha).2⟩⟩
      have hne : ad2 a ≠ d := fun z => by
        have q := (q2 a ha).1
        rw [z, s1 _ _ hf] at q
        cases q
      rw [upd_ne hne]
      exact (q2 a ha).1
end
end Qp
namespace Qp
open PySem L2
/-- a group's attributes -/
def gF (a d1 d2 d3 : Addr) : List (Str × V) := putF "_ranks" (.ref d3) (putF "_opens" (.ref d2) (putF "_wishes" (.ref d1) (putF "_people" (.ref a) [])))
theorem n12 : ¬ ("_wishes" : Str) = "_people" := by decide +kernel
theorem n13 : ¬ ("_opens" : Str) = "_people" := by decide +kernel
theorem n14 : ¬ ("_ranks" : Str) = "_people" := by decide +kernel
theorem n23 : ¬ ("_opens" : Str) = "_wishes" := by decide +kernel
theorem n24 : ¬ ("_ranks" : Str) = "_wishes" := by decide +kernel
theorem n34 : ¬ ("_ranks" : Str) = "_opens" := by decide +kernel
theorem gF_people (a d1 d2 d3 : Addr) : (gF a d1 d2 d3).lookup ("_people" : Str) = some (.ref a) := by
  unfold gF
  rw [lookup_putF, if_neg (fun z => n14 z.symm), lookup_putF, if_neg (fun z => n13 z.symm), lookup_putF, if_neg (fun z => n12 z.symm), lookup_putF, if_pos rfl]
theorem gF_wishes (a d1 d2 d3 : Addr) : (gF a d1 d2 d3).lookup ("_wishes" : Str) = some (.ref d1) := by
  unfold gF
  rw [lookup_putF, if_neg (fun z => n24 z.symm), lookup_putF, if_neg (fun z => n23 z.symm), lookup_putF, if_pos rfl]
theorem gF_opens (a d1 d2 d3 : Addr) : (gF a d1 d2 d3).lookup ("_opens" : Str) = some (.ref d2) := by
  unfold gF
  rw [lookup_putF, if_neg (fun z => n34 z.symm), lookup_putF, if_pos rfl]
theorem gF_ranks (a d1 d2 d3 : Addr) : (gF a d1 d2 d3).lookup ("_ranks" : Str) = some (.ref d3) := by
  unfold gF
  rw [lookup_putF, if_pos rfl]
theorem gF_no (a d1 d2 d3 : Addr) {m : Str} (h1 : ¬ m = "_people") (h2 : ¬ m = "_wishes") (h3 : ¬ m = "_opens") (h4 : ¬ m = "_ranks") : (gF a d1 d2 d3).lookup m = none := by
  unfold gF
  rw [lookup_putF, if_neg h4, lookup_putF, if_neg h3, lookup_putF, if_neg h2, lookup_putF, if_neg h1]
  rfl
/-- a Group of the people ps with the wishes ws stands at p -/
def GroupAt (C : Addr) (H : Hp) (p : Addr) (ps : List Str) (ws : Str → List Str) : Prop := ∃ dx a d1 d2 d3, H p = some (.ins C dx (gF a d1 d2 d3)) ∧ H a = some (.tup (ps.map V.str)) ∧
  RowsG H d1 ps (fun x => lstO (ws x)) ∧ RowsG H d2 ps (fun x => lstO (opn ws x)) ∧ RowsG H d3 ps (fun x => rnkO (opn ws x))
/-- what the walk asks of the class -/
structure GTxt (K : PySem.W.Frag) (mg : Str → Option Value) (C : Addr) : Prop where
  cl : Cls K C
  n1 : NoAttr K C "_people"
  n2 : NoAttr K C "_wishes"
  n3 : NoAttr K C "_opens"
  n4 : NoAttr K C "_ranks"
  mgC : mg "Group" = some (.ref C)
theorem Leaves.on {C : Addr} {f : Str} {v : V} {H H1 : Hp} {E : XK} (h : Leaves C f v H E) (s : Same H H1) : Leaves C f v H1 E := fun d H' s' e => h d H' (s.trans s') e
def unS : Option (List V) → List Str
  | none => []
  | some xs => xs.filterMap fun x => match x with
    | .str z => some z
    | _ => none
theorem unS_map : ∀ zs : List Str, unS (some (zs.map V.str)) = zs
  | [] => rfl
  | z :: zs => by
    have ih := unS_map zs
    show z :: unS (some (zs.map V.str)) = z :: zs
    rw [ih]
theorem _root_.L2.RowsG.but {H H' : Hp} {p C dx : Addr} {fs : List (Str × V)} {d : Addr} {ps : List Str} {cnt : Str → HO} (R : RowsG H d ps cnt) (s : SameBut p H H') (hp : H p = some (.ins C dx fs)) (hc : ∀ a, cnt a ≠ .ins C dx fs) : RowsG H' d ps cnt := by
  obtain ⟨ad, e, q⟩ := R
  refine ⟨ad, s _ _ (ne_of e hp (by intro z; cases z)) e, fun a ha => ⟨s _ _ (ne_of (q a ha).1 hp (hc a)) (q a ha).1, (q a ha).2⟩⟩
theorem lst_ins (ss : List Str) (C dx : Addr) (fs : List (Str × V)) : lstO ss ≠ .ins C dx fs := by intro z; cases z
theorem rnk_ins (ss : List Str) (C dx : Addr) (fs : List (Str × V)) : rnkO ss ≠ .ins C dx fs := by intro z; cases z
section
variable {P : Program} {w : World} {K : PySem.W.Frag} {mg : Str → Option Value} {base : Heap}
/-- Group.__init__(self, people, wishes) -/
def spGI (C B W : Addr) : Sp := fun vs H Q E => ∃ (p dx : Addr) (x y : V) (o : Option (List V)) (k : Kd), vs = [.ref p, x, y] ∧ H p = some (.ins C dx []) ∧ TupOf H x o ∧ IsK H y k ∧
  (∀ i, dueP o = some i → Leaves B "index" (.int i) H E) ∧
  ∀ (a : Addr) (ps : List Str), dueP o = none → o = some (ps.map V.str) → x = .ref a → ps.Nodup → (∀ z ∈ ps, nameS z = true) → ps.length ≤ 16 →
    (k ≠ .dct → Leaves W "person" (.str "") H E) ∧
    ∀ d kvs, y = .ref d → H d = some (.dK kvs) → (hasB kvs ps = false → Leaves W "person" (.str "") H E) ∧ (hasB kvs ps = true → ∃ wo : Str → Option (List V),
      (∀ p ∈ ps, ∃ v, valV kvs (Sum.inr p) = some v ∧ LstOf H v (wo p)) ∧
      ((∀ p ∈ ps, okW ps p (wo p) = true) → ∀ (ws : Str → List Str) (H' : Hp), (∀ p ∈ ps, wo p = some ((ws p).map V.str)) → (∀ p ∈ ps, (ws p).Nodup ∧ (∀ q ∈ ws p, q ∈ ps ∧ q ≠ p) ∧ (ws p).length ≤ 1000) → SameBut p H H' → GroupAt C H' p ps ws → Q .non H') ∧
      ∀ (ys pre post : List Str) (p : Str), ys.Perm ps → PyProof.Rows.sortedS ys = true → ys = pre ++ p :: post → (∀ q ∈ pre, okW ps q (wo q) = true) → okW ps p (wo p) = false → Leaves W "person" (.str p) H E)
theorem due_none {xs : List V} (h : dueP (some xs) = none) : ∃ ps : List Str, xs = ps.map V.str ∧ ps.Nodup ∧ (∀ z ∈ ps, nameS z = true) ∧ ps.length ≤ 16 := by
  unfold dueP at h
  by_cases c : xs.length ≤ 16
  · simp only [if_pos c] at h
    cases e : badFrom nameV [] xs with
    | some i => rw [e] at h; cases h
    | none =>
      obtain ⟨h1, h2⟩ := badFrom_none List.nodup_nil e
      obtain ⟨ps, rfl, hz⟩ := strs_of h1
      rw [List.length_map] at c
      refine ⟨ps, rfl, ?_, hz, c⟩
      rw [List.nil_append] at h2
      exact List.Pairwise.of_map V.str (fun a b h e => h (by rw [e])) h2
  · simp only [if_neg c] at h
    cases h
theorem okW_some {ps : List Str} {p : Str} {o : Option (List V)} (h : okW ps p o = true) : ∃ zs : List Str, o = some (zs.map V.str) ∧ zs.Nodup ∧ ∀ q ∈ zs, q ∈ ps ∧ q ≠ p := by
  cases o with
  | none => cases h
  | some xs =>
    have h1 := of_decide_eq_true h
    cases e : badFrom (fun x => inS x (ps.filter fun z => !decide (z = p))) [] xs with
    | some i => rw [e] at h1; cases h1
    | none =>
      obtain ⟨g1, g2⟩ := badFrom_none List.nodup_nil e
      rw [List.nil_append] at g2
      have : ∃ zs : List Str, xs = zs.map V.str := by
        clear h h1 e g2
        induction xs with
        | nil => exact ⟨[], rfl⟩
        | cons x r ih =>
          obtain ⟨zs, ez⟩ := ih fun y hy => g1 y (List.mem_cons_of_mem _ hy)
          obtain ⟨z, _, hz⟩ := inS_iff.mp (g1 x List.mem_cons_self)
          exact ⟨z :: zs, by rw [hz, ez]; rfl⟩
      obtain ⟨zs, rfl⟩ := this
      refine ⟨zs, rfl, List.Pairwise.of_map V.str (fun a b h e => h (by rw [e])) g2, fun q hq => ?_⟩
      obtain ⟨z, hz, e2⟩ := inS_iff.mp (g1 (.str q) (List.mem_map.mpr ⟨q, hq, rfl⟩))
      cases e2
      obtain ⟨z1, z2⟩ := List.mem_filter.mp hz
      exact ⟨z1, by simpa using z2⟩
theorem ok_gi {f C CB CW : Addr} {fd : FuncData} (F : Fun K "__init__" "Group.__init__" sGroupinit f fd) (B : Bl mg) (T : GTxt K mg C) (cP : CF P w K mg base (L2.CX P w) 2 "_check_people" ["people"] (spCP CB)) (cW : CF P w K mg base (L2.CX P w) 3 "_check_wishes" ["people", "wishes"] (spCW CW))
    (cO : CF P w K mg base CX0 1 "_open_rows" ["wishes"] spOR) (cR : CF P w K mg base CX0 1 "_rank_rows" ["rows"] spRR) : FnOk P w K mg base (L2.CX P w) 4 f fd ["self", "people", "wishes"] (spGI C CB CW) := by
  refine F.okX scGroupinit (fun vs H Q E h => ?_) (fun cdv A outer s H vs Q E hr h => ?_)
  · obtain ⟨p, dx, x, y, o, k, rfl, _⟩ := h
    rfl
  · obtain ⟨p, dx, x, y, o, k, rfl, hp, hx, hy, kP, kW⟩ := h
    have hu := hu_of hr
    have esz : sizeLine = 16777216 := sizeLine_eq
    have hr1 : Room 1 _ := hr.mono (by decide)
    have hr2 : Room 2 _ := hr.mono (by decide)
    refine ⟨_, pss_cons (ps_expr (pe_cf cP hr2 (passes_call (takes_of rfl rfl rfl rfl) (fun _ _ _ _ h => h)) (pa_cons (pv 1) pa_nil)))
      (pss_cons (ps_expr (pe_cf cW hr (passes_call (takes_of rfl rfl rfl rfl) (fun _ _ _ _ h => h)) (pa_cons (pv 1) (pa_cons (pv 2) pa_nil))))
      (pss_cons (ps_fld (pv 0) (pv 1) rfl)
      (pss_cons (ps_fld (pv 0) (pe_dc (own := [("a", 3)]) (g := gName 3) (tt := tYes) rfl scGroupinit.nd (pi_seq 1) (blkOk_by (own := [("a", 3)]) (N := ["self", "people", "wishes", "a"]) (sc := defScope sGroupinit) (by decide +kernel))
        (fun _ _ _ _ _ => pg_name (i := 3) scGroupinit.nd rfl (Or.inl rfl)) (fun _ _ _ _ _ => pts_nil) (fun _ _ _ _ _ => pv 3)
        (fun _ _ _ _ _ => pe_callTy (call_listK (K := K) rfl) (by rfl) B.lst (by decide +kernel) (pa_cons (pe_dget hu (pv 2) (pv 3) (fun _ _ => rfl)) pa_nil))) rfl)
      (pss_cons (ps_fld (pv 0) (pe_cf cO hr1 pass0 (pa_cons (pe_fld (pv 0) rfl) pa_nil)) rfl)
      (pss_one (ps_fld (pv 0) (pe_cf cR hr1 pass0 (pa_cons (pe_fld (pv 0) rfl) pa_nil)) rfl)))))), ?_⟩
    refine ⟨_, rfl, x, o, rfl, hx, fun hdue H1 s1 => ?_, fun i hi => kP i hi⟩
    cases o with
    | none => cases hdue
    | some xs =>
      obtain ⟨ps, rfl, hnd, hnm, hl16⟩ := due_none hdue
      obtain ⟨kx, ikx, a, rfl, ha, hgood, _⟩ := hx
      obtain ⟨kW1, kW2⟩ := kW a ps hdue rfl rfl hnd hnm hl16
      refine ⟨_, rfl, _, rfl, a, y, k, ps, rfl, s1 _ _ ha, by omega, hy.same s1, fun hk => (kW1 hk).on s1, fun d kvs ey hd1 => ?_⟩
      subst ey
      have hd : H d = some (.dK kvs) := by
        cases hy with
        | lst h => rw [s1 _ _ h] at hd1; cases hd1
        | tup h => rw [s1 _ _ h] at hd1; cases hd1
        | dct h =>
          rw [s1 _ _ h] at hd1
          cases hd1
          exact h
      obtain ⟨k1, k2⟩ := kW2 d kvs rfl hd
      refine ⟨fun e => (k1 e).on s1, fun e => ?_⟩
      obtain ⟨wo, hw, kok, kbad⟩ := k2 e
      refine ⟨wo, fun q hq => ?_, fun hok H2 s2' => ?_, fun ys pre post q hys hs es hpre hq => (kbad ys pre post q hys hs es hpre hq).on s1⟩
      · obtain ⟨v, hv, hl⟩ := hw q hq
        exact ⟨v, hv, hl.same s1⟩
      · have s2 : Same H H2 := s1.trans s2'
        have hws : ∀ q ∈ ps, wo q = some ((unS (wo q)).map V.str) ∧ (unS (wo q)).Nodup ∧ (∀ r ∈ unS (wo q), r ∈ ps ∧ r ≠ q) ∧ (unS (wo q)).length ≤ 1000 := fun q hq => by
          obtain ⟨zs, ez, hz1, hz2⟩ := okW_some (hok q hq)
          rw [ez, unS_map]
          refine ⟨rfl, hz1, hz2, ?_⟩
          have := nodup_sub_length hz1 fun r hr => (hz2 r hr).1
          omega
        have K2 := fun H' => kok hok (fun q => unS (wo q)) H' (fun q hq => (hws q hq).1) (fun q hq => (hws q hq).2)
        generalize hwsd : (fun q => unS (wo q)) = ws at K2
        have hws' : ∀ q ∈ ps, wo q = some ((ws q).map V.str) ∧ (ws q).Nodup ∧ (∀ r ∈ ws q, r ∈ ps ∧ r ≠ q) ∧ (ws q).length ≤ 1000 := by
          rw [← hwsd]
          exact hws
        have hp2 := s2 _ _ hp
        -- self._people = people
        refine ⟨_, rfl, _, rfl, p, C, dx, _, rfl, hp2, T.cl, T.n1, (by show 0 < 1000; decide), ?_⟩
        have b3 : SameBut p H (upd H2 p (.ins C dx (putF "_people" (.ref a) []))) := (s2.but p).trans SameBut.set
        generalize hH3 : upd H2 p (.ins C dx (putF "_people" (.ref a) [])) = H3 at b3
        have hp3 : H3 p = some (.ins C dx (putF "_people" (.ref a) [])) := by rw [← hH3]; exact upd_same
        have nap : a ≠ p := ne_of ha hp (by intro z; cases z)
        have ndp : d ≠ p := ne_of hd hp (by intro z; cases z)
        -- self._wishes = {a: list(wishes[a]) for a in people}
        refine ⟨a, ps.map V.str, rfl, .inr (SqT.of (b3 _ _ nap ha)), fun J G wk hG D hD => dc_it wk (fun i H' => Same H3 H' ∧ RowsG H' D (ps.take i) (fun x => lstO (ws x))) ⟨Same.new hD, RowsG.nil upd_same⟩ (fun i H' _ z => hG H' z.1) ?_ ?_⟩
        · rintro i z Hz H4 hi ⟨s4, R4⟩ ⟨rfl, hz⟩
          rw [List.length_map] at hi
          rw [List.getElem?_map] at hz
          cases ez : ps[i]? with
          | none => rw [ez] at hz; cases hz
          | some q =>
            rw [ez] at hz
            cases hz
            have hq : q ∈ ps := List.mem_of_getElem? ez
            obtain ⟨v, hv, kv, ikv, hl⟩ := hw q hq
            obtain ⟨e1, _⟩ := hws' q hq
            rw [e1] at hl
            obtain ⟨av, rfl, hav, _⟩ := hl
            have navp : av ≠ p := ne_of hav hp (by intro z; cases z)
            refine ⟨rfl, dcTurn ⟨_, rfl, _, rfl, _, rfl, d, _, rfl, by rw [← hv]; exact DGet.k (k := Sum.inr q) (s4 _ _ (b3 _ _ ndp hd)), av, _, rfl, .inl (SqL.of (s4 _ _ (b3 _ _ navp hav))), fun L hL => ?_⟩⟩
            have hLD : L ≠ D := by
              obtain ⟨ad2, e2, _⟩ := R4
              intro z
              rw [z, e2] at hL
              cases hL
            obtain ⟨kv2, h1, h2, h3⟩ := R4.snoc (Same.new (o := .lst ((ws q).map V.str)) hL) (not_mem_take hnd ez) (p := L) upd_same hLD
            refine ⟨kv2, Sum.inr q, rfl, h1, ?_, ?_, ?_⟩
            · rw [h2, List.length_take]
              omega
            · intro b o e
              rw [upd_ne (ne_of_none e hD), upd_ne (ne_of_none (s4 _ _ e) hL)]
              exact s4 _ _ e
            · rw [take_snoc ez]
              exact h3
        · rintro H4 ⟨s4, R4⟩
          rw [List.length_map, List.take_of_length_le (Nat.le_refl _)] at R4
          have hp4 := s4 _ _ hp3
          have l1 := length_putF "_people" (V.ref a) []
          have l2 := length_putF "_wishes" (V.ref D) (putF "_people" (V.ref a) [])
          refine ⟨_, rfl, p, C, dx, _, rfl, hp4, T.cl, T.n2, Nat.lt_of_le_of_lt l1 (by show 1 < 1000; decide), ?_⟩
          have b5 : SameBut p H4 (upd H4 p (.ins C dx (putF "_wishes" (.ref D) (putF "_people" (.ref a) [])))) := SameBut.set
          have R5 := R4.but b5 hp4 (fun _ => lst_ins _ _ _ _)
          generalize hH5 : upd H4 p (.ins C dx (putF "_wishes" (.ref D) (putF "_people" (.ref a) []))) = H5 at b5 R5
          have hp5 : H5 p = some (.ins C dx (putF "_wishes" (.ref D) (putF "_people" (.ref a) []))) := by rw [← hH5]; exact upd_same
          have t5 : SameBut p H H5 := (b3.trans (s4.but p)).trans b5
          -- self._opens = _open_rows(self._wishes)
          refine ⟨_, rfl, p, C, dx, _, _, rfl, hp5, T.cl, T.n2, by rw [lookup_putF, if_pos rfl], D, ps, ws, rfl, R5, hnd, by omega, fun q hq => ⟨(hws' q hq).2.2.2, fun r hr => ((hws' q hq).2.2.1 r hr).1⟩, fun D2 H6 s6 R6 => ?_⟩
          have hp6 := s6 _ _ hp5
          refine ⟨_, rfl, p, C, dx, _, rfl, hp6, T.cl, T.n3, Nat.lt_of_le_of_lt l2 (Nat.lt_of_le_of_lt (Nat.add_le_add_right l1 1) (by show 2 < 1000; decide)), ?_⟩
          have b7 : SameBut p H6 (upd H6 p (.ins C dx (putF "_opens" (.ref D2) (putF "_wishes" (.ref D) (putF "_people" (.ref a) []))))) := SameBut.set
          have R7 := R6.but b7 hp6 (fun _ => lst_ins _ _ _ _)
          have R7w := (R5.same s6).but b7 hp6 (fun _ => lst_ins _ _ _ _)
          have l3 := length_putF "_opens" (V.ref D2) (putF "_wishes" (V.ref D) (putF "_people" (V.ref a) []))
          generalize hH7 : upd H6 p (.ins C dx (putF "_opens" (.ref D2) (putF "_wishes" (.ref D) (putF "_people" (.ref a) [])))) = H7 at b7 R7 R7w
          have hp7 : H7 p = some (.ins C dx (putF "_opens" (.ref D2) (putF "_wishes" (.ref D) (putF "_people" (.ref a) [])))) := by rw [← hH7]; exact upd_same
          have t7 : SameBut p H H7 := (t5.trans (s6.but p)).trans b7
          -- self._ranks = _rank_rows(self._opens)
          refine ⟨_, rfl, p, C, dx, _, _, rfl, hp7, T.cl, T.n3, by rw [lookup_putF, if_pos rfl], D2, ps, opn ws, rfl, R7, hnd, by omega, fun q hq => ⟨?_, (hws' q hq).2.1.filter _⟩, fun D3 H8 s8 R8 => ?_⟩
          · exact Nat.le_trans (List.length_filter_le _ _) (hws' q hq).2.2.2
          have hp8 := s8 _ _ hp7
          refine ⟨_, rfl, p, C, dx, _, rfl, hp8, T.cl, T.n4, Nat.lt_of_le_of_lt l3 (Nat.lt_of_le_of_lt (Nat.add_le_add_right (Nat.le_trans l2 (Nat.add_le_add_right l1 1)) 1) (by show 3 < 1000; decide)), ?_⟩
          have b9 : SameBut p H8 (upd H8 p (.ins C dx (gF a D D2 D3))) := SameBut.set
          refine K2 _ ((t7.trans (s8.but p)).trans b9) ⟨dx, a, D, D2, D3, upd_same, ?_, (R7w.same s8).but b9 hp8 (fun _ => lst_ins _ _ _ _), (R7.same s8).but b9 hp8 (fun _ => lst_ins _ _ _ _), R8.but b9 hp8 (fun _ => rnk_ins _ _ _ _)⟩
          exact ((t7.trans (s8.but p)).trans b9) _ _ nap ha
end
end Qp
namespace Qp
open PySem L2
section
variable {P : Program} {w : World} {K : PySem.W.Frag} {mg : Str → Option Value} {base : Heap}
/-- _law_take(state, many) -/
def spTake : Sp := fun vs H Q _ => ∃ (st : Addr) (m : Int), vs = [.ref st, .int m] ∧ 0 < m ∧ m < 1000 ∧ StAt H st ∧ ∀ (d n s : Int), 0 ≤ d → d < m → 0 ≤ n → 0 ≤ s → s < 2147483629 → Q (.int d) (upd H st (.lst [.int n, .int s]))
theorem ok_take {f : Addr} {fd : FuncData} (F : Fun K "_law_take" "_law_take" sLtake f fd) (B : Bl mg) : FnOk P w K mg base CX0 1 f fd ["_law_state", "_law_many"] spTake := by
  refine F.ok scLtake (fun vs H Q E h => ?_) (fun cdv A outer s H vs Q E hr h => ?_)
  · obtain ⟨st, m, rfl, _⟩ := h
    rfl
  · obtain ⟨st, m, rfl, hm0, hm1, ⟨n, z, hst, hn, hz0, hz1⟩, kq⟩ := h
    have it0 : PE (cxOf CX0 P w K mg base ["_law_state", "_law_many", "_law_digit", "_law_mixed_here"] "_law_take" (defScope sLtake) f cdv A outer s H E).nox (.Name "_law_state" ⟨0, 0, 0, 0⟩) (tVar 0) := pv 0
    refine ⟨_, pss_cons (ps_if (pt_cmpR op_gt (pe_ix ix_list (pv 0) pe_int (fun _ _ => rfl)) pe_int (nomark _))
        (pss_cons (ps_set (i := 2) scLtake.nd rfl (Or.inl rfl) (pe_op op_modN (pe_callTy call_int1 (by rfl) B.int (by decide +kernel) (pa_cons (pe_ix ix_list (pv 0) pe_int (fun _ _ => rfl)) pa_nil)) (pv 1)))
        (pss_cons (ps_asg (pe_op op_fdivN (pe_callTy call_int1 (by rfl) B.int (by decide +kernel) (pa_cons (pe_ix ix_list (pv 0) pe_int (fun _ _ => rfl)) pa_nil)) (pv 1)) (pg_sub (pv 0) pe_int set_list))
        (pss_one (ps_ret (pv 2))))) pss_nil)
      (pss_cons (ps_asg (pe_op op_modN (pe_callTy call_int1 (by rfl) B.int (by decide +kernel) (pa_cons (pe_op op_add (pe_op op_mul (pe_ix ix_list (pv 0) pe_int (fun _ _ => rfl)) pe_int) pe_int) pa_nil)) pe_int) (pg_sub (pv 0) pe_int set_list))
      (pss_cons (ps_set (i := 3) scLtake.nd rfl (Or.inl rfl) (pe_op op_modN (pe_callTy call_int1 (by rfl) B.int (by decide +kernel) (pa_cons (pe_op op_mul (pe_ix ix_list (pv 0) pe_int (fun _ _ => rfl))
        (pe_op op_add (pe_op op_fdivN (pe_ix ix_list (pv 0) pe_int (fun _ _ => rfl)) pe_int) pe_int)) pa_nil)) pe_int))
      (pss_one (ps_ret (pe_op op_modN (pe_callTy call_int1 (by rfl) B.int (by decide +kernel) (pa_cons (pe_op op_fdivN (pv 3) pe_int) pa_nil)) (pv 1)))))), ?_⟩
    have a0 : atI [V.int n, V.int z] 0 = some (.int n) := atI_nat (j := 0) rfl
    have a1 : atI [V.int n, V.int z] 1 = some (.int z) := atI_nat (j := 1) rfl
    refine ⟨_, rfl, st, _, 0, _, rfl, rfl, SqL.of hst, a0, _, _, rfl, rfl, _, rfl, ?_⟩
    refine ite2 (fun h1 => ?_) (fun h1 => ?_)
    · have h2 : 0 < n := of_decide_eq_true h1
      refine ⟨_, rfl, st, _, 0, _, rfl, rfl, SqL.of hst, a0, .inl ⟨_, rfl, _, rfl, _, _, rfl, rfl, by omega, ?_⟩⟩
      refine ⟨_, rfl, st, _, 0, _, rfl, rfl, SqL.of hst, a0, .inl ⟨_, rfl, _, rfl, _, _, rfl, rfl, ⟨by omega, by omega⟩, ?_⟩⟩
      refine ⟨_, rfl, st, [.int n, .int z], 0, 0, rfl, rfl, hst, by rfl, _, rfl, ?_⟩
      refine kq (n.fmod m) (n.fdiv m) z ?_ ?_ ?_ hz0 hz1
      · exact Int.fmod_nonneg_of_pos _ hm0
      · exact Int.fmod_lt_of_pos _ hm0
      · exact Int.fdiv_nonneg hn (by omega)
    · refine ⟨_, rfl, st, _, 1, _, rfl, rfl, SqL.of hst, a1, _, _, rfl, rfl, .inl ⟨by omega, by omega⟩, _, _, rfl, rfl, .inl ⟨_, rfl, _, _, rfl, rfl, (by show (2147483629 : Int) ≠ 0; decide), ?_⟩⟩
      have f0 : 0 ≤ (z * 48271 + 30103).fmod 2147483629 := Int.fmod_nonneg_of_pos _ (by decide)
      have f1 : (z * 48271 + 30103).fmod 2147483629 < 2147483629 := Int.fmod_lt_of_pos _ (by decide)
      generalize hz2 : (z * 48271 + 30103).fmod 2147483629 = z2 at f0 f1
      refine ⟨_, rfl, st, [.int n, .int z], 1, 1, rfl, rfl, hst, by rfl, ?_⟩
      have b1 : atI ([V.int n, V.int z].set 1 (V.int ((z * 48271 + 30103).fmod 2147483629))) 1 = some (V.int ((z * 48271 + 30103).fmod 2147483629)) := atI_nat (j := 1) rfl
      refine ⟨_, rfl, st, _, 1, _, rfl, rfl, SqL.of upd_same, b1, _, rfl, st, _, 1, _, rfl, rfl, SqL.of upd_same, b1, _, _, rfl, rfl, ⟨by decide, by decide⟩, _, _, rfl, rfl, _, _, rfl, rfl, .inl ⟨?_, ?_⟩, .inl ⟨_, rfl, _, _, rfl, rfl, (by show (2147483647 : Int) ≠ 0; decide), ?_⟩⟩
      · rw [hz2]
        omega
      · rw [hz2]
        omega
      · refine ⟨_, rfl, _, _, rfl, rfl, ⟨by decide, by decide⟩, .inl ⟨_, rfl, _, rfl, _, _, rfl, rfl, by omega, ?_⟩⟩
        have e : (upd H st (.lst ([V.int n, V.int z].set 1 (V.int ((z * 48271 + 30103).fmod 2147483629))))) = upd H st (.lst [.int n, .int z2]) := by rw [hz2]; rfl
        show Q _ (upd H st (.lst ([V.int n, V.int z].set 1 (V.int ((z * 48271 + 30103).fmod 2147483629)))))
        rw [e]
        exact kq _ n z2 (Int.fmod_nonneg_of_pos _ hm0) (Int.fmod_lt_of_pos _ hm0) hn f0 f1
/-- _law_cell(script, k) -/
def spCell (K : PySem.W.Frag) : Sp := fun vs H Q _ => ∃ (a : Addr) (ns : List Int), vs = [.ref a, .int 0] ∧ SqL K H a (ns.map V.int) ∧ ns.length ≤ 63 ∧ ∀ (p : Addr) (n s : Int), H p = none → 0 ≤ n → 0 ≤ s → s < 2147483629 → Q (.ref p) (upd H p (.lst [.int n, .int s]))
theorem ok_cell {f : Addr} {fd : FuncData} (F : Fun K "_law_cell" "_law_cell" sLcell f fd) (B : Bl mg) : FnOk P w K mg base CX0 1 f fd ["_law_script", "_law_k"] (spCell K) := by
  refine F.ok scLcell (fun vs H Q E h => ?_) (fun cdv A outer s H vs Q E hr h => ?_)
  · obtain ⟨a, ns, rfl, _⟩ := h
    rfl
  · obtain ⟨a, ns, rfl, ha, hl, kq⟩ := h
    have rest : ∀ num : Int, 0 ≤ num → ∃ t, PSs (cxOf CX0 P w K mg base ["_law_script", "_law_k", "_law_number", "_law_seed"] "_law_cell" (defScope sLcell) f cdv A outer s H E).nox ((defBody sLcell).drop 2) t ∧
        t { nx := fun _ H' => Q .non H', rt := Q } [some (.ref a), some (.int 0), some (.int num), none] H := fun num hnum => by
      refine ⟨_, pss_cons (ps_set (i := 3) scLcell.nd rfl (Or.inl rfl) (pe_op op_modN (pe_callTy call_int1 (by rfl) B.int (by decide +kernel) (pa_cons (pe_op op_add (pe_op op_add (pe_op op_add (pv 2) (pe_op op_mul pe_int (pv 1)))
            (pe_op op_mul pe_int (pe_callB (call_min2 rfl) (by rfl) B.min (by decide +kernel) (pa_cons (pe_callB call_len_seq (by rfl) B.len PySem.boot_len (pa_cons (pv 0) pa_nil)) (pa_cons pe_int pa_nil))))) pe_int) pa_nil)) pe_int))
        (pss_cons (ps_set (i := 3) scLcell.nd rfl (Or.inl rfl) (pe_op op_modN (pe_callTy call_int1 (by rfl) B.int (by decide +kernel) (pa_cons (pe_op op_add (pe_op op_add (pe_op op_mul (pe_op op_mul (pv 3) (pv 3)) (pv 3)) (pe_op op_mul pe_int (pv 3))) pe_int) pa_nil)) pe_int))
        (pss_cons (ps_if (pt_cmpR op_lt (pv 2) (pe_op op_pow pe_int pe_int) (nomark _)) (pss_one (ps_ret (pe_lst (pa_cons pe_int (pa_cons (pv 3) pa_nil))))) pss_nil)
        (pss_one (ps_ret (pe_lst (pa_cons (pv 2) (pa_cons (pv 3) pa_nil))))))), ?_⟩
      refine ⟨_, rfl, _, rfl, _, _, rfl, rfl, .inl ⟨by decide, by decide⟩, _, _, rfl, rfl, _, rfl, a, _, rfl, .inl ha, _, _, rfl, _, _, rfl, rfl, .inl ⟨by decide, by decide⟩, _, _, rfl, rfl, _, _, rfl, rfl, .inl ⟨_, rfl, _, _, rfl, rfl, (by show (2147483629 : Int) ≠ 0; decide), ?_⟩⟩
      generalize (num + 7919 * 0 + 104729 * (if (63 : Int) < (((ns.map V.int).length : Nat) : Int) then (63 : Int) else (((ns.map V.int).length : Nat) : Int)) + 17) = y
      have f0 : 0 ≤ y.fmod 2147483629 := Int.fmod_nonneg_of_pos _ (by decide)
      have f1 : y.fmod 2147483629 < 2147483629 := Int.fmod_lt_of_pos _ (by decide)
      have m0 : 0 ≤ y.fmod 2147483629 * y.fmod 2147483629 := Int.mul_nonneg f0 f0
      have m1 : y.fmod 2147483629 * y.fmod 2147483629 < 2 ^ 64 := by
        have q : y.fmod 2147483629 * y.fmod 2147483629 ≤ 2147483629 * 2147483629 := Int.mul_le_mul (by omega) (by omega) f0 (by decide)
        omega
      refine ⟨_, rfl, _, rfl, _, _, rfl, rfl, .inl ⟨by omega, by omega⟩, _, rfl, _, _, rfl, rfl, .inl ⟨by omega, by omega⟩, _, rfl, _, _, rfl, rfl, .inl ⟨by decide, by decide⟩, _, _, rfl, rfl, _, _, rfl, rfl, .inl ⟨_, rfl, _, _, rfl, rfl, (by show (2147483629 : Int) ≠ 0; decide), ?_⟩⟩
      have g0 : 0 ≤ (y.fmod 2147483629 * y.fmod 2147483629 * y.fmod 2147483629 + 69621 * y.fmod 2147483629 + 11).fmod 2147483629 := Int.fmod_nonneg_of_pos _ (by decide)
      have g1 : (y.fmod 2147483629 * y.fmod 2147483629 * y.fmod 2147483629 + 69621 * y.fmod 2147483629 + 11).fmod 2147483629 < 2147483629 := Int.fmod_lt_of_pos _ (by decide)
      refine ⟨_, rfl, _, _, rfl, rfl, ⟨by decide, by decide, by decide⟩, _, _, rfl, rfl, _, rfl, ite2 (fun _ => ?_) (fun _ => ?_)⟩
      · exact ⟨_, rfl, by show 2 ≤ sizeLine; decide, fun p hp => kq p 0 _ hp (by decide) g0 g1⟩
      · exact ⟨_, rfl, _, rfl, by show 2 ≤ sizeLine; decide, fun p hp => kq p num _ hp hnum g0 g1⟩
    have hnum : ∀ num : Int, 0 ≤ (if num < 0 then -num else num) := fun num => by
      by_cases h : num < 0
      · rw [if_pos h]
        omega
      · rw [if_neg h]
        omega
    by_cases h0 : 0 < ns.length
    · obtain ⟨n0, e0⟩ : ∃ n0, ns[0]? = some n0 := ⟨ns[0], by simp [h0]⟩
      obtain ⟨t, ht, hq⟩ := rest _ (hnum n0)
      refine ⟨_, pss_cons (ps_set (i := 2) scLcell.nd rfl (Or.inl rfl) pe_int)
        (pss_cons (ps_if (pt_cmpR op_lt (pv 1) (pe_callB call_len_seq (by rfl) B.len PySem.boot_len (pa_cons (pv 0) pa_nil)) (nomark _))
          (pss_one (ps_set (i := 2) scLcell.nd rfl (Or.inl rfl) (pe_callB call_abs (by rfl) B.abs (by decide +kernel) (pa_cons (pe_ix ix_list (pv 0) (pv 1) (fun _ _ => rfl)) pa_nil)))) pss_nil) ht), ?_⟩
      refine ⟨_, rfl, _, rfl, a, _, rfl, .inl ha, _, _, rfl, rfl, _, rfl, ?_⟩
      rw [decide_eq_true (show (0 : Int) < (((ns.map V.int).length : Nat) : Int) by rw [List.length_map]; omega)]
      refine iteT ⟨_, rfl, _, rfl, a, _, 0, .int n0, rfl, rfl, ha, atI_nat (j := 0) (by rw [List.getElem?_map, e0]; rfl), _, rfl, hq⟩
    · obtain ⟨t, ht, hq⟩ := rest 0 (Int.le_refl 0)
      refine ⟨_, pss_cons (ps_set (i := 2) scLcell.nd rfl (Or.inl rfl) pe_int)
        (pss_cons (ps_if (pt_cmpR op_lt (pv 1) (pe_callB call_len_seq (by rfl) B.len PySem.boot_len (pa_cons (pv 0) pa_nil)) (nomark _))
          (pss_one (ps_set (i := 2) scLcell.nd rfl (Or.inl rfl) (pe_callB call_abs (by rfl) B.abs (by decide +kernel) (pa_cons (pe_ix ix_list (pv 0) (pv 1) (fun _ _ => rfl)) pa_nil)))) pss_nil) ht), ?_⟩
      refine ⟨_, rfl, _, rfl, a, _, rfl, .inl ha, _, _, rfl, rfl, _, rfl, ?_⟩
      rw [decide_eq_false (show ¬ (0 : Int) < (((ns.map V.int).length : Nat) : Int) by rw [List.length_map]; omega)]
      exact iteF hq
end
end Qp
namespace Qp
open PySem L2 TL
theorem abc_at (d : Nat) (h : d < 26) : ("abcdefghijklmnopqrstuvwxyz" : Str).cps.toList[d]? = some (97 + d) := by
  have e : ("abcdefghijklmnopqrstuvwxyz" : Str).cps.toList = List.range' 97 26 := by decide +kernel
  rw [e, List.getElem?_range' h]
  simp
theorem abc_len : ("abcdefghijklmnopqrstuvwxyz" : Str).length = 26 := by decide +kernel
theorem joinL_one : ∀ cs : List Nat, joinL [] (cs.map fun c => [c]) = cs
  | [] => rfl
  | [c] => rfl
  | c :: d :: r => by
    have ih := joinL_one (d :: r)
    show [c] ++ ([] ++ joinL [] ((d :: r).map fun c => [c])) = c :: d :: r
    rw [ih]
    rfl
theorem str_ext {y z : Str} (h : y.cps.toList = z.cps.toList) : y = z := by
  cases y with
  | mk a =>
    cases z with
    | mk b =>
      have : a = b := by
        apply Array.toList_inj.mp
        exact h
      rw [this]
theorem join_one (cs : List Nat) : Txt.join ("" : Str) (cs.map fun c => (⟨#[c]⟩ : Str)) = ⟨cs.toArray⟩ := by
  apply str_ext
  rw [join_eq]
  have e := tl_join ("" : Str) (cs.map fun c => (⟨#[c]⟩ : Str))
  have e0 : tl ("" : Str) = [] := by decide +kernel
  have e1 : (cs.map fun c => (⟨#[c]⟩ : Str)).map tl = cs.map fun c => [c] := by
    rw [List.map_map]
    rfl
  rw [e0, e1, joinL_one] at e
  show tl (Str.join ("" : Str) (cs.map fun c => (⟨#[c]⟩ : Str))) = cs.toArray.toList
  rw [e]
theorem name_of {cs : List Nat} (h1 : 1 ≤ cs.length) (h2 : cs.length ≤ 8) (h : ∀ c ∈ cs, lowC c = true) : nameS ⟨cs.toArray⟩ = true := by
  unfold nameS
  have e : (⟨cs.toArray⟩ : Str).length = cs.length := by simp [Str.length]
  rw [e, decide_eq_true h1, decide_eq_true h2, Bool.true_and, Bool.true_and]
  show cs.toArray.toList.all lowC = true
  rw [List.all_eq_true]
  intro c hc
  exact h c (by simpa using hc)
theorem lst_ne_st (ts : List Str) (n s : Int) : (HO.lst (ts.map V.str)) ≠ .lst [.int n, .int s] := by
  intro z
  have e : ts.map V.str = [.int n, .int s] := HO.lst.inj z
  cases ts with
  | nil => cases e
  | cons a r => cases e
theorem low_of (d : Nat) (h : d < 26) : lowC (97 + d) = true := by
  unfold lowC
  rw [Bool.and_eq_true]
  exact ⟨decide_eq_true (by omega), decide_eq_true (by omega)⟩
theorem sum_one : ∀ cs : List Nat, ((cs.map fun c => (⟨#[c]⟩ : Str)).map (·.length)).sum = cs.length
  | [] => rfl
  | c :: cs => by
    have ih := sum_one cs
    rw [List.map_cons, List.map_cons, List.sum_cons, ih, List.length_cons]
    show 1 + cs.length = cs.length + 1
    omega
/-- the k-th further name -/
def other (cs : List Nat) (l : Int) (k : Nat) : Str := ⟨((cs.take 7) ++ [97 + ((l + (0 + (k : Int))).fmod 26).toNat]).toArray⟩
theorem other_inj {cs : List Nat} {l : Int} {j k : Nat} (h0 : 0 ≤ l) (hj : j < 26) (hk : k < 26) (h : other cs l j = other cs l k) : j = k := by
  unfold other at h
  have e := congrArg (fun z : Str => z.cps.toList) h
  simp only [List.toList_toArray] at e
  have e2 := List.append_cancel_left e
  have e3 : 97 + ((l + (0 + (j : Int))).fmod 26).toNat = 97 + ((l + (0 + (k : Int))).fmod 26).toNat := (List.cons.inj e2).1
  rw [Int.fmod_eq_emod_of_nonneg _ (by decide), Int.fmod_eq_emod_of_nonneg _ (by decide)] at e3
  omega
theorem other_name {cs : List Nat} {l : Int} {k : Nat} (h2 : cs.length ≤ 8) (h : ∀ c ∈ cs, lowC c = true) : nameS (other cs l k) = true := by
  refine name_of ?_ ?_ fun c hc => ?_
  · rw [List.length_append]
    exact Nat.le_add_left _ _
  · rw [List.length_append, List.length_take]
    show min 7 cs.length + 1 ≤ 8
    omega
  · rcases List.mem_append.mp hc with q | q
    · exact h c (List.mem_of_mem_take q)
    · have e : c = 97 + ((l + (0 + (k : Int))).fmod 26).toNat := by simpa using q
      have f0 : 0 ≤ (l + (0 + (k : Int))).fmod 26 := Int.fmod_nonneg_of_pos _ (by decide)
      have f1 : (l + (0 + (k : Int))).fmod 26 < 26 := Int.fmod_lt_of_pos _ (by decide)
      rw [e]
      exact low_of _ (by omega)
theorem SameBut.stay {st : Addr} {H H' : Hp} {b : Addr} {o : HO} (s : SameBut st H H') (n : b ≠ st) (h : H b = some o) : H' b = some o := s b o n h
section
variable {P : Program} {w : World} {K : PySem.W.Frag} {mg : Str → Option Value} {base : Heap}
/-- _law_name(state, taken) -/
def spName : Sp := fun vs H Q _ => ∃ (st tk : Addr) (ts : List Str), vs = [.ref st, .ref tk] ∧ StAt H st ∧ H tk = some (lstO ts) ∧ ts.length ≤ 25 ∧ ∀ (z : Str) (H' : Hp), SameBut st H H' → StAt H' st → nameS z = true → z ∉ ts → Q (.str z) H'
theorem ok_name {f : Addr} {fd : FuncData} (F : Fun K "_law_name" "_law_name" sLname f fd) (B : Bl mg) (cT : CF P w K mg base CX0 1 "_law_take" ["_law_state", "_law_many"] spTake) : FnOk P w K mg base CX0 2 f fd ["_law_state", "_law_taken"] spName := by
  refine F.ok scLname (fun vs H Q E h => ?_) (fun cdv A outer s H vs Q E hr h => ?_)
  · obtain ⟨st, tk, ts, rfl, _⟩ := h
    rfl
  · obtain ⟨st, tk, ts, rfl, hst, htk, htl, kq⟩ := h
    have esz : sizeLine = 16777216 := sizeLine_eq
    have nts : tk ≠ st := by
      obtain ⟨n, s, e, _⟩ := hst
      exact ne_of htk e (lst_ne_st ts n s)
    refine ⟨_, pss_cons (ps_set (i := 2) scLname.nd rfl (Or.inr rfl) pe_str)
      (pss_cons (ps_set (i := 3) scLname.nd rfl (Or.inl rfl) (pe_op op_add pe_int (pe_cf cT hr pass0 (pa_cons (pv 0) (pa_cons pe_int pa_nil)))))
      (pss_cons (ps_set (i := 5) scLname.nd rfl (Or.inl rfl) (pe_join pe_str (pe_lc (own := [("_law_k", 4)]) (g := gName 4) (tt := tYes) rfl scLname.nd (pi_range1 (by rfl) B.rng (pa_cons (pv 3) pa_nil))
          (blkOk_by (own := [("_law_k", 4)]) (N := ["_law_state", "_law_taken", "_law_letters", "_law_size", "_law_k", "_law_name_here", "_law_last", "_law_other"]) (sc := defScope sLname) (by decide +kernel))
          (fun _ _ _ _ _ => pg_name (i := 4) scLname.nd rfl (Or.inl rfl)) (fun _ _ _ _ _ => pts_nil) (fun _ _ _ _ _ => pe_ix ix_str (pv 2) (pe_cf cT hr pass0 (pa_cons (pv 0) (pa_cons pe_int pa_nil))) (fun _ _ => rfl)))))
      (pss_cons (ps_if (pt_cmpR (op_notInS hr.units) (pv 5) (pv 1) (by rfl)) (pss_one (ps_ret (pv 5))) pss_nil)
      (pss_cons (ps_set (i := 6) scLname.nd rfl (Or.inl rfl) (pe_cf cT hr pass0 (pa_cons (pv 0) (pa_cons pe_int pa_nil))))
      (pss_cons (ps_for PassesOwn.never rfl (pi_range1 (by rfl) B.rng (pa_cons pe_int pa_nil)) (pg_name (i := 4) scLname.nd rfl (Or.inl rfl))
        (pss_cons (ps_set (i := 7) scLname.nd rfl (Or.inl rfl) (pe_op op_add_str (pe_slice sl_str (pv 5) po_none (po_some pe_int))
            (pe_ix ix_str (pv 2) (pe_op op_modN (pe_callTy call_int1 (by rfl) B.int (by decide +kernel) (pa_cons (pe_op op_add (pv 6) (pv 4)) pa_nil)) pe_int) (fun _ _ => rfl))))
        (pss_one (ps_if (pt_cmpR (op_notInS hr.units) (pv 7) (pv 1) (by rfl)) (pss_one (ps_ret (pv 7))) pss_nil))))
      (pss_one (ps_ret pe_str))))))), ?_⟩
    refine ⟨_, rfl, st, 8, rfl, by decide, by decide, hst, fun d n0 s0 hd0 hd1 hn0 hs0 hs1 => ?_⟩
    generalize hH1 : upd H st (.lst [.int n0, .int s0]) = H1
    have s1 : SameBut st H H1 := by rw [← hH1]; exact SameBut.set
    have st1 : StAt H1 st := ⟨n0, s0, by rw [← hH1]; exact upd_same, hn0, hs0, hs1⟩
    refine ⟨_, _, rfl, rfl, ?_⟩
    refine ⟨⟨_, rfl⟩, _, rfl, (1 + d), rfl, by omega, by omega, fun D hD => lc_it (walk_range (lo := 0) (n := (1 + d).toNat)) (fun i H' => SameBut st H1 H' ∧ StAt H' st ∧ ∃ cs : List Nat, cs.length = i ∧ (∀ c ∈ cs, lowC c = true) ∧ H' D = some (.lst (cs.map fun c => V.str ⟨#[c]⟩))) ?_ (fun _ _ _ _ => True.intro) ?_ ?_⟩
    · exact ⟨(Same.new hD).but st, st1.same (Same.new hD), [], rfl, (fun _ h => by cases h), upd_same⟩
    · rintro i x Hx H2 hi ⟨sb, sa, cs, hlen, hlow, hD1⟩ ⟨rfl, rfl⟩
      have hDst : D ≠ st := by
        obtain ⟨n, s, e, _⟩ := st1
        intro z
        rw [z, e] at hD
        cases hD
      refine ⟨rfl, lcTurn ⟨_, rfl, _, rfl, st, 26, rfl, by decide, by decide, sa, fun e n2 s2 he0 he1 hn2 hs2 hs3 => ?_⟩⟩
      have hat : atI ("abcdefghijklmnopqrstuvwxyz" : Str).cps.toList e = some (97 + e.toNat) := by
        have q := atI_nat (abc_at e.toNat (by omega))
        rw [show ((e.toNat : Nat) : Int) = e by omega] at q
        exact q
      refine ⟨_, e, 97 + e.toNat, rfl, rfl, by rw [abc_len, esz]; decide, hat, _, by rw [upd_ne hDst]; exact hD1, by rw [List.length_map]; omega, ?_, ?_, cs ++ [97 + e.toNat], by rw [List.length_append, hlen]; rfl, fun c hc => ?_, ?_⟩
      · intro b o hb hbo
        by_cases hbD : b = D
        · subst hbD
          rw [hD] at hbo
          cases hbo
        · rw [upd_ne hbD, upd_ne hb]
          exact sb b o hb hbo
      · exact ⟨n2, s2, by rw [upd_ne (Ne.symm hDst)]; exact upd_same, hn2, hs2, hs3⟩
      · rcases List.mem_append.mp hc with q | q
        · exact hlow c q
        · have : c = 97 + e.toNat := by simpa using q
          rw [this]
          exact low_of _ (by omega)
      · rw [upd_same, List.map_append]
        rfl
    · rintro H2 ⟨sb, sa, cs, hlen, hlow, hD1⟩
      have ek : cs.map (fun c => V.str ⟨#[c]⟩) = (cs.map fun c => (⟨#[c]⟩ : Str)).map V.str := by
        rw [List.map_map]
        rfl
      have hc1 : 1 ≤ cs.length := by omega
      have hc8 : cs.length ≤ 8 := by omega
      have sB := s1.trans sb
      have hn := name_of hc1 hc8 hlow
      refine ⟨_, D, cs.map fun c => (⟨#[c]⟩ : Str), rfl, rfl, .inl (SqL.of (by rw [hD1, ek])), ?_, ?_⟩
      · rw [sum_one, List.length_map, show ("" : Str).length = 0 from rfl, Nat.mul_zero]
        omega
      rw [join_one]
      refine ⟨_, rfl, _, rfl, tk, ts, rfl, .inl (SqL.of (sB _ _ nts htk)), .flat rfl, _, rfl, ?_⟩
      rw [if_pos rfl, inS_str]
      by_cases hm : (⟨cs.toArray⟩ : Str) ∈ ts
      · rw [decide_eq_true hm]
        refine iteF ⟨_, rfl, st, 26, rfl, by decide, by decide, sa, fun l n2 s2 hl0 hl1 hn2 hs2 hs3 => ?_⟩
        generalize hH3 : upd H2 st (.lst [.int n2, .int s2]) = H3
        have s3 : SameBut st H2 H3 := by rw [← hH3]; exact SameBut.set
        have st3 : StAt H3 st := ⟨n2, s2, by rw [← hH3]; exact upd_same, hn2, hs2, hs3⟩
        have sC := sB.trans s3
        refine ⟨26, rfl, by decide, by decide, for_it (walk_range (lo := 0) (n := (26 : Int).toNat)) (fun i σ H' => ∃ v4 v7 : Option V, σ = [some (.ref st), some (.ref tk), some (.str "abcdefghijklmnopqrstuvwxyz"), some (.int (1 + d)), v4, some (.str ⟨cs.toArray⟩), some (.int l), v7] ∧ H' = H3 ∧ ∀ j, j < i → other cs l j ∈ ts)
          ⟨_, _, rfl, rfl, fun j hj => absurd hj (Nat.not_lt_zero j)⟩ (fun _ _ _ _ _ => True.intro) ?_ ?_⟩
        · rintro i x σ Hx H4 hi ⟨v4, v7, rfl, rfl, hall⟩ ⟨rfl, rfl⟩
          have f0 : 0 ≤ (l + (0 + (i : Int))).fmod 26 := Int.fmod_nonneg_of_pos _ (by decide)
          have f1 : (l + (0 + (i : Int))).fmod 26 < 26 := Int.fmod_lt_of_pos _ (by decide)
          have hat : atI ("abcdefghijklmnopqrstuvwxyz" : Str).cps.toList ((l + (0 + (i : Int))).fmod 26) = some (97 + ((l + (0 + (i : Int))).fmod 26).toNat) := by
            have q := atI_nat (abc_at ((l + (0 + (i : Int))).fmod 26).toNat (by omega))
            rw [show ((((l + (0 + (i : Int))).fmod 26).toNat : Nat) : Int) = (l + (0 + (i : Int))).fmod 26 by omega] at q
            exact q
          have ecut : cutS ⟨cs.toArray⟩ none (some 7) = ⟨(cs.take 7).toArray⟩ := by
            apply str_ext
            show (((cs.toArray.toList.drop 0).take (HT.sIx cs.toArray.size cs.toArray.size (some ((7 : Nat) : Int)) - 0)).toArray).toList = (cs.take 7).toArray.toList
            rw [HT.sIx_nat]
            simp [List.take_eq_take_iff]
          refine ⟨_, rfl, _, rfl, _, rfl, by show cs.toArray.size ≤ sizeLine; rw [List.size_toArray]; omega, ?_⟩
          refine ⟨_, rfl, _, rfl, _, rfl, _, _, rfl, rfl, .inl ⟨_, rfl, _, _, rfl, rfl, (by show (26 : Int) ≠ 0; decide), _, _, _, rfl, rfl, by rw [abc_len, esz]; decide, hat, ?_⟩⟩
          have eo : (cutS ⟨cs.toArray⟩ none (some 7) ++ (⟨#[97 + ((l + (0 + (i : Int))).fmod 26).toNat]⟩ : Str)) = other cs l i := by
            rw [ecut]
            unfold other
            apply str_ext
            rw [show ((⟨(cs.take 7).toArray⟩ : Str) ++ (⟨#[97 + ((l + (0 + (i : Int))).fmod 26).toNat]⟩ : Str)).cps.toList = tl ((⟨(cs.take 7).toArray⟩ : Str) ++ (⟨#[97 + ((l + (0 + (i : Int))).fmod 26).toNat]⟩ : Str)) from rfl, tl_append]
          refine ⟨_, _, rfl, rfl, ?_, ?_⟩
          · have := cutS_length (⟨cs.toArray⟩ : Str) none (some 7)
            have e9 : (⟨cs.toArray⟩ : Str).length = cs.length := by simp [Str.length]
            show (cutS ⟨cs.toArray⟩ none (some 7)).length + 1 ≤ sizeLine
            omega
          · refine ⟨_, rfl, _, rfl, tk, ts, rfl, .inl (SqL.of (sC _ _ nts htk)), .flat rfl, _, rfl, ?_⟩
            rw [if_pos rfl, inS_str]
            by_cases hm2 : other cs l i ∈ ts
            · have e9 : decide ((cutS ⟨cs.toArray⟩ none (some 7) ++ (⟨#[97 + ((l + (0 + (i : Int))).fmod 26).toNat]⟩ : Str)) ∈ ts) = true := by
                rw [eo]
                exact decide_eq_true hm2
              have e10 : (!decide ((cutS ⟨cs.toArray⟩ none (some 7) ++ (⟨#[97 + ((l + (0 + (i : Int))).fmod 26).toNat]⟩ : Str)) ∈ ts)) = false := by rw [e9]; rfl
              refine (if_neg (by rw [e10]; decide)).mpr ?_
              refine ⟨_, _, rfl, rfl, fun j hj => ?_⟩
              by_cases hji : j < i
              · exact hall j hji
              · have : j = i := by omega
                rw [this]
                exact hm2
            · have e9 : decide ((cutS ⟨cs.toArray⟩ none (some 7) ++ (⟨#[97 + ((l + (0 + (i : Int))).fmod 26).toNat]⟩ : Str)) ∈ ts) = false := by
                rw [eo]
                exact decide_eq_false hm2
              have e10 : (!decide ((cutS ⟨cs.toArray⟩ none (some 7) ++ (⟨#[97 + ((l + (0 + (i : Int))).fmod 26).toNat]⟩ : Str)) ∈ ts)) = true := by rw [e9]; rfl
              refine (if_pos e10).mpr ⟨_, rfl, ?_⟩
              have q := kq (other cs l i) _ sC st3 (other_name hc8 hlow) hm2
              rw [← eo] at q
              exact q
        · rintro σ H4 ⟨v4, v7, rfl, rfl, hall⟩
          exfalso
          have hnd : ((List.range 26).map fun j => other cs l j).Nodup := by
            refine List.Pairwise.map _ (fun a b h e => ?_) (List.Pairwise.and_mem.mp (List.nodup_range (n := 26)))
            obtain ⟨ha, hb, hab⟩ := h
            exact hab (other_inj hl0 (List.mem_range.mp ha) (List.mem_range.mp hb) e)
          have q := nodup_sub_length (m := ts) hnd fun z hz => by
            obtain ⟨j, hj, rfl⟩ := List.mem_map.mp hz
            exact hall j (List.mem_range.mp hj)
          rw [List.length_map, List.length_range] at q
          omega
      · rw [decide_eq_false hm]
        exact iteT ⟨_, rfl, kq _ _ sB sa hn hm⟩
end
end Qp
namespace Qp
open PySem L2
section
variable {P : Program} {w : World} {K : PySem.W.Frag} {mg : Str → Option Value} {base : Heap}
/-- _law_names(state, many) -/
def spNames : Sp := fun vs H Q _ => ∃ (st : Addr) (m : Nat), vs = [.ref st, .int m] ∧ m ≤ 25 ∧ StAt H st ∧ ∀ (p : Addr) (ps : List Str) (H' : Hp), ps.length = m → ps.Nodup → (∀ z ∈ ps, nameS z = true) → SameBut st H H' → StAt H' st → H p = none → p ≠ st → H' p = some (lstO ps) → Q (.ref p) H'
theorem ok_names {f : Addr} {fd : FuncData} (F : Fun K "_law_names" "_law_names" sLnames f fd) (B : Bl mg) (cN : CF P w K mg base CX0 2 "_law_name" ["_law_state", "_law_taken"] spName) : FnOk P w K mg base CX0 3 f fd ["_law_state", "_law_many"] spNames := by
  refine F.ok scLnames (fun vs H Q E h => ?_) (fun cdv A outer s H vs Q E hr h => ?_)
  · obtain ⟨st, m, rfl, _⟩ := h
    rfl
  · obtain ⟨st, m, rfl, hm, hst, kq⟩ := h
    have esz : sizeLine = 16777216 := sizeLine_eq
    refine ⟨_, pss_cons (ps_set (i := 2) scLnames.nd rfl (Or.inl rfl) (pe_lst pa_nil))
      (pss_cons (ps_for PassesOwn.never rfl (pi_range1 (by rfl) B.rng (pa_cons (pv 1) pa_nil)) (pg_name (i := 3) scLnames.nd rfl (Or.inl rfl))
        (pss_one (ps_expr (pe_bm PySem.F.plainAttrs_list PySem.F.slot_list_append PySem.F.type_list_append mt_append (pv 2) (pa_cons (pe_cf cN hr pass0 (pa_cons (pv 0) (pa_cons (pv 2) pa_nil))) pa_nil)))))
      (pss_one (ps_ret (pv 2)))), ?_⟩
    refine ⟨by show 0 ≤ sizeLine; exact Nat.zero_le _, fun p hp => ?_⟩
    have nps : p ≠ st := by
      obtain ⟨n, s, e, _⟩ := hst
      intro z
      rw [z, e] at hp
      cases hp
    refine ⟨_, rfl, m, rfl, by omega, by omega, for_it (walk_range (lo := 0) (n := ((m : Nat) : Int).toNat)) (fun i σ H' => ∃ (v : Option V) (ps : List Str), σ = [some (.ref st), some (.int m), some (.ref p), v] ∧ ps.length = i ∧ ps.Nodup ∧ (∀ z ∈ ps, nameS z = true) ∧ SameBut st H H' ∧ StAt H' st ∧ H' p = some (lstO ps))
      ⟨none, [], rfl, rfl, List.nodup_nil, (fun _ h => by cases h), (Same.new hp).but st, hst.same (Same.new hp), upd_same⟩ (fun _ _ _ _ _ => True.intro) ?_ ?_⟩
    · rintro i x σ Hx H1 hi ⟨v, ps, rfl, hlen, hnd, hnm, sb, sa, hp1⟩ ⟨rfl, rfl⟩
      refine ⟨_, rfl, .inl ⟨rfl, _, SqL.of hp1⟩, _, rfl, _, rfl, st, p, ps, rfl, sa, hp1, by omega, fun z H2 sb2 sa2 hz hnz => ?_⟩
      have hp2 : H2 p = some (lstO ps) := sb2 _ _ nps hp1
      refine ⟨p, ps.map V.str, .str z, rfl, rfl, hp2, by rw [List.length_map]; omega, _, ps ++ [z], rfl, by rw [List.length_append, hlen]; rfl, ?_, fun y hy => ?_, fun b o hb e => ?_, ?_, ?_⟩
      · rw [List.nodup_append]
        refine ⟨hnd, by simp, fun a ha b hb => ?_⟩
        have : b = z := by simpa using hb
        subst this
        intro e
        subst e
        exact hnz ha
      · rcases List.mem_append.mp hy with q | q
        · exact hnm y q
        · have : y = z := by simpa using q
          rw [this]
          exact hz
      · rw [upd_ne (ne_of_none e hp)]
        exact sb2 _ _ hb (sb _ _ hb e)
      · obtain ⟨n, s, e, r⟩ := sa2
        exact ⟨n, s, by rw [upd_ne (Ne.symm nps)]; exact e, r⟩
      · rw [upd_same]
        unfold lstO
        rw [List.map_append]
        rfl
    · rintro σ H1 ⟨v, ps, rfl, hlen, hnd, hnm, sb, sa, hp1⟩
      exact ⟨_, rfl, kq p ps H1 (by omega) hnd hnm sb sa hp nps hp1⟩
end
end Qp
namespace Qp
open PySem L2
theorem seqIx_of {n : Nat} {d : Int} (h0 : 0 ≤ d) (h1 : d < n) : seqIndex? d n = some d.toNat := by
  unfold seqIndex?
  simp [show ¬ d < 0 by omega, h0, h1]
theorem perm_step {α : Type} {pool row zs : List α} {k : Nat} {y : α} (hp : (pool ++ row).Perm zs) (hy : pool[k]? = some y) : ((pool.eraseIdx k) ++ (row ++ [y])).Perm zs := by
  have h1 : pool.Perm (y :: pool.eraseIdx k) := by
    obtain ⟨hk, e⟩ := List.getElem?_eq_some_iff.mp hy
    rw [List.eraseIdx_eq_take_drop_succ]
    have e2 : pool = pool.take k ++ y :: pool.drop (k + 1) := by
      rw [← e, List.getElem_cons_drop, List.take_append_drop]
    exact (List.Perm.of_eq e2).trans List.perm_middle
  refine List.Perm.trans ?_ hp
  refine List.Perm.trans ?_ (List.Perm.append_right row h1.symm)
  rw [← List.append_assoc]
  refine List.Perm.trans (List.perm_append_comm) ?_
  rfl
section
variable {P : Program} {w : World} {K : PySem.W.Frag} {mg : Str → Option Value} {base : Heap}
/-- _law_mixed(state, items) -/
def spMixed : Sp := fun vs H Q _ => ∃ (st it : Addr) (zs : List Str), vs = [.ref st, .ref it] ∧ StAt H st ∧ H it = some (lstO zs) ∧ zs.length ≤ 500 ∧
  ∀ (p : Addr) (ps : List Str) (H' : Hp), ps.Perm zs → SameBut st H H' → StAt H' st → H p = none → H' p = some (lstO ps) → Q (.ref p) H'
theorem ok_mixed {f : Addr} {fd : FuncData} (F : Fun K "_law_mixed" "_law_mixed" sLmixed f fd) (B : Bl mg) (cT : CF P w K mg base CX0 1 "_law_take" ["_law_state", "_law_many"] spTake) : FnOk P w K mg base CX0 2 f fd ["_law_state", "_law_items"] spMixed := by
  refine F.ok scLmixed (fun vs H Q E h => ?_) (fun cdv A outer s H vs Q E hr h => ?_)
  · obtain ⟨st, it, zs, rfl, _⟩ := h
    rfl
  · obtain ⟨st, it, zs, rfl, hst, hit, hlen, kq⟩ := h
    have esz : sizeLine = 16777216 := sizeLine_eq
    refine ⟨_, pss_cons (ps_set (i := 2) scLmixed.nd rfl (Or.inl rfl) (pe_callTy call_list_of (by rfl) B.lst (by decide +kernel) (pa_cons (pv 1) pa_nil)))
      (pss_cons (ps_set (i := 3) scLmixed.nd rfl (Or.inl rfl) (pe_lst pa_nil))
      (pss_cons (ps_for PassesOwn.never rfl (pi_range1 (by rfl) B.rng (pa_cons (pe_callB call_len_seq (by rfl) B.len PySem.boot_len (pa_cons (pv 1) pa_nil)) pa_nil)) (pg_name (i := 4) scLmixed.nd rfl (Or.inl rfl))
        (pss_one (ps_expr (pe_bm PySem.F.plainAttrs_list PySem.F.slot_list_append PySem.F.type_list_append mt_append (pv 3) (pa_cons (pe_bm PySem.F.plainAttrs_list PySem.F.slot_list_pop PySem.F.type_list_pop mt_popAt (pv 2)
          (pa_cons (pe_cf cT hr pass0 (pa_cons (pv 0) (pa_cons (pe_callB call_len_seq (by rfl) B.len PySem.boot_len (pa_cons (pv 2) pa_nil)) pa_nil))) pa_nil)) pa_nil)))))
      (pss_one (ps_ret (pv 3))))), ?_⟩
    have nst : ∀ (b : Addr) (H' : Hp), H' b = none → StAt H' st → b ≠ st := fun b H' hb hs => by
      obtain ⟨n, z, e, _⟩ := hs
      intro y
      rw [y, e] at hb
      cases hb
    refine ⟨_, rfl, it, zs.map V.str, rfl, .inl (SqL.of hit), fun L hL => ⟨(by show 0 ≤ sizeLine; exact Nat.zero_le _), fun R hR => ?_⟩⟩
    have s1 : Same H (upd H L (.lst (zs.map V.str))) := Same.new hL
    have nL := nst L H hL hst
    have eL : (upd H L (.lst (zs.map V.str))) L = some (.lst (zs.map V.str)) := upd_same
    generalize upd H L (.lst (zs.map V.str)) = H1 at s1 hR eL
    have nR := nst R H1 hR (hst.same s1)
    have nRL : L ≠ R := ne_of_none eL hR
    have nHR : H R = none := s1.free hR
    refine ⟨_, rfl, it, _, rfl, .inl (SqL.of (Same.new hR _ _ (s1 _ _ hit))), _, rfl, by rw [List.length_map]; omega, by rw [List.length_map]; omega,
      for_it (walk_range (lo := 0) (n := (((zs.map V.str).length : Nat) : Int).toNat)) (fun i σ H' => ∃ (v : Option V) (pool row : List Str), σ = [some (.ref st), some (.ref it), some (.ref L), some (.ref R), v] ∧ (pool ++ row).Perm zs ∧ row.length = i ∧ SameBut st H H' ∧ StAt H' st ∧ H' L = some (lstO pool) ∧ H' R = some (lstO row))
      ⟨none, zs, [], rfl, by rw [List.append_nil], rfl, (s1.trans (Same.new hR)).but st, (hst.same s1).same (Same.new hR), by rw [upd_ne nRL]; exact eL, upd_same⟩ (fun _ _ _ _ _ => True.intro) ?_ ?_⟩
    · rintro i x σ Hx H2 hi ⟨v, pool, row, rfl, hperm, hrow, sb, sa, hL2, hR2⟩ ⟨rfl, rfl⟩
      have hlp := hperm.length_eq
      rw [List.length_append] at hlp
      rw [List.length_map, Int.toNat_natCast] at hi
      refine ⟨_, rfl, .inl ⟨rfl, _, SqL.of hR2⟩, _, rfl, .inl ⟨rfl, _, SqL.of hL2⟩, _, rfl, _, rfl, L, _, rfl, .inl (SqL.of hL2), st, pool.length, by rw [List.length_map]; rfl, by omega, by omega, sa, fun d n1 z1 hd0 hd1 a1 a2 a3 => ?_⟩
      obtain ⟨y, ey⟩ : ∃ y, pool[d.toNat]? = some y := ⟨_, List.getElem?_eq_getElem (by omega)⟩
      have hL3 : (upd H2 st (.lst [.int n1, .int z1])) L = some (lstO pool) := by rw [upd_ne nL]; exact hL2
      refine ⟨L, pool.map V.str, d, d.toNat, .str y, rfl, rfl, hL3, by omega, by omega, seqIx_of hd0 (by rw [List.length_map]; exact hd1), by rw [List.getElem?_map, ey]; rfl, ?_⟩
      refine ⟨R, row.map V.str, .str y, rfl, rfl, ?_, by rw [List.length_map]; omega, _, pool.eraseIdx d.toNat, row ++ [y], rfl, perm_step hperm ey, by rw [List.length_append, hrow]; rfl, fun b o hb e => ?_, ?_, ?_, ?_⟩
      · rw [upd_ne (Ne.symm nRL), upd_ne nR]
        exact hR2
      · rw [upd_ne (ne_of_none e nHR), upd_ne (ne_of_none e hL), upd_ne hb]
        exact sb _ _ hb e
      · exact ⟨n1, z1, by rw [upd_ne (Ne.symm nR), upd_ne (Ne.symm nL)]; exact upd_same, a1, a2, a3⟩
      · rw [upd_ne nRL, upd_same]
        unfold lstO
        rw [List.eraseIdx_eq_take_drop_succ, List.eraseIdx_eq_take_drop_succ, List.map_append, List.map_take, List.map_drop]
      · rw [upd_same]
        unfold lstO
        rw [List.map_append]
        rfl
    · rintro σ H2 ⟨v, pool, row, rfl, hperm, hrow, sb, sa, hL2, hR2⟩
      have hlp := hperm.length_eq
      rw [List.length_append, hrow, List.length_map, Int.toNat_natCast] at hlp
      have hp0 : pool = [] := List.eq_nil_of_length_eq_zero (by omega)
      subst hp0
      exact ⟨_, rfl, kq R row H2 hperm sb sa nHR hR2⟩
/-- _law_others(names, a) -/
def spOthers (K : PySem.W.Frag) : Sp := fun vs H Q _ => ∃ (it : Addr) (zs : List Str) (a : Str), vs = [.ref it, .str a] ∧ H it = some (lstO zs) ∧ zs.length ≤ 500 ∧
  ∀ (p : Addr) (H' : Hp), Same H H' → H p = none → H' p = some (lstO (zs.filter fun z => !decide (z = a))) → Q (.ref p) H'
theorem ok_others {f : Addr} {fd : FuncData} (F : Fun K "_law_others" "_law_others" sLothers f fd) (B : Bl mg) : FnOk P w K mg base CX0 1 f fd ["_law_names_here", "_law_a"] (spOthers K) := by
  refine F.ok scLothers (fun vs H Q E h => ?_) (fun cdv A outer s H vs Q E hr h => ?_)
  · obtain ⟨it, zs, a, rfl, _⟩ := h
    rfl
  · obtain ⟨it, zs, a, rfl, hit, hlen, kq⟩ := h
    have esz : sizeLine = 16777216 := sizeLine_eq
    refine ⟨_, pss_one (ps_ret (pe_lc (own := [("_law_b", 2)]) (g := gName 2) rfl scLothers.nd (pi_list (pv 0)) (blkOk_by (own := [("_law_b", 2)]) (N := ["_law_names_here", "_law_a", "_law_b"]) (sc := defScope sLothers) (by decide +kernel))
          (fun _ _ _ _ _ => pg_name (i := 2) scLothers.nd rfl (Or.inl rfl)) (fun _ _ _ _ _ => pts_one (pt_cmpR op_ne (pv 2) (pv 1) (nomark _))) (fun _ _ _ _ _ => pv 2))), ?_⟩
    refine ⟨_, rfl, it, rfl, ⟨_, SqL.of hit⟩, fun D hD => lc_it walk_list (fun i H' => Same H H' ∧ H' D = some (lstO ((zs.take i).filter fun z => !decide (z = a)))) ⟨Same.new hD, upd_same⟩ (fun i H' _ z => z.1.seq (SqL.of hit)) ?_ ?_⟩
    · rintro i x Hx H1 hi ⟨s1, hD1⟩ ⟨rfl, hx⟩
      rw [List.getElem?_map] at hx
      cases ex : zs[i]? with
      | none => rw [ex] at hx; cases hx
      | some z =>
        rw [ex] at hx
        cases hx
        have hlt : ((zs.take i).filter fun z => !decide (z = a)).length < sizeLine := by
          have q1 := List.length_filter_le (fun z => !decide (z = a)) (zs.take i)
          rw [List.length_take] at q1
          omega
        refine ⟨rfl, _, rfl, _, rfl, rfl, _, rfl, ?_⟩
        have e9 : decide (V.str z = V.str a) = decide (z = a) := by
          rw [Bool.eq_iff_iff, decide_eq_true_iff, decide_eq_true_iff]
          exact ⟨fun e => V.str.inj e, fun e => by rw [e]⟩
        rw [e9]
        by_cases hza : z = a
        · rw [decide_eq_true hza]
          refine iteF ⟨s1, ?_⟩
          rw [take_snoc ex, List.filter_append, List.filter_cons_of_neg (by rw [decide_eq_true hza]; decide), List.filter_nil, List.append_nil]
          exact hD1
        · rw [decide_eq_false hza]
          refine iteT ⟨_, rfl, _, hD1, by rw [List.length_map]; exact hlt, fun b o e => ?_, ?_⟩
          · rw [upd_ne (ne_of_none e hD)]
            exact s1 _ _ e
          · rw [upd_same, take_snoc ex, List.filter_append, List.filter_cons_of_pos (by rw [decide_eq_false hza]; decide), List.filter_nil]
            unfold lstO
            rw [List.map_append]
            rfl
    · rintro H1 ⟨s1, hD1⟩
      rw [List.length_map, List.take_of_length_le (Nat.le_refl _)] at hD1
      exact kq D H1 s1 hD hD1
end
end Qp
namespace L2
open PySem PySem.Spec PyProof.Rows
theorem cut_to {xs : List V} {i : Nat} : cutV xs none (some (i : Int)) = xs.take i := by
  unfold cutV
  rw [HT.sIx_none, HT.sIx_nat, List.drop_zero, Nat.sub_zero, List.take_eq_take_iff]
  omega
theorem cut_from {xs : List V} {i : Nat} : cutV xs (some (i : Int)) none = xs.drop i := by
  unfold cutV
  rw [HT.sIx_none, HT.sIx_nat]
  by_cases h : i ≤ xs.length
  · rw [Nat.min_eq_left h, List.take_of_length_le (by rw [List.length_drop]; omega)]
  · rw [Nat.min_eq_right (by omega), Nat.sub_self, List.take_zero, List.drop_eq_nil_of_le (by omega)]
theorem cut_mid {xs : List V} {i j : Nat} : cutV xs (some (i : Int)) (some ((i + j : Nat) : Int)) = (xs.drop i).take j := by
  unfold cutV
  rw [HT.sIx_nat, HT.sIx_nat]
  by_cases h : i ≤ xs.length
  · rw [Nat.min_eq_left h, List.take_eq_take_iff, List.length_drop]
    omega
  · rw [List.drop_eq_nil_of_le (show xs.length ≤ min i xs.length by omega), List.drop_eq_nil_of_le (show xs.length ≤ i by omega), List.take_nil, List.take_nil]
theorem ix_listK {X : Cx} {K : PySem.W.Frag} (hK : X.K = K) : IxR X (rIxL K) := by
  subst hK
  exact ix_list
/-- all but two as it was -/
def But2 (st D : Addr) (H H' : Hp) : Prop := ∀ b o, H b = some o → b ≠ st → b ≠ D → H' b = some o
theorem But2.refl (st D : Addr) (H : Hp) : But2 st D H H := fun _ _ h _ _ => h
theorem But2.trans {st D : Addr} {H H1 H2 : Hp} (a : But2 st D H H1) (b : But2 st D H1 H2) : But2 st D H H2 := fun c o e n1 n2 => b c o (a c o e n1 n2) n1 n2
theorem Same.but2 {H H' : Hp} (s : Same H H') (st D : Addr) : But2 st D H H' := fun b o e _ _ => s b o e
theorem SameBut.but2 {st : Addr} {H H' : Hp} (s : SameBut st H H') (D : Addr) : But2 st D H H' := fun b o e n _ => s b o n e
theorem But2.setD {st D : Addr} {H : Hp} {o : HO} : But2 st D H (upd H D o) := fun b u e _ n => by rw [upd_ne n]; exact e
theorem But2.setS {st D : Addr} {H : Hp} {o : HO} : But2 st D H (upd H st o) := fun b u e n _ => by rw [upd_ne n]; exact e
end L2
namespace Qp
open PySem L2
theorem ne_st {H : Hp} {st p : Addr} {zs : List Str} (hs : StAt H st) (h : H p = some (lstO zs)) : p ≠ st := by
  obtain ⟨n, z, e, _⟩ := hs
  exact ne_of h e (lst_ne_st zs n z)
theorem new_ne_st {H : Hp} {st p : Addr} (hs : StAt H st) (h : H p = none) : p ≠ st := by
  obtain ⟨n, z, e, _⟩ := hs
  intro y
  rw [y, e] at h
  cases h
/-- a row that fits a -/
def GRow (ns : List Str) (a : Str) (xs : List Str) : Prop := xs.Nodup ∧ ∀ b ∈ xs, b ∈ ns ∧ b ≠ a
theorem GRow.perm {ns : List Str} {a : Str} {xs ys : List Str} (h : GRow ns a xs) (p : ys.Perm xs) : GRow ns a ys := ⟨p.nodup_iff.mpr h.1, fun b hb => h.2 b (p.mem_iff.mp hb)⟩
theorem GRow.sub {ns : List Str} {a : Str} {xs ys : List Str} (h : GRow ns a xs) (p : ys.Sublist xs) : GRow ns a ys := ⟨h.1.sublist p, fun b hb => h.2 b (p.subset hb)⟩
theorem GRow.names {ns ms : List Str} {a : Str} {xs : List Str} (h : GRow ns a xs) (hm : ∀ z, z ∈ ns → z ∈ ms) : GRow ms a xs := ⟨h.1, fun b hb => ⟨hm b (h.2 b hb).1, (h.2 b hb).2⟩⟩
theorem GRow.len {ns : List Str} {a : Str} {xs : List Str} (h : GRow ns a xs) : xs.length ≤ ns.length := nodup_sub_length h.1 fun b hb => (h.2 b hb).1
theorem grow_cons {ns : List Str} {a : Str} {xs order : List Str} (hn : order.Nodup) (hs : ∀ z ∈ order, z ∈ ns) (p : (a :: xs).Perm order) : GRow ns a xs := by
  have h1 : (a :: xs).Nodup := p.nodup_iff.mpr hn
  obtain ⟨h2, h3⟩ := List.nodup_cons.mp h1
  exact ⟨h3, fun b hb => ⟨hs b (p.mem_iff.mp (List.mem_cons_of_mem _ hb)), fun e => h2 (e ▸ hb)⟩⟩
theorem rot_perm {α : Type} {l : List α} {k : Nat} {a : α} (h : l[k]? = some a) : (a :: (l.drop (k + 1) ++ l.take k)).Perm l := by
  obtain ⟨hk, e⟩ := List.getElem?_eq_some_iff.mp h
  have e2 : l = l.take k ++ a :: l.drop (k + 1) := by
    rw [← e, List.getElem_cons_drop, List.take_append_drop]
  refine List.Perm.trans ?_ (List.Perm.of_eq e2.symm)
  exact (List.perm_append_comm (l₁ := a :: l.drop (k + 1)) (l₂ := l.take k))
theorem rot2_perm {α : Type} {l : List α} {k : Nat} : (l.drop k ++ l.take k).Perm l := by
  have h := List.perm_append_comm (l₁ := l.drop k) (l₂ := l.take k)
  rw [List.take_append_drop] at h
  exact h
theorem filt_grow {ns : List Str} {a : Str} {order : List Str} (hn : order.Nodup) (hs : ∀ z ∈ order, z ∈ ns) : GRow ns a (order.filter fun z => !decide (z = a)) :=
  ⟨hn.filter _, fun b hb => by
    obtain ⟨h1, h2⟩ := List.mem_filter.mp hb
    exact ⟨hs b h1, by simpa using h2⟩⟩
/-- wishes that are being laid -/
def Part (H : Hp) (D : Addr) (qs ns : List Str) : Prop := ∃ ws : Str → List Str, RowsG H D qs (fun a => lstO (ws a)) ∧ ∀ a ∈ qs, GRow ns a (ws a)
theorem Part.new {H : Hp} {D : Addr} {ns : List Str} (h : H D = some (.dK [])) : Part H D [] ns := ⟨fun _ => [], RowsG.nil h, fun _ h => by cases h⟩
theorem Part.dk {H : Hp} {D : Addr} {qs ns : List Str} (h : Part H D qs ns) : ∃ kvs, H D = some (.dK kvs) := by
  obtain ⟨ws, ⟨ad, e, _⟩, _⟩ := h
  exact ⟨_, e⟩
theorem Part.same {H H' : Hp} (s : Same H H') {D : Addr} {qs ns : List Str} (h : Part H D qs ns) : Part H' D qs ns := by
  obtain ⟨ws, R, g⟩ := h
  exact ⟨ws, R.same s, g⟩
theorem Part.but {st : Addr} {H H' : Hp} (s : SameBut st H H') (hs : StAt H st) {D : Addr} {qs ns : List Str} (h : Part H D qs ns) : Part H' D qs ns := by
  obtain ⟨ws, ⟨ad, e, q⟩, g⟩ := h
  have hs2 := hs
  obtain ⟨n, z, es, _⟩ := hs2
  exact ⟨ws, ⟨ad, s _ _ (ne_of e es (by intro y; cases y)) e, fun a ha => ⟨s _ _ (ne_st hs (q a ha).1) (q a ha).1, (q a ha).2⟩⟩, g⟩
theorem Part.ne {H : Hp} {D p : Addr} {qs ns zs : List Str} (h : Part H D qs ns) (hp : H p = some (lstO zs)) : p ≠ D := by
  obtain ⟨kvs, e⟩ := h.dk
  exact ne_of hp e (by intro z; cases z)
theorem Part.put {H : Hp} {D p : Addr} {qs ns row : List Str} {a : Str} (h : Part H D qs ns) (ha : a ∉ qs) (hp : H p = some (lstO row)) (g : GRow ns a row) :
    ∃ kvs, H D = some (.dK kvs) ∧ kvs.length = qs.length ∧ Part (upd H D (.dK (putK kvs (Sum.inr a) (.ref p)))) D (qs ++ [a]) ns := by
  have npd := h.ne hp
  obtain ⟨ws, R, gw⟩ := h
  have hc : ∀ x ∈ qs, (if x = a then row else ws x) = ws x := fun x hx => if_neg fun z : x = a => ha (z ▸ hx)
  have R' : RowsG H D qs (fun x => lstO (if x = a then row else ws x)) := by
    obtain ⟨ad, e, q⟩ := R
    refine ⟨ad, e, fun x hx => ?_⟩
    show H (ad x) = some (lstO (if x = a then row else ws x)) ∧ ad x ≠ D
    rw [hc x hx]
    exact q x hx
  obtain ⟨kvs, h1, h2, h3⟩ := R'.snoc (Same.refl H) ha (p := p) (by show H p = some (lstO (if a = a then row else ws a)); rw [if_pos rfl]; exact hp) npd
  refine ⟨kvs, h1, h2, fun x => if x = a then row else ws x, h3, fun x hx => ?_⟩
  by_cases hxa : x = a
  · subst hxa
    show GRow ns x (if x = x then row else ws x)
    rw [if_pos rfl]
    exact g
  · show GRow ns x (if x = a then row else ws x)
    rw [if_neg hxa]
    rcases List.mem_append.mp hx with z | z
    · exact gw x z
    · exact absurd (by simpa using z) hxa
theorem putK_old {ad : Str → Addr} {p : Addr} {a : Str} {qs : List Str} (ha : a ∈ qs) : putK (qs.map fun x => ((Sum.inr x : Key), V.ref (ad x))) (Sum.inr a) (.ref p) = qs.map fun x => ((Sum.inr x : Key), V.ref (if x = a then p else ad x)) := by
  simp only [putK, List.any_map, List.map_map]
  have e : qs.any ((fun kv => decide (kv.1 = (Sum.inr a : Key))) ∘ fun x => ((Sum.inr x : Key), V.ref (ad x))) = true := by
    rw [List.any_eq_true]
    exact ⟨a, ha, decide_eq_true rfl⟩
  first
    | rw [if_pos e]
    | (rw [if_pos (by simpa using ha)])
  refine List.map_congr_left fun x hx => ?_
  by_cases hxa : x = a
  · subst hxa
    simp
  · simp [hxa]
theorem Part.reput {H : Hp} {D p : Addr} {qs ns row : List Str} {a : Str} (h : Part H D qs ns) (hn : qs.Nodup) (ha : a ∈ qs) (hp : H p = some (lstO row)) (g : GRow ns a row) :
    ∃ kvs, H D = some (.dK kvs) ∧ kvs.length = qs.length ∧ Part (upd H D (.dK (putK kvs (Sum.inr a) (.ref p)))) D qs ns := by
  have npd := h.ne hp
  obtain ⟨ws, ⟨ad, e, q⟩, gw⟩ := h
  refine ⟨_, e, by rw [List.length_map], fun x => if x = a then row else ws x, ⟨fun x => if x = a then p else ad x, by rw [upd_same, putK_old ha], fun x hx => ?_⟩, fun x hx => ?_⟩
  · by_cases hxa : x = a
    · subst hxa
      show upd H D _ (if x = x then p else ad x) = some (lstO (if x = x then row else ws x)) ∧ (if x = x then p else ad x) ≠ D
      rw [if_pos rfl, if_pos rfl, upd_ne npd]
      exact ⟨hp, npd⟩
    · show upd H D _ (if x = a then p else ad x) = some (lstO (if x = a then row else ws x)) ∧ (if x = a then p else ad x) ≠ D
      rw [if_neg hxa, if_neg hxa, upd_ne (q x hx).2]
      exact q x hx
  · by_cases hxa : x = a
    · subst hxa
      show GRow ns x (if x = x then row else ws x)
      rw [if_pos rfl]
      exact g
    · show GRow ns x (if x = a then row else ws x)
      rw [if_neg hxa]
      exact gw x hx
/-- the body of the i-th statement, a for -/
def forB (b : List Stmt) (i : Nat) : List Stmt := match b.getD i (.Pass ⟨0, 0, 0, 0⟩) with
  | .For _ _ c _ _ => c
  | .If _ c _ _ => c
  | _ => []
end Qp
namespace Qp
open PySem L2
/-- the laid wishes of all -/
def spWsh : Sp := fun vs H Q _ => ∃ (st it : Addr) (ns : List Str), vs = [.ref st, .ref it] ∧ StAt H st ∧ H it = some (lstO ns) ∧ ns.Nodup ∧ ns.length ≤ 100 ∧
  ∀ (D : Addr) (H' : Hp), H D = none → SameBut st H H' → StAt H' st → (∃ order, order.Perm ns ∧ Part H' D order ns) → Q (.ref D) H'
def spPlain : Sp := fun vs H Q _ => ∃ (st it : Addr) (ns : List Str) (m : Int), vs = [.ref st, .ref it, .int m] ∧ StAt H st ∧ H it = some (lstO ns) ∧ ns.Nodup ∧ ns.length ≤ 100 ∧
  ∀ (D : Addr) (H' : Hp), H D = none → SameBut st H H' → StAt H' st → (∃ order, order.Perm ns ∧ Part H' D order ns) → Q (.ref D) H'
structure PlF (order ns : List Str) (k : Nat) (a : Str) : Prop where
  nd : order.Nodup
  at_ : order[k]? = some a
  sub : ∀ z ∈ order, z ∈ ns
  len : order.length ≤ 100
  lenn : ns.length ≤ 100
def plS (st it : Addr) (m : Int) (O D : Addr) (k : Nat) (p : Addr) : St := [some (.ref st), some (.ref it), some (.int m), some (.ref O), some (.ref D), some (.int k), some (.ref p), none]
def PlI (st it : Addr) (m : Int) (O D : Addr) (order ns : List Str) (k : Nat) (a : Str) (Hs : Hp) (Dn : Ends) (t : TS) : Prop := ∀ (H : Hp) (p : Addr) (row : List Str), StAt H st → H O = some (lstO order) → Part H D (order.take k) ns → H p = some (lstO row) → GRow ns a row → But2 st D Hs H → t Dn (plS st it m O D k p) H
def PlN (st it : Addr) (m : Int) (O D : Addr) (order ns : List Str) (k : Nat) (Hs : Hp) (Dn : Ends) : Prop := ∀ (H : Hp) (p : Addr), StAt H st → H O = some (lstO order) → Part H D (order.take (k + 1)) ns → But2 st D Hs H → Dn.nx (plS st it m O D k p) H
theorem lstO_len {H : Hp} {p : Addr} {zs : List Str} {K : PySem.W.Frag} (h : H p = some (lstO zs)) : SqL K H p (zs.map V.str) := SqL.of h
section
variable {P : Program} {w : World} {K : PySem.W.Frag} {mg : Str → Option Value} {base : Heap}
abbrev nPlain : List Str := ["_law_state", "_law_names_here", "_law_mode", "_law_order", "_law_wishes_here", "_law_k", "_law_others_here", "_law_b"]
section
variable {f : Addr} {cdv : Value} {A : Around} {outer : List Env} {s : Shared} {H0 : Hp} {E0' : XK}
theorem plain5 (B : Bl mg) (hr : Room 2 (A.deeper (PyProof.Rows.envOfC "_law_plain_wishes" (defScope sLplainwishes) s.heap.objs.size f cdv))) :
    ∃ t, PSs (cxOf CX0 P w K mg base nPlain "_law_plain_wishes" (defScope sLplainwishes) f cdv A outer s H0 E0').nox ((forB (defBody sLplainwishes) 2).drop 5) t ∧
      ∀ st it m O D order ns k a Hs Dn, PlF order ns k a → PlN st it m O D order ns k Hs Dn → PlI st it m O D order ns k a Hs Dn t := by
  have hu := hu_of hr
  have esz : sizeLine = 16777216 := sizeLine_eq
  refine ⟨_, pss_one (ps_dput hu (pv 4) (pe_ix ix_list (pv 3) (pv 5) (fun _ _ => rfl)) (pv 6) rfl), ?_⟩
  rintro st it m O D order ns k a Hs Dn F N H p row hs hO hP hp hg hb
  obtain ⟨kvs, h1, h2, h3⟩ := hP.put (not_mem_take F.nd F.at_) hp hg
  have hlen := F.len
  refine ⟨_, rfl, _, rfl, _, rfl, _, rfl, O, order.map V.str, k, .str a, rfl, rfl, SqL.of hO, atI_nat (j := k) (by rw [List.getElem?_map, F.at_]; rfl), D, _, rfl, DPut.k (k := Sum.inr a) h1 (by rw [h2, List.length_take]; omega), ?_⟩
  have nD : st ≠ D := by
    obtain ⟨n, z, e, _⟩ := hs
    intro y
    rw [← y, e] at h1
    cases h1
  refine N _ p ?_ ?_ ?_ (hb.trans But2.setD)
  · obtain ⟨n, z, e, r⟩ := hs
    exact ⟨n, z, by rw [upd_ne nD]; exact e, r⟩
  · rw [upd_ne (hP.ne hO)]
    exact hO
  · rw [take_snoc F.at_]
    exact h3
theorem plain4 (B : Bl mg) (cT : CF P w K mg base CX0 1 "_law_take" ["_law_state", "_law_many"] spTake) (hr : Room 2 (A.deeper (PyProof.Rows.envOfC "_law_plain_wishes" (defScope sLplainwishes) s.heap.objs.size f cdv))) :
    ∃ t, PSs (cxOf CX0 P w K mg base nPlain "_law_plain_wishes" (defScope sLplainwishes) f cdv A outer s H0 E0').nox ((forB (defBody sLplainwishes) 2).drop 4) t ∧
      ∀ st it m O D order ns k a Hs Dn, PlF order ns k a → PlN st it m O D order ns k Hs Dn → PlI st it m O D order ns k a Hs Dn t := by
  obtain ⟨t, ht, q⟩ := plain5 (P := P) (w := w) (base := base) (outer := outer) (H0 := H0) (E0' := E0') B hr
  have hr1 : Room 1 _ := hr.mono (by decide)
  refine ⟨_, pss_cons (ps_if (pt_cmpR op_eq (pv 2) pe_int (nomark _)) (pss_one (ps_set (i := 6) scLplainwishes.nd rfl (Or.inl rfl) (pe_slice sl_list (pv 6) po_none (po_some (pe_cf cT hr1 pass0 (pa_cons (pv 0) (pa_cons pe_int pa_nil))))))) pss_nil) ht, ?_⟩
  rintro st it m O D order ns k a Hs Dn F N H p row hs hO hP hp hg hb
  have q := q st it m O D order ns k a Hs Dn F N
  refine ⟨_, rfl, rfl, _, rfl, ite2 (fun _ => ?_) (fun _ => q H p row hs hO hP hp hg hb)⟩
  refine ⟨_, rfl, _, rfl, st, 4, rfl, by decide, by decide, hs, fun d n1 z1 hd0 hd1 a1 a2 a3 => ?_⟩
  have sb : SameBut st H (upd H st (.lst [.int n1, .int z1])) := SameBut.set
  have hs1 : StAt (upd H st (.lst [.int n1, .int z1])) st := ⟨n1, z1, upd_same, a1, a2, a3⟩
  generalize upd H st (.lst [.int n1, .int z1]) = H1 at sb hs1
  obtain ⟨i, rfl⟩ := Int.eq_ofNat_of_zero_le hd0
  have hp1 := sb _ _ (ne_st hs hp) hp
  refine ⟨_, rfl, p, _, rfl, SqL.of hp1, fun L hL => ?_⟩
  have s2 : Same H1 (upd H1 L (.lst (cutV (row.map V.str) none (some ((i : Nat) : Int))))) := Same.new hL
  refine q _ L (row.take i) (hs1.same s2) (s2 _ _ (sb _ _ (ne_st hs hO) hO)) ((hP.but sb hs).same s2) ?_ (hg.sub (List.take_sublist i row)) ((hb.trans (sb.but2 D)).trans (s2.but2 st D))
  rw [upd_same, cut_to]
  unfold lstO
  rw [List.map_take]
theorem plain3 (B : Bl mg) (cT : CF P w K mg base CX0 1 "_law_take" ["_law_state", "_law_many"] spTake) (hr : Room 2 (A.deeper (PyProof.Rows.envOfC "_law_plain_wishes" (defScope sLplainwishes) s.heap.objs.size f cdv))) :
    ∃ t, PSs (cxOf CX0 P w K mg base nPlain "_law_plain_wishes" (defScope sLplainwishes) f cdv A outer s H0 E0').nox ((forB (defBody sLplainwishes) 2).drop 3) t ∧
      ∀ st it m O D order ns k a Hs Dn, PlF order ns k a → PlN st it m O D order ns k Hs Dn → PlI st it m O D order ns k a Hs Dn t := by
  obtain ⟨t, ht, q⟩ := plain4 (P := P) (w := w) (base := base) (outer := outer) (H0 := H0) (E0' := E0') B cT hr
  have hr1 : Room 1 _ := hr.mono (by decide)
  refine ⟨_, pss_cons (ps_if (pt_cmpR op_eq (pv 2) pe_int (nomark _)) (pss_one (ps_set (i := 6) scLplainwishes.nd rfl (Or.inl rfl) (pe_slice sl_list (pv 6) po_none (po_some (pe_cf cT hr1 pass0 (pa_cons (pv 0) (pa_cons (pe_op op_add (pe_callB call_len_seq (by rfl) B.len PySem.boot_len (pa_cons (pv 6) pa_nil)) pe_int) pa_nil))))))) pss_nil) ht, ?_⟩
  rintro st it m O D order ns k a Hs Dn F N H p row hs hO hP hp hg hb
  have q := q st it m O D order ns k a Hs Dn F N
  refine ⟨_, rfl, rfl, _, rfl, ite2 (fun _ => ?_) (fun _ => q H p row hs hO hP hp hg hb)⟩
  have hrl := hg.len
  have hnl := F.lenn
  refine ⟨_, rfl, _, rfl, _, rfl, p, _, rfl, .inl (SqL.of hp), _, _, rfl, rfl, st, row.length + 1, by rw [List.length_map]; rfl, by omega, by omega, hs, fun d n1 z1 hd0 hd1 a1 a2 a3 => ?_⟩
  have sb : SameBut st H (upd H st (.lst [.int n1, .int z1])) := SameBut.set
  have hs1 : StAt (upd H st (.lst [.int n1, .int z1])) st := ⟨n1, z1, upd_same, a1, a2, a3⟩
  generalize upd H st (.lst [.int n1, .int z1]) = H1 at sb hs1
  obtain ⟨i, rfl⟩ := Int.eq_ofNat_of_zero_le hd0
  have hp1 := sb _ _ (ne_st hs hp) hp
  refine ⟨_, rfl, p, _, rfl, SqL.of hp1, fun L hL => ?_⟩
  have s2 : Same H1 (upd H1 L (.lst (cutV (row.map V.str) none (some ((i : Nat) : Int))))) := Same.new hL
  refine q _ L (row.take i) (hs1.same s2) (s2 _ _ (sb _ _ (ne_st hs hO) hO)) ((hP.but sb hs).same s2) ?_ (hg.sub (List.take_sublist i row)) ((hb.trans (sb.but2 D)).trans (s2.but2 st D))
  rw [upd_same, cut_to]
  unfold lstO
  rw [List.map_take]
theorem plain2 (B : Bl mg) (cT : CF P w K mg base CX0 1 "_law_take" ["_law_state", "_law_many"] spTake) (cM : CF P w K mg base CX0 2 "_law_mixed" ["_law_state", "_law_items"] spMixed) (hr : Room 2 (A.deeper (PyProof.Rows.envOfC "_law_plain_wishes" (defScope sLplainwishes) s.heap.objs.size f cdv))) :
    ∃ t, PSs (cxOf CX0 P w K mg base nPlain "_law_plain_wishes" (defScope sLplainwishes) f cdv A outer s H0 E0').nox ((forB (defBody sLplainwishes) 2).drop 2) t ∧
      ∀ st it m O D order ns k a Hs Dn, PlF order ns k a → PlN st it m O D order ns k Hs Dn → PlI st it m O D order ns k a Hs Dn t := by
  obtain ⟨t, ht, q⟩ := plain3 (P := P) (w := w) (base := base) (outer := outer) (H0 := H0) (E0' := E0') B cT hr
  refine ⟨_, pss_cons (ps_if (pt_cmpR op_gt (pv 2) pe_int (nomark _)) (pss_one (ps_set (i := 6) scLplainwishes.nd rfl (Or.inl rfl) (pe_cf cM hr pass0 (pa_cons (pv 0) (pa_cons (pv 6) pa_nil))))) pss_nil) ht, ?_⟩
  rintro st it m O D order ns k a Hs Dn F N H p row hs hO hP hp hg hb
  have q := q st it m O D order ns k a Hs Dn F N
  have hrl := hg.len
  have hnl := F.lenn
  refine ⟨_, rfl, _, _, rfl, rfl, _, rfl, ite2 (fun _ => ?_) (fun _ => q H p row hs hO hP hp hg hb)⟩
  refine ⟨_, rfl, _, rfl, st, p, row, rfl, hs, hp, by omega, fun L ps H' hperm sb hs1 hL eL => ?_⟩
  exact q H' L ps hs1 (sb _ _ (ne_st hs hO) hO) (hP.but sb hs) eL (hg.perm hperm) (hb.trans (sb.but2 D))
theorem plain1 (B : Bl mg) (cT : CF P w K mg base CX0 1 "_law_take" ["_law_state", "_law_many"] spTake) (cM : CF P w K mg base CX0 2 "_law_mixed" ["_law_state", "_law_items"] spMixed) (hr : Room 2 (A.deeper (PyProof.Rows.envOfC "_law_plain_wishes" (defScope sLplainwishes) s.heap.objs.size f cdv))) :
    ∃ t, PSs (cxOf CX0 P w K mg base nPlain "_law_plain_wishes" (defScope sLplainwishes) f cdv A outer s H0 E0').nox ((forB (defBody sLplainwishes) 2).drop 1) t ∧
      ∀ st it m O D order ns k a Hs Dn, PlF order ns k a → PlN st it m O D order ns k Hs Dn → PlI st it m O D order ns k a Hs Dn t := by
  obtain ⟨t, ht, q⟩ := plain2 (P := P) (w := w) (base := base) (outer := outer) (H0 := H0) (E0' := E0') B cT cM hr
  have esz : sizeLine = 16777216 := sizeLine_eq
  refine ⟨_, pss_cons (ps_if (pt_cmpR op_eq (pv 2) pe_int (nomark _)) (pss_one
      (ps_setLc (i := 6) (own := [("_law_b", 7)]) (g := gName 7) (by rfl) scLplainwishes.nd rfl rfl (sw_true rfl rfl rfl (by decide +kernel)) (pi_list (pv 3)) (blkOk_by (own := [("_law_b", 7)]) (N := nPlain) (sc := defScope sLplainwishes) (by decide +kernel))
          (fun _ _ _ _ _ => pg_name (i := 7) scLplainwishes.nd rfl (Or.inl rfl)) (fun _ _ _ _ _ => pts_one (pt_cmpR op_ne (pv 7) (pe_ix (ix_listK (K := K) rfl) (pv 3) (pv 5) (fun _ _ => rfl)) (nomark _))) (fun _ _ _ _ _ => pv 7))) pss_nil) ht, ?_⟩
  rintro st it m O D order ns k a Hs Dn F N H p row hs hO hP hp hg hb
  have q := q st it m O D order ns k a Hs Dn F N
  have hol := F.len
  refine ⟨_, rfl, rfl, _, rfl, ite2 (fun _ => ?_) (fun _ => q H p row hs hO hP hp hg hb)⟩
  refine ⟨_, rfl, O, rfl, ⟨_, SqL.of hO⟩, fun L hL => lc_it walk_list (fun i H' => Same H H' ∧ H' L = some (lstO ((order.take i).filter fun z => !decide (z = a)))) ⟨Same.new hL, upd_same⟩ (fun i H' _ z => z.1.seq (SqL.of hO)) ?_ ?_⟩
  · rintro i x Hx H1 hi ⟨s1, hD1⟩ ⟨rfl, hx⟩
    rw [List.getElem?_map] at hx
    cases ex : order[i]? with
    | none => rw [ex] at hx; cases hx
    | some z =>
      rw [ex] at hx
      cases hx
      have hlt : ((order.take i).filter fun z => !decide (z = a)).length < sizeLine := by
        have q1 := List.length_filter_le (fun z => !decide (z = a)) (order.take i)
        rw [List.length_take] at q1
        omega
      refine ⟨rfl, _, rfl, _, rfl, _, rfl, O, order.map V.str, k, .str a, rfl, rfl, SqL.of (s1 _ _ hO), atI_nat (j := k) (by rw [List.getElem?_map, F.at_]; rfl), rfl, _, rfl, ?_⟩
      have e9 : decide (V.str z = V.str a) = decide (z = a) := by
        rw [Bool.eq_iff_iff, decide_eq_true_iff, decide_eq_true_iff]
        exact ⟨fun e => V.str.inj e, fun e => by rw [e]⟩
      rw [e9]
      by_cases hza : z = a
      · rw [decide_eq_true hza]
        refine iteF ⟨s1, ?_⟩
        rw [take_snoc ex, List.filter_append, List.filter_cons_of_neg (by rw [decide_eq_true hza]; decide), List.filter_nil, List.append_nil]
        exact hD1
      · rw [decide_eq_false hza]
        refine iteT ⟨_, rfl, _, hD1, by rw [List.length_map]; exact hlt, fun b o e => ?_, ?_⟩
        · rw [upd_ne (ne_of_none e hL)]
          exact s1 _ _ e
        · rw [upd_same, take_snoc ex, List.filter_append, List.filter_cons_of_pos (by rw [decide_eq_false hza]; decide), List.filter_nil]
          unfold lstO
          rw [List.map_append]
          rfl
  · rintro H1 ⟨s1, hD1⟩
    rw [List.length_map, List.take_of_length_le (Nat.le_refl _)] at hD1
    exact q H1 L _ (hs.same s1) (s1 _ _ hO) (hP.same s1) hD1 (filt_grow F.nd F.sub) (hb.trans (s1.but2 st D))
end
theorem ok_plain {f : Addr} {fd : FuncData} (F : Fun K "_law_plain_wishes" "_law_plain_wishes" sLplainwishes f fd) (B : Bl mg) (cT : CF P w K mg base CX0 1 "_law_take" ["_law_state", "_law_many"] spTake) (cM : CF P w K mg base CX0 2 "_law_mixed" ["_law_state", "_law_items"] spMixed) :
    FnOk P w K mg base CX0 3 f fd ["_law_state", "_law_names_here", "_law_mode"] spPlain := by
  refine F.ok scLplainwishes (fun vs H Q E h => ?_) (fun cdv A outer s H vs Q E hr h => ?_)
  · obtain ⟨st, it, ns, m, rfl, _⟩ := h
    rfl
  · obtain ⟨st, it, ns, m, rfl, hst, hit, hnd, hlen, kq⟩ := h
    have esz : sizeLine = 16777216 := sizeLine_eq
    obtain ⟨t, ht, q⟩ := plain1 (P := P) (w := w) (base := base) (outer := outer) (H0 := H) (E0' := E) B cT cM hr
    refine ⟨_, pss_cons (ps_set (i := 3) scLplainwishes.nd rfl (Or.inr rfl) (pe_cf cM hr pass0 (pa_cons (pv 0) (pa_cons (pv 1) pa_nil))))
      (pss_cons (ps_set (i := 4) scLplainwishes.nd rfl (Or.inl rfl) pe_dnewK)
      (pss_cons (ps_for PassesOwn.never rfl (pi_range1 (by rfl) B.rng (pa_cons (pe_callB call_len_seq (by rfl) B.len PySem.boot_len (pa_cons (pv 3) pa_nil)) pa_nil)) (pg_name (i := 5) scLplainwishes.nd rfl (Or.inr rfl))
        (pss_cons (ps_set (i := 6) scLplainwishes.nd rfl (Or.inl rfl) (pe_op op_cat (pe_slice sl_list (pv 3) (po_some (pe_op op_add (pv 5) pe_int)) po_none) (pe_slice sl_list (pv 3) po_none (po_some (pv 5))))) ht))
      (pss_one (ps_ret (pv 4))))), ?_⟩
    refine ⟨_, rfl, _, rfl, st, it, ns, rfl, hst, hit, by omega, fun O order H1 hperm sb1 hs1 hO0 hO D hD => ?_⟩
    have nD0 : H D = none := by
      cases e : H D with
      | none => rfl
      | some o =>
        have nds : D ≠ st := new_ne_st hs1 hD
        have := sb1 _ _ nds e
        rw [this] at hD
        cases hD
    have hord : order.Nodup := hperm.nodup_iff.mpr hnd
    have hol : order.length ≤ 100 := by rw [hperm.length_eq]; exact hlen
    have s2 : Same H1 (upd H1 D (.dK [])) := Same.new hD
    have hP2 : Part (upd H1 D (.dK [])) D [] ns := Part.new upd_same
    generalize upd H1 D (.dK []) = H2 at s2 hP2
    have hO2 := s2 _ _ hO
    refine ⟨_, rfl, O, _, rfl, .inl (SqL.of hO2), _, rfl, by rw [List.length_map]; omega, by rw [List.length_map]; omega,
      for_it (walk_range (lo := 0) (n := (((order.map V.str).length : Nat) : Int).toNat)) (fun i σ H' => ∃ v5 v6 : Option V, σ = [some (.ref st), some (.ref it), some (.int m), some (.ref O), some (.ref D), v5, v6, none] ∧ StAt H' st ∧ H' O = some (lstO order) ∧ Part H' D (order.take i) ns ∧ But2 st D H2 H')
      ⟨none, none, rfl, hs1.same s2, hO2, hP2, But2.refl _ _ _⟩ (fun _ _ _ _ _ => True.intro) ?_ ?_⟩
    · rintro i x σ Hx H3 hi ⟨v5, v6, rfl, hs3, hO3, hP3, hb3⟩ ⟨rfl, rfl⟩
      rw [List.length_map, Int.toNat_natCast] at hi
      obtain ⟨a, ea⟩ : ∃ a, order[i]? = some a := ⟨_, List.getElem?_eq_getElem hi⟩
      have e0 : (0 : Int) + (i : Int) = ((i : Nat) : Int) := by omega
      have F' : PlF order ns i a := ⟨hord, ea, fun z hz => hperm.mem_iff.mp hz, hol, hlen⟩
      refine ⟨_, rfl, _, rfl, _, _, rfl, rfl, _, rfl, O, _, rfl, SqL.of hO3, fun L1 hL1 => ?_⟩
      have sL1 := Same.new (o := HO.lst (cutV (order.map V.str) (some (0 + (i : Int) + 1)) none)) hL1
      have eL1 : (upd H3 L1 (.lst (cutV (order.map V.str) (some (0 + (i : Int) + 1)) none))) L1 = some (lstO (order.drop (i + 1))) := by
        rw [upd_same, show (0 + (i : Int) + 1) = ((i + 1 : Nat) : Int) by omega, cut_from]
        unfold lstO
        rw [List.map_drop]
      generalize upd H3 L1 (.lst (cutV (order.map V.str) (some (0 + (i : Int) + 1)) none)) = H4 at sL1 eL1
      refine ⟨_, rfl, _, rfl, _, rfl, O, _, rfl, SqL.of (sL1 _ _ hO3), fun L2 hL2 => ?_⟩
      have sL2 := Same.new (o := HO.lst (cutV (order.map V.str) none (some (0 + (i : Int))))) hL2
      have eL2 : (upd H4 L2 (.lst (cutV (order.map V.str) none (some (0 + (i : Int)))))) L2 = some (lstO (order.take i)) := by
        rw [upd_same, e0, cut_to]
        unfold lstO
        rw [List.map_take]
      generalize upd H4 L2 (.lst (cutV (order.map V.str) none (some (0 + (i : Int))))) = H5 at sL2 eL2
      refine ⟨L1, L2, _, _, rfl, rfl, sL2 _ _ eL1, eL2, by rw [List.length_map, List.length_map, List.length_drop, List.length_take]; omega, fun L3 hL3 => ?_⟩
      have sL3 := Same.new (o := HO.lst ((order.drop (i + 1)).map V.str ++ (order.take i).map V.str)) hL3
      have s35 := (sL1.trans sL2).trans sL3
      show t _ [some (.ref st), some (.ref it), some (.int m), some (.ref O), some (.ref D), some (.int (0 + (i : Int))), some (.ref L3), none] _
      rw [e0]
      refine q st it m O D order ns i a H2 _ F' (fun H6 p hs6 hO6 hP6 hb6 => ?_) _ L3 (order.drop (i + 1) ++ order.take i) (hs3.same s35) (s35 _ _ hO3) (hP3.same s35) (by rw [upd_same]; unfold lstO; rw [List.map_append]) (grow_cons hord (fun z hz => hperm.mem_iff.mp hz) (rot_perm ea)) (hb3.trans (s35.but2 st D))
      exact ⟨_, _, rfl, hs6, hO6, hP6, hb6⟩
    · rintro σ H3 ⟨v5, v6, rfl, hs3, hO3, hP3, hb3⟩
      rw [List.length_map, Int.toNat_natCast, List.take_of_length_le (Nat.le_refl _)] at hP3
      refine ⟨_, rfl, kq D H3 nD0 (fun b o hb e => ?_) hs3 ⟨order, hperm, hP3⟩⟩
      have nbD : b ≠ D := ne_of_none e nD0
      exact hb3 _ _ (s2 _ _ (sb1 _ _ hb e)) hb nbD
end
end Qp
namespace Qp
open PySem L2
theorem side_grow1 {ns L R : List Str} (p : (L ++ R).Perm ns) (hn : ns.Nodup) {a : Str} (ha : a ∈ L) : GRow ns a R := by
  have h1 : (L ++ R).Nodup := p.nodup_iff.mpr hn
  obtain ⟨h2, h3, h4⟩ := List.nodup_append.mp h1
  exact ⟨h3, fun b hb => ⟨p.mem_iff.mp (List.mem_append_right _ hb), fun e => h4 a ha b hb e.symm⟩⟩
theorem side_grow2 {ns L R : List Str} (p : (L ++ R).Perm ns) (hn : ns.Nodup) {a : Str} (ha : a ∈ R) : GRow ns a L := by
  have h1 : (L ++ R).Nodup := p.nodup_iff.mpr hn
  obtain ⟨h2, h3, h4⟩ := List.nodup_append.mp h1
  exact ⟨h2, fun b hb => ⟨p.mem_iff.mp (List.mem_append_left _ hb), fun e => h4 b hb a ha e⟩⟩
theorem atI_str {zs : List Str} {k : Nat} {a : Str} (h : zs[k]? = some a) : atI (zs.map V.str) (k : Int) = some (.str a) := atI_nat (j := k) (by rw [List.getElem?_map, h]; rfl)
theorem cut_lstO {H : Hp} {L : Addr} {zs : List Str} {i : Nat} : (upd H L (.lst (cutV (zs.map V.str) (some (i : Int)) none))) L = some (lstO (zs.drop i)) := by
  rw [upd_same, cut_from]
  unfold lstO
  rw [List.map_drop]
theorem cut_lstT {H : Hp} {L : Addr} {zs : List Str} {i : Nat} : (upd H L (.lst (cutV (zs.map V.str) none (some (i : Int))))) L = some (lstO (zs.take i)) := by
  rw [upd_same, cut_to]
  unfold lstO
  rw [List.map_take]
theorem cat_lstO {H : Hp} {L : Addr} {xs ys : List Str} : (upd H L (.lst (xs.map V.str ++ ys.map V.str))) L = some (lstO (xs ++ ys)) := by
  rw [upd_same]
  unfold lstO
  rw [List.map_append]
section
variable {P : Program} {w : World} {K : PySem.W.Frag} {mg : Str → Option Value} {base : Heap}
/-- what stands while wishes are laid -/
structure Lay (Hs H : Hp) (st D : Addr) (qs ns : List Str) : Prop where
  st_ : StAt H st
  p : Part H D qs ns
  b : But2 st D Hs H
theorem Lay.same {Hs H H' : Hp} {st D : Addr} {qs ns : List Str} (h : Lay Hs H st D qs ns) (s : Same H H') : Lay Hs H' st D qs ns := ⟨h.st_.same s, h.p.same s, h.b.trans (s.but2 st D)⟩
theorem Lay.but {Hs H H' : Hp} {st D : Addr} {qs ns : List Str} (h : Lay Hs H st D qs ns) (s : SameBut st H H') (hs : StAt H' st) : Lay Hs H' st D qs ns := ⟨hs, h.p.but s h.st_, h.b.trans (s.but2 D)⟩
theorem Lay.draw {Hs H : Hp} {st D : Addr} {qs ns : List Str} (h : Lay Hs H st D qs ns) {n z : Int} (h0 : 0 ≤ n) (h1 : 0 ≤ z) (h2 : z < 2147483629) : Lay Hs (upd H st (.lst [.int n, .int z])) st D qs ns := h.but SameBut.set ⟨n, z, upd_same, h0, h1, h2⟩
theorem Lay.l {Hs H : Hp} {st D : Addr} {qs ns : List Str} (h : Lay Hs H st D qs ns) (hs : StAt Hs st) (hd : ∃ kvs, Hs D = some (.dK kvs)) {p : Addr} {zs : List Str} (hp : Hs p = some (lstO zs)) : H p = some (lstO zs) := by
  obtain ⟨kvs, e⟩ := hd
  exact h.b _ _ hp (ne_st hs hp) (ne_of hp e (by intro z; cases z))
theorem Lay.nD {Hs H : Hp} {st D : Addr} {qs ns : List Str} (h : Lay Hs H st D qs ns) : st ≠ D := by
  obtain ⟨kvs, e⟩ := h.p.dk
  obtain ⟨n, z, e2, _⟩ := h.st_
  intro y
  rw [← y, e2] at e
  cases e
theorem Lay.put {Hs H : Hp} {st D p : Addr} {qs ns row : List Str} {a : Str} (h : Lay Hs H st D qs ns) (ha : a ∉ qs) (hp : H p = some (lstO row)) (g : GRow ns a row) :
    ∃ kvs, H D = some (.dK kvs) ∧ kvs.length = qs.length ∧ Lay Hs (upd H D (.dK (putK kvs (Sum.inr a) (.ref p)))) st D (qs ++ [a]) ns := by
  obtain ⟨kvs, h1, h2, h3⟩ := h.p.put ha hp g
  have nD := h.nD
  refine ⟨kvs, h1, h2, ?_, h3, h.b.trans But2.setD⟩
  obtain ⟨n, z, e, r⟩ := h.st_
  exact ⟨n, z, by rw [upd_ne nD]; exact e, r⟩
theorem Lay.reput {Hs H : Hp} {st D p : Addr} {qs ns row : List Str} {a : Str} (h : Lay Hs H st D qs ns) (hn : qs.Nodup) (ha : a ∈ qs) (hp : H p = some (lstO row)) (g : GRow ns a row) :
    ∃ kvs, H D = some (.dK kvs) ∧ kvs.length = qs.length ∧ Lay Hs (upd H D (.dK (putK kvs (Sum.inr a) (.ref p)))) st D qs ns := by
  obtain ⟨kvs, h1, h2, h3⟩ := h.p.reput hn ha hp g
  have nD := h.nD
  refine ⟨kvs, h1, h2, ?_, h3, h.b.trans But2.setD⟩
  obtain ⟨n, z, e, r⟩ := h.st_
  exact ⟨n, z, by rw [upd_ne nD]; exact e, r⟩
theorem ok_side {f : Addr} {fd : FuncData} (F : Fun K "_law_side_wishes" "_law_side_wishes" sLsidewishes f fd) (B : Bl mg) (cT : CF P w K mg base CX0 1 "_law_take" ["_law_state", "_law_many"] spTake) (cM : CF P w K mg base CX0 2 "_law_mixed" ["_law_state", "_law_items"] spMixed) :
    FnOk P w K mg base CX0 3 f fd ["_law_state", "_law_names_here"] spWsh := by
  refine F.ok scLsidewishes (fun vs H Q E h => ?_) (fun cdv A outer s H vs Q E hr h => ?_)
  · obtain ⟨st, it, ns, rfl, _⟩ := h
    rfl
  · obtain ⟨st, it, ns, rfl, hst, hit, hnd, hlen, kq⟩ := h
    have esz : sizeLine = 16777216 := sizeLine_eq
    have hr1 : Room 1 _ := hr.mono (by decide)
    have hu := hu_of hr
    refine ⟨_, pss_cons (ps_set (i := 2) scLsidewishes.nd rfl (Or.inl rfl) (pe_cf cM hr pass0 (pa_cons (pv 0) (pa_cons (pv 1) pa_nil))))
      (pss_cons (ps_set (i := 3) scLsidewishes.nd rfl (Or.inl rfl) (pe_slice sl_list (pv 2) po_none (po_some (pe_op op_fdivNN (pe_callB call_len_seq (by rfl) B.len PySem.boot_len (pa_cons (pv 2) pa_nil)) pe_int))))
      (pss_cons (ps_set (i := 4) scLsidewishes.nd rfl (Or.inl rfl) (pe_slice sl_list (pv 2) (po_some (pe_op op_fdivNN (pe_callB call_len_seq (by rfl) B.len PySem.boot_len (pa_cons (pv 2) pa_nil)) pe_int)) po_none))
      (pss_cons (ps_set (i := 5) scLsidewishes.nd rfl (Or.inl rfl) (pe_cf cT hr1 pass0 (pa_cons (pv 0) (pa_cons pe_int pa_nil))))
      (pss_cons (ps_set (i := 6) scLsidewishes.nd rfl (Or.inl rfl) pe_dnewK)
      (pss_cons (ps_for PassesOwn.never rfl (pi_range1 (by rfl) B.rng (pa_cons (pe_callB call_len_seq (by rfl) B.len PySem.boot_len (pa_cons (pv 3) pa_nil)) pa_nil)) (pg_name (i := 7) scLsidewishes.nd rfl (Or.inl rfl))
        (pss_cons (ps_dput hu (pv 6) (pe_ix ix_list (pv 3) (pv 7) (fun _ _ => rfl)) (pe_op op_cat (pe_slice sl_list (pv 4) (po_some (pv 7)) po_none) (pe_slice sl_list (pv 4) po_none (po_some (pv 7)))) rfl)
        (pss_one (ps_if (pt_cmpR op_eq (pv 5) pe_int (nomark _)) (pss_one (ps_dput hu (pv 6) (pe_ix ix_list (pv 3) (pv 7) (fun _ _ => rfl)) (pe_cf cM hr pass0 (pa_cons (pv 0) (pa_cons (pv 4) pa_nil))) rfl)) pss_nil))))
      (pss_cons (ps_for PassesOwn.never rfl (pi_range1 (by rfl) B.rng (pa_cons (pe_callB call_len_seq (by rfl) B.len PySem.boot_len (pa_cons (pv 4) pa_nil)) pa_nil)) (pg_name (i := 7) scLsidewishes.nd rfl (Or.inl rfl))
        (pss_cons (ps_dput hu (pv 6) (pe_ix ix_list (pv 4) (pv 7) (fun _ _ => rfl)) (pe_op op_cat (pe_slice sl_list (pv 3) (po_some (pe_op op_add (pv 7) pe_int)) po_none) (pe_slice sl_list (pv 3) po_none (po_some (pe_op op_add (pv 7) pe_int)))) rfl)
        (pss_one (ps_if (pt_cmpR op_eq (pv 5) pe_int (nomark _)) (pss_one (ps_dput hu (pv 6) (pe_ix ix_list (pv 4) (pv 7) (fun _ _ => rfl)) (pe_cf cM hr pass0 (pa_cons (pv 0) (pa_cons (pv 3) pa_nil))) rfl)) pss_nil))))
      (pss_one (ps_ret (pv 6))))))))), ?_⟩
    refine ⟨_, rfl, _, rfl, st, it, ns, rfl, hst, hit, by omega, fun O order H1 hperm sb1 hs1 hO0 hO => ?_⟩
    have hord : order.Nodup := hperm.nodup_iff.mpr hnd
    have hol : order.length ≤ 100 := by rw [hperm.length_eq]; exact hlen
    refine ⟨_, rfl, _, rfl, O, _, rfl, .inl (SqL.of hO), order.length, 2, by rw [List.length_map], rfl, by decide, _, rfl, O, _, rfl, SqL.of hO, fun La hLa => ?_⟩
    have s2 := Same.new (o := HO.lst (cutV (order.map V.str) none (some ((order.length / 2 : Nat) : Int)))) hLa
    have eLa := cut_lstT (H := H1) (L := La) (zs := order) (i := order.length / 2)
    generalize upd H1 La (.lst (cutV (order.map V.str) none (some ((order.length / 2 : Nat) : Int)))) = H2 at s2 eLa
    have hO2 := s2 _ _ hO
    refine ⟨_, rfl, _, rfl, O, _, rfl, .inl (SqL.of hO2), order.length, 2, by rw [List.length_map], rfl, by decide, _, rfl, O, _, rfl, SqL.of hO2, fun Ra hRa => ?_⟩
    have s3 := Same.new (o := HO.lst (cutV (order.map V.str) (some ((order.length / 2 : Nat) : Int)) none)) hRa
    have eRa := cut_lstO (H := H2) (L := Ra) (zs := order) (i := order.length / 2)
    generalize upd H2 Ra (.lst (cutV (order.map V.str) (some ((order.length / 2 : Nat) : Int)) none)) = H3 at s3 eRa
    have hLR : (order.take (order.length / 2) ++ order.drop (order.length / 2)).Perm ns := by rw [List.take_append_drop]; exact hperm
    replace eLa := s3 _ _ eLa
    have hle : (order.take (order.length / 2)).length + (order.drop (order.length / 2)).length ≤ 100 := by rw [← List.length_append, List.take_append_drop]; exact hol
    generalize order.take (order.length / 2) = L at eLa hLR hle
    generalize order.drop (order.length / 2) = R at eRa hLR hle
    have hs3 := (hs1.same s2).same s3
    refine ⟨_, rfl, st, 2, rfl, by decide, by decide, hs3, fun tn n1 z1 _ _ a1 a2 a3 => ?_⟩
    have sb4 : SameBut st H3 (upd H3 st (.lst [.int n1, .int z1])) := SameBut.set
    have hs4 : StAt (upd H3 st (.lst [.int n1, .int z1])) st := ⟨n1, z1, upd_same, a1, a2, a3⟩
    generalize upd H3 st (.lst [.int n1, .int z1]) = H4 at sb4 hs4
    refine fun D hD => ?_
    have sbA : SameBut st H H4 := ((sb1.trans (s2.but st)).trans (s3.but st)).trans sb4
    have nD0 : H D = none := by
      cases e : H D with
      | none => rfl
      | some o =>
        have := sbA _ _ (new_ne_st hs4 hD) e
        rw [this] at hD
        cases hD
    have s5 : Same H4 (upd H4 D (.dK [])) := Same.new hD
    have hP5 : Part (upd H4 D (.dK [])) D [] ns := Part.new upd_same
    have hd5 : ∃ kvs, (upd H4 D (.dK [])) D = some (.dK kvs) := ⟨_, upd_same⟩
    generalize upd H4 D (.dK []) = Hs at s5 hP5 hd5
    have hsS := hs4.same s5
    have eL5 : Hs La = some (lstO L) := s5 _ _ (sb4 _ _ (ne_st hs3 eLa) eLa)
    have eR5 : Hs Ra = some (lstO R) := s5 _ _ (sb4 _ _ (ne_st hs3 eRa) eRa)
    have hnLR : (L ++ R).Nodup := hLR.nodup_iff.mpr hnd
    obtain ⟨nL, nR, nLR⟩ := List.nodup_append.mp hnLR
    refine ⟨_, rfl, La, _, rfl, .inl (SqL.of eL5), _, rfl, by rw [List.length_map]; omega, by rw [List.length_map]; omega,
      for_it (walk_range (lo := 0) (n := (((L.map V.str).length : Nat) : Int).toNat)) (fun i σ H' => ∃ v7 : Option V, σ = [some (.ref st), some (.ref it), some (.ref O), some (.ref La), some (.ref Ra), some (.int tn), some (.ref D), v7] ∧ Lay Hs H' st D (L.take i) ns)
      ⟨none, rfl, hsS, hP5, But2.refl _ _ _⟩ (fun _ _ _ _ _ => True.intro) ?_ ?_⟩
    · rintro i x σ Hx H6 hi ⟨v7, rfl, Y⟩ ⟨rfl, hx⟩
      rw [List.length_map, Int.toNat_natCast] at hi
      obtain ⟨a, ea⟩ : ∃ a, L[i]? = some a := ⟨_, List.getElem?_eq_getElem hi⟩
      have ha : a ∈ L := List.mem_of_getElem? ea
      have e0 : (0 : Int) + (i : Int) = ((i : Nat) : Int) := by omega
      obtain rfl : x = V.int (i : Int) := hx.trans (by show V.int (0 + (i : Int)) = V.int (i : Int); rw [e0])
      have hR6 := Y.l hsS hd5 eR5
      refine ⟨_, rfl, _, rfl, _, rfl, Ra, _, rfl, SqL.of hR6, fun L1 hL1 => ?_⟩
      have sL1 := Same.new (o := HO.lst (cutV (R.map V.str) (some (i : Int)) none)) hL1
      have eL1 := cut_lstO (H := H6) (L := L1) (zs := R) (i := i)
      generalize upd H6 L1 (.lst (cutV (R.map V.str) (some (i : Int)) none)) = H7 at sL1 eL1
      refine ⟨_, rfl, _, rfl, _, rfl, Ra, _, rfl, SqL.of (sL1 _ _ hR6), fun L2 hL2 => ?_⟩
      have sL2 := Same.new (o := HO.lst (cutV (R.map V.str) none (some (i : Int)))) hL2
      have eL2 := cut_lstT (H := H7) (L := L2) (zs := R) (i := i)
      generalize upd H7 L2 (.lst (cutV (R.map V.str) none (some (i : Int)))) = H8 at sL2 eL2
      refine ⟨L1, L2, _, _, rfl, rfl, sL2 _ _ eL1, eL2, by rw [List.length_map, List.length_map, List.length_drop, List.length_take]; omega, fun L3 hL3 => ?_⟩
      have sL3 := Same.new (o := HO.lst ((R.drop i).map V.str ++ (R.take i).map V.str)) hL3
      have eL3 := cat_lstO (H := H8) (L := L3) (xs := R.drop i) (ys := R.take i)
      generalize upd H8 L3 (.lst ((R.drop i).map V.str ++ (R.take i).map V.str)) = H9 at sL3 eL3
      have Y9 := ((Y.same sL1).same sL2).same sL3
      obtain ⟨kvs, h1, h2, Y10⟩ := Y9.put (not_mem_take nL ea) eL3 ((side_grow1 hLR hnd ha).perm rot2_perm)
      refine ⟨_, rfl, _, rfl, _, rfl, La, _, i, .str a, rfl, rfl, SqL.of (Y9.l hsS hd5 eL5), atI_str ea, D, _, rfl, DPut.k (k := Sum.inr a) h1 (by rw [h2, List.length_take]; omega), ?_⟩
      generalize upd H9 D (.dK (putK kvs (Sum.inr a) (.ref L3))) = H10 at Y10
      rw [← take_snoc ea] at Y10
      refine ⟨_, rfl, rfl, _, rfl, ite2 (fun _ => ?_) (fun _ => ⟨_, rfl, Y10⟩)⟩
      refine ⟨_, rfl, _, rfl, st, Ra, R, rfl, Y10.st_, Y10.l hsS hd5 eR5, by omega, fun L4 ps H11 hpp sb hs11 _ eL4 => ?_⟩
      have Y11 := Y10.but sb hs11
      have hat : a ∈ L.take (i + 1) := by rw [take_snoc ea]; exact List.mem_append_right _ List.mem_cons_self
      obtain ⟨kv2, g1, g2, Y12⟩ := Y11.reput (nL.sublist (List.take_sublist _ _)) hat eL4 ((side_grow1 hLR hnd ha).perm hpp)
      exact ⟨_, rfl, _, rfl, _, rfl, La, _, i, .str a, rfl, rfl, SqL.of (Y11.l hsS hd5 eL5), atI_str ea, D, _, rfl, DPut.k (k := Sum.inr a) g1 (by rw [g2, List.length_take]; omega), _, rfl, Y12⟩
    · rintro σ H6 ⟨v7, rfl, Y⟩
      rw [List.length_map, Int.toNat_natCast, List.take_of_length_le (Nat.le_refl _)] at Y
      refine ⟨_, rfl, Ra, _, rfl, .inl (SqL.of (Y.l hsS hd5 eR5)), _, rfl, by rw [List.length_map]; omega, by rw [List.length_map]; omega,
        for_it (walk_range (lo := 0) (n := (((R.map V.str).length : Nat) : Int).toNat)) (fun i σ H' => ∃ v7 : Option V, σ = [some (.ref st), some (.ref it), some (.ref O), some (.ref La), some (.ref Ra), some (.int tn), some (.ref D), v7] ∧ Lay Hs H' st D (L ++ R.take i) ns)
        ⟨v7, rfl, by rw [List.take_zero, List.append_nil]; exact Y⟩ (fun _ _ _ _ _ => True.intro) ?_ ?_⟩
      · rintro i x σ Hx H6 hi ⟨v7, rfl, Y⟩ ⟨rfl, hx⟩
        rw [List.length_map, Int.toNat_natCast] at hi
        obtain ⟨a, ea⟩ : ∃ a, R[i]? = some a := ⟨_, List.getElem?_eq_getElem hi⟩
        have ha : a ∈ R := List.mem_of_getElem? ea
        have e0 : (0 : Int) + (i : Int) = ((i : Nat) : Int) := by omega
        have e1 : ((i : Nat) : Int) + 1 = ((i + 1 : Nat) : Int) := by omega
        obtain rfl : x = V.int (i : Int) := hx.trans (by show V.int (0 + (i : Int)) = V.int (i : Int); rw [e0])
        have hL6 := Y.l hsS hd5 eL5
        refine ⟨_, rfl, _, rfl, _, _, rfl, rfl, _, rfl, La, _, rfl, SqL.of hL6, fun L1 hL1 => ?_⟩
        rw [e1]
        have sL1 := Same.new (o := HO.lst (cutV (L.map V.str) (some ((i + 1 : Nat) : Int)) none)) hL1
        have eL1 := cut_lstO (H := H6) (L := L1) (zs := L) (i := i + 1)
        generalize upd H6 L1 (.lst (cutV (L.map V.str) (some ((i + 1 : Nat) : Int)) none)) = H7 at sL1 eL1
        refine ⟨_, rfl, _, rfl, _, _, rfl, rfl, _, rfl, La, _, rfl, SqL.of (sL1 _ _ hL6), fun L2 hL2 => ?_⟩
        rw [e1]
        have sL2 := Same.new (o := HO.lst (cutV (L.map V.str) none (some ((i + 1 : Nat) : Int)))) hL2
        have eL2 := cut_lstT (H := H7) (L := L2) (zs := L) (i := i + 1)
        generalize upd H7 L2 (.lst (cutV (L.map V.str) none (some ((i + 1 : Nat) : Int)))) = H8 at sL2 eL2
        refine ⟨L1, L2, _, _, rfl, rfl, sL2 _ _ eL1, eL2, by rw [List.length_map, List.length_map, List.length_drop, List.length_take]; omega, fun L3 hL3 => ?_⟩
        have sL3 := Same.new (o := HO.lst ((L.drop (i + 1)).map V.str ++ (L.take (i + 1)).map V.str)) hL3
        have eL3 := cat_lstO (H := H8) (L := L3) (xs := L.drop (i + 1)) (ys := L.take (i + 1))
        generalize upd H8 L3 (.lst ((L.drop (i + 1)).map V.str ++ (L.take (i + 1)).map V.str)) = H9 at sL3 eL3
        have Y9 := ((Y.same sL1).same sL2).same sL3
        have hna : a ∉ L ++ R.take i := fun h => by
          rcases List.mem_append.mp h with q | q
          · exact nLR a q a ha rfl
          · exact not_mem_take nR ea q
        obtain ⟨kvs, h1, h2, Y10⟩ := Y9.put hna eL3 ((side_grow2 hLR hnd ha).perm rot2_perm)
        refine ⟨_, rfl, _, rfl, _, rfl, Ra, _, i, .str a, rfl, rfl, SqL.of (Y9.l hsS hd5 eR5), atI_str ea, D, _, rfl, DPut.k (k := Sum.inr a) h1 (by rw [h2, List.length_append, List.length_take]; omega), ?_⟩
        generalize upd H9 D (.dK (putK kvs (Sum.inr a) (.ref L3))) = H10 at Y10
        rw [List.append_assoc, ← take_snoc ea] at Y10
        refine ⟨_, rfl, rfl, _, rfl, ite2 (fun _ => ?_) (fun _ => ⟨_, rfl, Y10⟩)⟩
        refine ⟨_, rfl, _, rfl, st, La, L, rfl, Y10.st_, Y10.l hsS hd5 eL5, by omega, fun L4 ps H11 hpp sb hs11 _ eL4 => ?_⟩
        have Y11 := Y10.but sb hs11
        have hat : a ∈ L ++ R.take (i + 1) := by rw [take_snoc ea]; exact List.mem_append_right _ (List.mem_append_right _ List.mem_cons_self)
        have hndq : (L ++ R.take (i + 1)).Nodup := hnLR.sublist (List.Sublist.append_left (List.take_sublist _ _) L)
        obtain ⟨kv2, g1, g2, Y12⟩ := Y11.reput hndq hat eL4 ((side_grow2 hLR hnd ha).perm hpp)
        exact ⟨_, rfl, _, rfl, _, rfl, Ra, _, i, .str a, rfl, rfl, SqL.of (Y11.l hsS hd5 eR5), atI_str ea, D, _, rfl, DPut.k (k := Sum.inr a) g1 (by rw [g2, List.length_append, List.length_take]; omega), _, rfl, Y12⟩
      · rintro σ H6 ⟨v7, rfl, Y⟩
        rw [List.length_map, Int.toNat_natCast, List.take_of_length_le (Nat.le_refl _)] at Y
        refine ⟨_, rfl, kq D H6 nD0 (fun b o hb e => ?_) Y.st_ ⟨L ++ R, hLR, Y.p⟩⟩
        exact Y.b _ _ (s5 _ _ (sbA _ _ hb e)) hb (ne_of_none e nD0)
end
end Qp
namespace L2
open PySem PySem.Spec PyProof.Rows
theorem op_notInSK {X : Cx} {K : PySem.W.Frag} (hK : X.K = K) (hu : X.A.units + 64 < cLine) : OpR X (compareOp .NotIn) (rInS K true) := by
  subst hK
  exact op_notInS hu
end L2
namespace Qp
open PySem L2
theorem two_sub {l : List Str} {x y : Str} (h : 1 < l.length) (hx : l[0]? = some x) (hy : l[l.length - 1]? = some y) : [x, y].Sublist l := by
  cases l with
  | nil => cases hx
  | cons a r =>
    have e : a = x := Option.some.inj hx
    subst e
    refine List.Sublist.cons_cons _ (List.singleton_sublist.mpr ?_)
    have hr : 0 < r.length := by simp only [List.length_cons] at h; omega
    rw [show (a :: r).length - 1 = (r.length - 1) + 1 by simp only [List.length_cons]; omega, List.getElem?_cons_succ] at hy
    exact List.mem_of_getElem? hy
theorem atI_last {l : List Str} {y : Str} (h0 : 0 < l.length) (hy : l[l.length - 1]? = some y) : atI (l.map V.str) (-1) = some (.str y) := by
  unfold atI ixN
  rw [if_neg (by decide), if_pos (by rw [List.length_map]; omega)]
  show (l.map V.str)[((-1 : Int) + (((l.map V.str).length : Nat) : Int)).toNat]? = some (.str y)
  rw [List.length_map, show ((-1 : Int) + ((l.length : Nat) : Int)).toNat = l.length - 1 by omega, List.getElem?_map, hy]
  rfl
structure BkF (block ns qs : List Str) (k : Nat) (a : Str) : Prop where
  at_ : block[k]? = some a
  nd : block.Nodup
  sub : ∀ z ∈ block, z ∈ ns
  len : block.length ≤ 100
  lenn : ns.length ≤ 100
  ndn : ns.Nodup
  na : a ∉ qs
  lenq : qs.length ≤ 1000
structure BkH (Hs : Hp) (st D Ba it : Addr) (block ns : List Str) : Prop where
  s : StAt Hs st
  d : ∃ kvs, Hs D = some (.dK kvs)
  b : Hs Ba = some (lstO block)
  i : Hs it = some (lstO ns)
def bkS (st it O D : Addr) (v4 v5 v6 : Option V) (Ba : Addr) (k : Nat) (v9 v10 v11 : Option V) : St := [some (.ref st), some (.ref it), some (.ref O), some (.ref D), v4, v5, v6, some (.ref Ba), some (.int k), v9, v10, v11, none]
def BkN (st it O D : Addr) (v4 v5 v6 : Option V) (Ba : Addr) (k : Nat) (a : Str) (qs ns : List Str) (Hs : Hp) (Dn : Ends) : Prop := ∀ (H : Hp) (v9 v10 v11 : Option V), Lay Hs H st D (qs ++ [a]) ns → Dn.nx (bkS st it O D v4 v5 v6 Ba k v9 v10 v11) H
def BkI (st it O D : Addr) (v4 v5 v6 : Option V) (Ba : Addr) (k : Nat) (a : Str) (qs ns : List Str) (Hs : Hp) (Dn : Ends) (t : TS) : Prop := ∀ (H : Hp) (v9 : Option V) (h tl : Addr) (hs ts : List Str), Lay Hs H st D qs ns → H h = some (lstO hs) → H tl = some (lstO ts) → GRow ns a (hs ++ ts) → t Dn (bkS st it O D v4 v5 v6 Ba k v9 (some (.ref h)) (some (.ref tl))) H
def BkJ (st it O D : Addr) (v4 v5 v6 : Option V) (Ba : Addr) (k : Nat) (a : Str) (qs ns : List Str) (Hs : Hp) (Dn : Ends) (t : TS) : Prop := ∀ (H : Hp) (v9 v11 : Option V) (h : Addr) (hs : List Str), Lay Hs H st D qs ns → H h = some (lstO hs) → GRow ns a hs → t Dn (bkS st it O D v4 v5 v6 Ba k v9 (some (.ref h)) v11) H
abbrev nBlock : List Str := ["_law_state", "_law_names_here", "_law_order", "_law_wishes_here", "_law_at", "_law_turn", "_law_size", "_law_block", "_law_k", "_law_ring", "_law_head", "_law_tail", "_law_b"]
abbrev innerB : List Stmt := forB (forB (defBody sLblockwishes) 3) 3
section
variable {P : Program} {w : World} {K : PySem.W.Frag} {mg : Str → Option Value} {base : Heap}
section
variable {f : Addr} {cdv : Value} {A : Around} {outer : List Env} {s : Shared} {H0 : Hp} {E0' : XK}
theorem block6 (B : Bl mg) (hr : Room 2 (A.deeper (PyProof.Rows.envOfC "_law_block_wishes" (defScope sLblockwishes) s.heap.objs.size f cdv))) :
    ∃ t, PSs (cxOf CX0 P w K mg base nBlock "_law_block_wishes" (defScope sLblockwishes) f cdv A outer s H0 E0').nox (innerB.drop 6) t ∧
      ∀ st it O D v4 v5 v6 Ba k a block qs ns Hs Dn, BkF block ns qs k a → BkH Hs st D Ba it block ns → BkN st it O D v4 v5 v6 Ba k a qs ns Hs Dn → BkI st it O D v4 v5 v6 Ba k a qs ns Hs Dn t := by
  have hu := hu_of hr
  have esz : sizeLine = 16777216 := sizeLine_eq
  refine ⟨_, pss_one (ps_dput hu (pv 3) (pe_ix ix_list (pv 7) (pv 8) (fun _ _ => rfl)) (pe_op op_cat (pv 10) (pv 11)) rfl), ?_⟩
  rintro st it O D v4 v5 v6 Ba k a block qs ns Hs Dn F G N H v9 h tl hs ts Y eh et g
  have hgl := g.len
  rw [List.length_append] at hgl
  have hnl := F.lenn
  have hql := F.lenq
  refine ⟨_, rfl, _, rfl, h, tl, _, _, rfl, rfl, eh, et, by rw [List.length_map, List.length_map]; omega, fun L hL => ?_⟩
  have sL := Same.new (o := HO.lst (hs.map V.str ++ ts.map V.str)) hL
  have eL := cat_lstO (H := H) (L := L) (xs := hs) (ys := ts)
  generalize upd H L (.lst (hs.map V.str ++ ts.map V.str)) = H1 at sL eL
  have Y1 := Y.same sL
  obtain ⟨kvs, h1, h2, Y2⟩ := Y1.put F.na eL g
  exact ⟨_, rfl, _, rfl, _, rfl, Ba, _, k, .str a, rfl, rfl, SqL.of (Y1.l G.s G.d G.b), atI_str F.at_, D, _, rfl, DPut.k (k := Sum.inr a) h1 (by omega), N _ _ _ _ Y2⟩
theorem block5 (B : Bl mg) (cT : CF P w K mg base CX0 1 "_law_take" ["_law_state", "_law_many"] spTake) (hr : Room 2 (A.deeper (PyProof.Rows.envOfC "_law_block_wishes" (defScope sLblockwishes) s.heap.objs.size f cdv))) :
    ∃ t, PSs (cxOf CX0 P w K mg base nBlock "_law_block_wishes" (defScope sLblockwishes) f cdv A outer s H0 E0').nox (innerB.drop 5) t ∧
      ∀ st it O D v4 v5 v6 Ba k a block qs ns Hs Dn, BkF block ns qs k a → BkH Hs st D Ba it block ns → BkN st it O D v4 v5 v6 Ba k a qs ns Hs Dn → BkI st it O D v4 v5 v6 Ba k a qs ns Hs Dn t := by
  obtain ⟨t, ht, q⟩ := block6 (P := P) (w := w) (base := base) (outer := outer) (H0 := H0) (E0' := E0') B hr
  have hr1 : Room 1 _ := hr.mono (by decide)
  have esz : sizeLine = 16777216 := sizeLine_eq
  refine ⟨_, pss_cons (ps_if (PW.pt (pw_and (pt_truth (pv 11) (by intro _; rfl)) (pw_and1 (pt_cmpR op_eq (pe_cf cT hr1 pass0 (pa_cons (pv 0) (pa_cons pe_int pa_nil))) pe_int (nomark _)))))
      (pss_cons (ps_set (i := 10) scLblockwishes.nd rfl (Or.inr rfl) (pe_op op_cat (pe_slice sl_list (pv 11) po_none (po_some pe_int)) (pv 10)))
      (pss_one (ps_set (i := 11) scLblockwishes.nd rfl (Or.inl rfl) (pe_slice sl_list (pv 11) (po_some pe_int) po_none)))) pss_nil) ht, ?_⟩
  rintro st it O D v4 v5 v6 Ba k a block qs ns Hs Dn F G N H v9 h tl hs ts Y eh et g
  have q := q st it O D v4 v5 v6 Ba k a block qs ns Hs Dn F G N
  have hgl := g.len
  rw [List.length_append] at hgl
  have hnl := F.lenn
  refine ⟨_, rfl, _, .inl ⟨_, SqL.of et, rfl⟩, ?_⟩
  cases ets : ts with
  | nil => 
    rw [← ets]
    exact (if_neg (by rw [ets]; decide)).mpr (iteF (q H v9 h tl hs ts Y eh et g))
  | cons t0 tr =>
    rw [← ets]
    refine (if_pos (by rw [ets]; rfl)).mpr ?_
    refine ⟨_, rfl, st, 5, rfl, by decide, by decide, Y.st_, fun d n1 z1 _ _ a1 a2 a3 => ?_⟩
    have Y1 := Y.draw a1 a2 a3
    have sb1 : SameBut st H (upd H st (.lst [.int n1, .int z1])) := SameBut.set
    generalize upd H st (.lst [.int n1, .int z1]) = H1 at Y1 sb1
    replace eh := sb1 _ _ (ne_st Y.st_ eh) eh
    replace et := sb1 _ _ (ne_st Y.st_ et) et
    refine ⟨rfl, _, rfl, ite2 (fun _ => ?_) (fun _ => q H1 v9 h tl hs ts Y1 eh et g)⟩
    refine ⟨_, rfl, _, rfl, tl, _, rfl, SqL.of et, fun L1 hL1 => ?_⟩
    have s1 := Same.new (o := HO.lst (cutV (ts.map V.str) none (some 1))) hL1
    have e1 := cut_lstT (H := H1) (L := L1) (zs := ts) (i := 1)
    generalize upd H1 L1 (.lst (cutV (ts.map V.str) none (some 1))) = H2 at s1 e1
    refine ⟨_, rfl, L1, h, _, _, rfl, rfl, e1, s1 _ _ eh, by rw [List.length_map, List.length_map, List.length_take]; omega, fun L2 hL2 => ?_⟩
    have s2 := Same.new (o := HO.lst ((ts.take 1).map V.str ++ hs.map V.str)) hL2
    have e2 := cat_lstO (H := H2) (L := L2) (xs := ts.take 1) (ys := hs)
    generalize upd H2 L2 (.lst ((ts.take 1).map V.str ++ hs.map V.str)) = H3 at s2 e2
    refine ⟨_, rfl, _, rfl, tl, _, rfl, SqL.of (s2 _ _ (s1 _ _ et)), fun L3 hL3 => ?_⟩
    have s3 := Same.new (o := HO.lst (cutV (ts.map V.str) (some 1) none)) hL3
    have e3 := cut_lstO (H := H3) (L := L3) (zs := ts) (i := 1)
    refine q _ v9 L2 L3 (ts.take 1 ++ hs) (ts.drop 1) (((Y1.same s1).same s2).same s3) (s3 _ _ e2) e3 (g.perm ?_)
    have p1 : (ts.take 1 ++ hs ++ ts.drop 1).Perm (hs ++ ts.take 1 ++ ts.drop 1) := List.Perm.append_right _ List.perm_append_comm
    rw [List.append_assoc hs, List.take_append_drop] at p1
    exact p1
theorem block4 (B : Bl mg) (cT : CF P w K mg base CX0 1 "_law_take" ["_law_state", "_law_many"] spTake) (hr : Room 2 (A.deeper (PyProof.Rows.envOfC "_law_block_wishes" (defScope sLblockwishes) s.heap.objs.size f cdv))) :
    ∃ t, PSs (cxOf CX0 P w K mg base nBlock "_law_block_wishes" (defScope sLblockwishes) f cdv A outer s H0 E0').nox (innerB.drop 4) t ∧
      ∀ st it O D v4 v5 v6 Ba k a block qs ns Hs Dn, BkF block ns qs k a → BkH Hs st D Ba it block ns → BkN st it O D v4 v5 v6 Ba k a qs ns Hs Dn → BkI st it O D v4 v5 v6 Ba k a qs ns Hs Dn t := by
  obtain ⟨t, ht, q⟩ := block5 (P := P) (w := w) (base := base) (outer := outer) (H0 := H0) (E0' := E0') B cT hr
  have hr1 : Room 1 _ := hr.mono (by decide)
  refine ⟨_, pss_cons (ps_set (i := 11) scLblockwishes.nd rfl (Or.inl rfl) (pe_slice sl_list (pv 11) po_none (po_some (pe_cf cT hr1 pass0 (pa_cons (pv 0) (pa_cons (pe_op op_add (pe_callB call_len_seq (by rfl) B.len PySem.boot_len (pa_cons (pv 11) pa_nil)) pe_int) pa_nil)))))) ht, ?_⟩
  rintro st it O D v4 v5 v6 Ba k a block qs ns Hs Dn F G N H v9 h tl hs ts Y eh et g
  have q := q st it O D v4 v5 v6 Ba k a block qs ns Hs Dn F G N
  have hgl := g.len
  rw [List.length_append] at hgl
  have hnl := F.lenn
  refine ⟨_, rfl, _, rfl, _, rfl, tl, _, rfl, .inl (SqL.of et), _, _, rfl, rfl, st, ts.length + 1, by rw [List.length_map]; rfl, by omega, by omega, Y.st_, fun d n1 z1 hd0 hd1 a1 a2 a3 => ?_⟩
  have Y1 := Y.draw a1 a2 a3
  have sb1 : SameBut st H (upd H st (.lst [.int n1, .int z1])) := SameBut.set
  generalize upd H st (.lst [.int n1, .int z1]) = H1 at Y1 sb1
  replace eh := sb1 _ _ (ne_st Y.st_ eh) eh
  replace et := sb1 _ _ (ne_st Y.st_ et) et
  obtain ⟨i, rfl⟩ := Int.eq_ofNat_of_zero_le hd0
  refine ⟨_, rfl, tl, _, rfl, SqL.of et, fun L hL => ?_⟩
  have s2 := Same.new (o := HO.lst (cutV (ts.map V.str) none (some ((i : Nat) : Int)))) hL
  exact q _ v9 h L hs (ts.take i) (Y1.same s2) (s2 _ _ eh) cut_lstT (g.sub (List.Sublist.append_left (List.take_sublist i ts) hs))
theorem block3 (B : Bl mg) (cT : CF P w K mg base CX0 1 "_law_take" ["_law_state", "_law_many"] spTake) (cM : CF P w K mg base CX0 2 "_law_mixed" ["_law_state", "_law_items"] spMixed) (cO : CF P w K mg base CX0 1 "_law_others" ["_law_names_here", "_law_a"] (spOthers K))
    (hr : Room 2 (A.deeper (PyProof.Rows.envOfC "_law_block_wishes" (defScope sLblockwishes) s.heap.objs.size f cdv))) :
    ∃ t, PSs (cxOf CX0 P w K mg base nBlock "_law_block_wishes" (defScope sLblockwishes) f cdv A outer s H0 E0').nox (innerB.drop 3) t ∧
      ∀ st it O D v4 v5 v6 Ba k a block qs ns Hs Dn, BkF block ns qs k a → BkH Hs st D Ba it block ns → BkN st it O D v4 v5 v6 Ba k a qs ns Hs Dn → BkJ st it O D v4 v5 v6 Ba k a qs ns Hs Dn t := by
  obtain ⟨t, ht, q⟩ := block4 (P := P) (w := w) (base := base) (outer := outer) (H0 := H0) (E0' := E0') B cT hr
  have hr1 : Room 1 _ := hr.mono (by decide)
  have esz : sizeLine = 16777216 := sizeLine_eq
  refine ⟨_, pss_cons (ps_set (i := 11) scLblockwishes.nd rfl (Or.inl rfl) (pe_cf cM hr pass0 (pa_cons (pv 0) (pa_cons
      (pe_lc (own := [("_law_b", 12)]) (g := gName 12) rfl scLblockwishes.nd (pi_list (pe_cf cO hr1 pass0 (pa_cons (pv 1) (pa_cons (pe_ix ix_list (pv 7) (pv 8) (fun _ _ => rfl)) pa_nil)))) (blkOk_by (own := [("_law_b", 12)]) (N := nBlock) (sc := defScope sLblockwishes) (by decide +kernel))
          (fun _ _ _ _ _ => pg_name (i := 12) scLblockwishes.nd rfl (Or.inl rfl)) (fun _ _ _ _ _ => pts_one (pt_cmpR (op_notInSK (K := K) rfl hr.units) (pv 12) (pv 10) (by rfl))) (fun _ _ _ _ _ => pv 12)) pa_nil)))) ht, ?_⟩
  rintro st it O D v4 v5 v6 Ba k a block qs ns Hs Dn F G N H v9 v11 h hs Y eh g
  have q := q st it O D v4 v5 v6 Ba k a block qs ns Hs Dn F G N
  have hgl := g.len
  have hnl := F.lenn
  refine ⟨_, rfl, _, rfl, _, rfl, _, rfl, Ba, _, k, .str a, rfl, rfl, SqL.of (Y.l G.s G.d G.b), atI_str F.at_, it, ns, a, rfl, Y.l G.s G.d G.i, by omega, fun Oa H1 s1 hOa eOa => ?_⟩
  have hfl : (ns.filter fun z => !decide (z = a)).length ≤ ns.length := List.length_filter_le _ _
  have gO : GRow ns a (ns.filter fun z => !decide (z = a)) := filt_grow F.ndn fun z hz => hz
  generalize (ns.filter fun z => !decide (z = a)) = os at eOa hfl gO
  refine ⟨Oa, rfl, ⟨_, SqL.of eOa⟩, fun L hL => lc_it walk_list (fun i H' => Same H1 H' ∧ H' L = some (lstO ((os.take i).filter fun z => !decide (z ∈ hs)))) ⟨Same.new hL, upd_same⟩ (fun i H' _ z => z.1.seq (SqL.of eOa)) ?_ ?_⟩
  · rintro i x Hx H2 hi ⟨s2, hD1⟩ ⟨rfl, hx⟩
    rw [List.getElem?_map] at hx
    cases ex : os[i]? with
    | none => rw [ex] at hx; cases hx
    | some z =>
      rw [ex] at hx
      cases hx
      have hlt : ((os.take i).filter fun z => !decide (z ∈ hs)).length < sizeLine := by
        have q1 := List.length_filter_le (fun z => !decide (z ∈ hs)) (os.take i)
        rw [List.length_take] at q1
        omega
      refine ⟨rfl, _, rfl, _, rfl, h, hs, rfl, .inl (SqL.of (s2 _ _ (s1 _ _ eh))), .flat rfl, _, rfl, ?_⟩
      rw [if_pos rfl, inS_str]
      by_cases hza : z ∈ hs
      · rw [decide_eq_true hza]
        refine iteF ⟨s2, ?_⟩
        rw [take_snoc ex, List.filter_append, List.filter_cons_of_neg (by rw [decide_eq_true hza]; decide), List.filter_nil, List.append_nil]
        exact hD1
      · rw [decide_eq_false hza]
        refine iteT ⟨_, rfl, _, hD1, by rw [List.length_map]; exact hlt, fun b o e => ?_, ?_⟩
        · rw [upd_ne (ne_of_none e hL)]
          exact s2 _ _ e
        · rw [upd_same, take_snoc ex, List.filter_append, List.filter_cons_of_pos (by rw [decide_eq_false hza]; decide), List.filter_nil]
          unfold lstO
          rw [List.map_append]
          rfl
  · rintro H2 ⟨s2, hD1⟩
    rw [List.length_map, List.take_of_length_le (Nat.le_refl _)] at hD1
    have hml : (os.filter fun z => !decide (z ∈ hs)).length ≤ os.length := List.length_filter_le _ _
    have Y2 := (Y.same s1).same s2
    refine ⟨st, L, _, rfl, Y2.st_, hD1, by omega, fun p ps H3 hperm sb hs3 _ ep => ?_⟩
    have eh2 := s2 _ _ (s1 _ _ eh)
    refine q H3 v9 h p hs ps (Y2.but sb hs3) (sb _ _ (ne_st Y2.st_ eh2) eh2) ep ⟨?_, fun b hb => ?_⟩
    · rw [List.nodup_append]
      refine ⟨g.1, hperm.nodup_iff.mpr (gO.1.filter _), fun b hb c hc e => ?_⟩
      have h1 := (List.mem_filter.mp (hperm.mem_iff.mp hc)).2
      rw [← e, decide_eq_true hb] at h1
      cases h1
    · rcases List.mem_append.mp hb with z | z
      · exact g.2 b z
      · exact gO.2 b (List.mem_filter.mp (hperm.mem_iff.mp z)).1
theorem block0 (B : Bl mg) (cT : CF P w K mg base CX0 1 "_law_take" ["_law_state", "_law_many"] spTake) (cM : CF P w K mg base CX0 2 "_law_mixed" ["_law_state", "_law_items"] spMixed) (cO : CF P w K mg base CX0 1 "_law_others" ["_law_names_here", "_law_a"] (spOthers K))
    (hr : Room 2 (A.deeper (PyProof.Rows.envOfC "_law_block_wishes" (defScope sLblockwishes) s.heap.objs.size f cdv))) :
    ∃ t, PSs (cxOf CX0 P w K mg base nBlock "_law_block_wishes" (defScope sLblockwishes) f cdv A outer s H0 E0').nox innerB t ∧
      ∀ st it O D v4 v5 v6 Ba k a block qs ns Hs Dn, BkF block ns qs k a → BkH Hs st D Ba it block ns → BkN st it O D v4 v5 v6 Ba k a qs ns Hs Dn → ∀ (H : Hp) (v9 v10 v11 : Option V), Lay Hs H st D qs ns → t Dn (bkS st it O D v4 v5 v6 Ba k v9 v10 v11) H := by
  obtain ⟨t, ht, q⟩ := block3 (P := P) (w := w) (base := base) (outer := outer) (H0 := H0) (E0' := E0') B cT cM cO hr
  have esz : sizeLine = 16777216 := sizeLine_eq
  refine ⟨_, pss_cons (ps_set (i := 9) scLblockwishes.nd rfl (Or.inl rfl) (pe_op op_cat (pe_slice sl_list (pv 7) (po_some (pe_op op_add (pv 8) pe_int)) po_none) (pe_slice sl_list (pv 7) po_none (po_some (pv 8)))))
    (pss_cons (ps_set (i := 10) scLblockwishes.nd rfl (Or.inr rfl) (pe_slice sl_list (pv 9) po_none (po_some pe_int)))
    (pss_cons (ps_if (pt_cmpR op_gt (pe_callB call_len_seq (by rfl) B.len PySem.boot_len (pa_cons (pv 9) pa_nil)) pe_int (nomark _))
      (pss_one (ps_set (i := 10) scLblockwishes.nd rfl (Or.inr rfl) (pe_lst (pa_cons (pe_ix ix_list (pv 9) pe_int (fun _ _ => rfl)) (pa_cons (pe_ix ix_list (pv 9) (pe_un un_neg pe_int) (fun _ _ => rfl)) pa_nil))))) pss_nil) ht)), ?_⟩
  rintro st it O D v4 v5 v6 Ba k a block qs ns Hs Dn F G N H v9 v10 v11 Y
  have q := q st it O D v4 v5 v6 Ba k a block qs ns Hs Dn F G N
  have hbl := F.len
  have hB := Y.l G.s G.d G.b
  have e1 : ((k : Nat) : Int) + 1 = ((k + 1 : Nat) : Int) := by omega
  refine ⟨_, rfl, _, rfl, _, _, rfl, rfl, _, rfl, Ba, _, rfl, SqL.of hB, fun L1 hL1 => ?_⟩
  rw [e1]
  have sL1 := Same.new (o := HO.lst (cutV (block.map V.str) (some ((k + 1 : Nat) : Int)) none)) hL1
  have eL1 := cut_lstO (H := H) (L := L1) (zs := block) (i := k + 1)
  generalize upd H L1 (.lst (cutV (block.map V.str) (some ((k + 1 : Nat) : Int)) none)) = H7 at sL1 eL1
  refine ⟨_, rfl, _, rfl, _, rfl, Ba, _, rfl, SqL.of (sL1 _ _ hB), fun L2 hL2 => ?_⟩
  have sL2 := Same.new (o := HO.lst (cutV (block.map V.str) none (some (k : Int)))) hL2
  have eL2 := cut_lstT (H := H7) (L := L2) (zs := block) (i := k)
  generalize upd H7 L2 (.lst (cutV (block.map V.str) none (some (k : Int)))) = H8 at sL2 eL2
  refine ⟨L1, L2, _, _, rfl, rfl, sL2 _ _ eL1, eL2, by rw [List.length_map, List.length_map, List.length_drop, List.length_take]; omega, fun R hR => ?_⟩
  have sL3 := Same.new (o := HO.lst ((block.drop (k + 1)).map V.str ++ (block.take k).map V.str)) hR
  have eR := cat_lstO (H := H8) (L := R) (xs := block.drop (k + 1)) (ys := block.take k)
  generalize upd H8 R (.lst ((block.drop (k + 1)).map V.str ++ (block.take k).map V.str)) = H9 at sL3 eR
  have Y9 := ((Y.same sL1).same sL2).same sL3
  have gr : GRow ns a (block.drop (k + 1) ++ block.take k) := grow_cons F.nd F.sub (rot_perm F.at_)
  generalize block.drop (k + 1) ++ block.take k = ring at eR gr
  have hrl := gr.len
  have hnl := F.lenn
  refine ⟨_, rfl, _, rfl, R, _, rfl, SqL.of eR, fun h hh => ?_⟩
  have sh := Same.new (o := HO.lst (cutV (ring.map V.str) none (some 1))) hh
  have eh := cut_lstT (H := H9) (L := h) (zs := ring) (i := 1)
  generalize upd H9 h (.lst (cutV (ring.map V.str) none (some 1))) = H10 at sh eh
  have eR2 := sh _ _ eR
  refine ⟨_, rfl, R, _, rfl, .inl (SqL.of eR2), _, _, rfl, rfl, _, rfl, ite2 (fun h1 => ?_) (fun _ => q H10 _ _ h (ring.take 1) (Y9.same sh) eh (gr.sub (List.take_sublist 1 ring)))⟩
  have h2 := of_decide_eq_true h1
  rw [List.length_map] at h2
  have h3 : 1 < ring.length := by omega
  obtain ⟨x, ex⟩ : ∃ x, ring[0]? = some x := ⟨_, List.getElem?_eq_getElem (by omega)⟩
  obtain ⟨y, ey⟩ : ∃ y, ring[ring.length - 1]? = some y := ⟨_, List.getElem?_eq_getElem (by omega)⟩
  refine ⟨_, rfl, R, ring.map V.str, 0, .str x, rfl, rfl, SqL.of eR2, atI_str (k := 0) ex, _, rfl, _, rfl, R, ring.map V.str, -1, .str y, rfl, rfl, SqL.of eR2, atI_last (by omega) ey, by show 2 ≤ sizeLine; omega, fun p hp => ?_⟩
  have s11 := Same.new (o := HO.lst [V.str x, V.str y]) hp
  exact q _ _ _ p [x, y] ((Y9.same sh).same s11) upd_same (gr.sub (two_sub h3 ex ey))
end
end
end Qp
namespace Qp
open PySem L2
theorem cut_lstM {H : Hp} {L : Addr} {zs : List Str} {i j : Nat} : (upd H L (.lst (cutV (zs.map V.str) (some (i : Int)) (some ((i + j : Nat) : Int))))) L = some (lstO ((zs.drop i).take j)) := by
  rw [upd_same, cut_mid]
  unfold lstO
  rw [List.map_take, List.map_drop]
section
variable {P : Program} {w : World} {K : PySem.W.Frag} {mg : Str → Option Value} {base : Heap}
theorem ok_block {f : Addr} {fd : FuncData} (F : Fun K "_law_block_wishes" "_law_block_wishes" sLblockwishes f fd) (B : Bl mg) (cT : CF P w K mg base CX0 1 "_law_take" ["_law_state", "_law_many"] spTake) (cM : CF P w K mg base CX0 2 "_law_mixed" ["_law_state", "_law_items"] spMixed)
    (cO : CF P w K mg base CX0 1 "_law_others" ["_law_names_here", "_law_a"] (spOthers K)) :
    FnOk P w K mg base CX0 3 f fd ["_law_state", "_law_names_here"] spWsh := by
  refine F.ok scLblockwishes (fun vs H Q E h => ?_) (fun cdv A outer s H vs Q E hr h => ?_)
  · obtain ⟨st, it, ns, rfl, _⟩ := h
    rfl
  · obtain ⟨st, it, ns, rfl, hst, hit, hnd, hlen, kq⟩ := h
    have esz : sizeLine = 16777216 := sizeLine_eq
    have hr1 : Room 1 _ := hr.mono (by decide)
    obtain ⟨t, ht, q⟩ := block0 (P := P) (w := w) (base := base) (outer := outer) (H0 := H) (E0' := E) B cT cM cO hr
    refine ⟨_, pss_cons (ps_set (i := 2) scLblockwishes.nd rfl (Or.inl rfl) (pe_cf cM hr pass0 (pa_cons (pv 0) (pa_cons (pv 1) pa_nil))))
      (pss_cons (ps_set (i := 3) scLblockwishes.nd rfl (Or.inl rfl) pe_dnewK)
      (pss_cons (ps_set (i := 4) scLblockwishes.nd rfl (Or.inl rfl) pe_int)
      (pss_cons (ps_for PassesOwn.never rfl (pi_range1 (by rfl) B.rng (pa_cons (pe_callB call_len_seq (by rfl) B.len PySem.boot_len (pa_cons (pv 2) pa_nil)) pa_nil)) (pg_name (i := 5) scLblockwishes.nd rfl (Or.inl rfl))
        (pss_cons (ps_set (i := 6) scLblockwishes.nd rfl (Or.inl rfl) (pe_op op_add pe_int (pe_cf cT hr1 pass0 (pa_cons (pv 0) (pa_cons pe_int pa_nil)))))
        (pss_cons (ps_set (i := 7) scLblockwishes.nd rfl (Or.inl rfl) (pe_slice sl_list (pv 2) (po_some (pv 4)) (po_some (pe_op op_add (pv 4) (pv 6)))))
        (pss_cons (ps_aug (i := 4) scLblockwishes.nd rfl (Or.inl rfl) (pv 6) ip_add)
        (pss_one (ps_for PassesOwn.never rfl (pi_range1 (by rfl) B.rng (pa_cons (pe_callB call_len_seq (by rfl) B.len PySem.boot_len (pa_cons (pv 7) pa_nil)) pa_nil)) (pg_name (i := 8) scLblockwishes.nd rfl (Or.inl rfl)) ht))))))
      (pss_one (ps_ret (pv 3)))))), ?_⟩
    refine ⟨_, rfl, _, rfl, st, it, ns, rfl, hst, hit, by omega, fun O order H1 hperm sb1 hs1 hO0 hO D hD => ?_⟩
    have hord : order.Nodup := hperm.nodup_iff.mpr hnd
    have hol : order.length ≤ 100 := by rw [hperm.length_eq]; exact hlen
    have nD0 : H D = none := by
      cases e : H D with
      | none => rfl
      | some o =>
        have := sb1 _ _ (new_ne_st hs1 hD) e
        rw [this] at hD
        cases hD
    have s5 : Same H1 (upd H1 D (.dK [])) := Same.new hD
    have hP5 : Part (upd H1 D (.dK [])) D [] ns := Part.new upd_same
    have hd5 : ∃ kvs, (upd H1 D (.dK [])) D = some (.dK kvs) := ⟨_, upd_same⟩
    generalize upd H1 D (.dK []) = Hs at s5 hP5 hd5
    have hsS := hs1.same s5
    have eO5 := s5 _ _ hO
    have eI5 : Hs it = some (lstO ns) := s5 _ _ (sb1 _ _ (ne_st hst hit) hit)
    refine ⟨_, rfl, O, _, rfl, .inl (SqL.of eO5), _, rfl, by rw [List.length_map]; omega, by rw [List.length_map]; omega,
      for_it (walk_range (lo := 0) (n := (((order.map V.str).length : Nat) : Int).toNat)) (fun i σ H' => ∃ (at0 : Nat) (v5 v6 v7 v8 v9 v10 v11 : Option V), σ = [some (.ref st), some (.ref it), some (.ref O), some (.ref D), some (.int at0), v5, v6, v7, v8, v9, v10, v11, none] ∧ i ≤ at0 ∧ at0 ≤ 10 * i ∧ Lay Hs H' st D (order.take at0) ns)
      ⟨0, none, none, none, none, none, none, none, rfl, Nat.le_refl _, Nat.le_refl _, hsS, hP5, But2.refl _ _ _⟩ (fun _ _ _ _ _ => True.intro) ?_ ?_⟩
    · rintro i x σ Hx H2 hi ⟨at0, v5, v6, v7, v8, v9, v10, v11, rfl, hat, hat2, Y⟩ ⟨rfl, rfl⟩
      rw [List.length_map, Int.toNat_natCast] at hi
      refine ⟨_, rfl, st, 7, rfl, by decide, by decide, Y.st_, fun d n1 z1 hd0 hd1 a1 a2 a3 => ?_⟩
      have Y1 := Y.draw a1 a2 a3
      generalize upd H2 st (.lst [.int n1, .int z1]) = H3 at Y1
      obtain ⟨d, rfl⟩ := Int.eq_ofNat_of_zero_le hd0
      have hO3 := Y1.l hsS hd5 eO5
      refine ⟨_, _, rfl, rfl, _, rfl, _, rfl, _, rfl, _, rfl, _, rfl, _, _, rfl, rfl, _, rfl, O, _, rfl, SqL.of hO3, fun Ba hBa => ?_⟩
      have e2 : ((at0 : Nat) : Int) + (1 + ((d : Nat) : Int)) = ((at0 + (1 + d) : Nat) : Int) := by omega
      rw [e2]
      have sB := Same.new (o := HO.lst (cutV (order.map V.str) (some ((at0 : Nat) : Int)) (some ((at0 + (1 + d) : Nat) : Int)))) hBa
      have eB := cut_lstM (H := H3) (L := Ba) (zs := order) (i := at0) (j := 1 + d)
      generalize upd H3 Ba (.lst (cutV (order.map V.str) (some ((at0 : Nat) : Int)) (some ((at0 + (1 + d) : Nat) : Int)))) = H4 at sB eB
      have Y2 := Y1.same sB
      have hcat : order.take at0 ++ (order.drop at0).take (1 + d) = order.take (at0 + (1 + d)) := (List.take_add).symm
      have hndc : (order.take at0 ++ (order.drop at0).take (1 + d)).Nodup := by rw [hcat]; exact hord.sublist (List.take_sublist _ _)
      have hsubc : ∀ z ∈ order.take at0 ++ (order.drop at0).take (1 + d), z ∈ ns := fun z hz => by
        rw [hcat] at hz
        exact hperm.mem_iff.mp (List.mem_of_mem_take hz)
      have hlc : (order.take at0).length + ((order.drop at0).take (1 + d)).length ≤ 100 := by
        rw [← List.length_append, hcat, List.length_take]
        omega
      generalize hblk : (order.drop at0).take (1 + d) = block at eB hcat hndc hsubc hlc
      generalize hqs : order.take at0 = Q0 at Y2 hcat hndc hsubc hlc
      obtain ⟨nQ, nB, nQB⟩ := List.nodup_append.mp hndc
      refine ⟨_, rfl, _, rfl, _, _, rfl, rfl, ?_⟩
      have G : BkH H4 st D Ba it block ns := ⟨Y2.st_, Y2.p.dk, eB, Y2.l hsS hd5 eI5⟩
      refine ⟨_, rfl, Ba, _, rfl, .inl (SqL.of eB), _, rfl, by rw [List.length_map]; omega, by rw [List.length_map]; omega,
        for_it (walk_range (lo := 0) (n := (((block.map V.str).length : Nat) : Int).toNat)) (fun k σ H' => ∃ (v8 v9 v10 v11 : Option V), σ = [some (.ref st), some (.ref it), some (.ref O), some (.ref D), some (.int (((at0 : Nat) : Int) + (1 + ((d : Nat) : Int)))), some (.int (0 + (i : Int))), some (.int (1 + ((d : Nat) : Int))), some (.ref Ba), v8, v9, v10, v11, none] ∧ Lay H4 H' st D (Q0 ++ block.take k) ns)
        ⟨v8, v9, v10, v11, rfl, Y2.st_, by rw [List.take_zero, List.append_nil]; exact Y2.p, But2.refl _ _ _⟩ (fun _ _ _ _ _ => True.intro) ?_ ?_⟩
      · rintro k x σ Hx H5 hk ⟨w8, w9, w10, w11, rfl, Y5⟩ ⟨rfl, hx⟩
        rw [List.length_map, Int.toNat_natCast] at hk
        have e0 : (0 : Int) + (k : Int) = ((k : Nat) : Int) := by omega
        obtain rfl : x = V.int (k : Int) := hx.trans (by show V.int (0 + (k : Int)) = V.int (k : Int); rw [e0])
        obtain ⟨a, ea⟩ : ∃ a, block[k]? = some a := ⟨_, List.getElem?_eq_getElem hk⟩
        have ha : a ∈ block := List.mem_of_getElem? ea
        have hna : a ∉ Q0 ++ block.take k := fun h => by
          rcases List.mem_append.mp h with z | z
          · exact nQB a z a ha rfl
          · exact not_mem_take nB ea z
        have F' : BkF block ns (Q0 ++ block.take k) k a := ⟨ea, nB, fun z hz => hsubc z (List.mem_append_right _ hz), by omega, hlen, hnd, hna, by rw [List.length_append, List.length_take]; omega⟩
        refine q st it O D _ _ _ Ba k a block (Q0 ++ block.take k) ns H4 _ F' G (fun H6 u9 u10 u11 Y6 => ?_) H5 w9 w10 w11 Y5
        refine ⟨_, _, _, _, rfl, ?_⟩
        rw [List.append_assoc, ← take_snoc ea] at Y6
        exact Y6
      · rintro σ H5 ⟨w8, w9, w10, w11, rfl, Y5⟩
        rw [List.length_map, Int.toNat_natCast, List.take_of_length_le (Nat.le_refl _), hcat] at Y5
        refine ⟨at0 + (1 + d), some (.int (0 + (i : Int))), some (.int (1 + ((d : Nat) : Int))), some (.ref Ba), w8, w9, w10, w11, by rw [← e2], by omega, by omega, Y5.st_, Y5.p, Y2.b.trans Y5.b⟩
    · rintro σ H2 ⟨at0, v5, v6, v7, v8, v9, v10, v11, rfl, hat, hat2, Y⟩
      rw [List.length_map, Int.toNat_natCast] at hat
      have Yp := Y.p
      rw [List.take_of_length_le hat] at Yp
      refine ⟨_, rfl, kq D H2 nD0 (fun b o hb e => ?_) Y.st_ ⟨order, hperm, Yp⟩⟩
      exact Y.b _ _ (s5 _ _ (sb1 _ _ hb e)) hb (ne_of_none e nD0)
/-- _law_wishes(state, names) -/
theorem ok_wishes {f : Addr} {fd : FuncData} (F : Fun K "_law_wishes" "_law_wishes" sLwishes f fd) (B : Bl mg) (cT : CF P w K mg base CX0 1 "_law_take" ["_law_state", "_law_many"] spTake) (cB : CF P w K mg base CX0 3 "_law_block_wishes" ["_law_state", "_law_names_here"] spWsh)
    (cS : CF P w K mg base CX0 3 "_law_side_wishes" ["_law_state", "_law_names_here"] spWsh) (cP : CF P w K mg base CX0 3 "_law_plain_wishes" ["_law_state", "_law_names_here", "_law_mode"] spPlain) : FnOk P w K mg base CX0 4 f fd ["_law_state", "_law_names_here"] spWsh := by
  refine F.ok scLwishes (fun vs H Q E h => ?_) (fun cdv A outer s H vs Q E hr h => ?_)
  · obtain ⟨st, it, ns, rfl, _⟩ := h
    rfl
  · obtain ⟨st, it, ns, rfl, hst, hit, hnd, hlen, kq⟩ := h
    have hr1 : Room 1 _ := hr.mono (by decide)
    refine ⟨_, pss_cons (ps_set (i := 2) scLwishes.nd rfl (Or.inl rfl) (pe_cf cT hr1 pass0 (pa_cons (pv 0) (pa_cons pe_int pa_nil))))
      (pss_cons (ps_if (pt_cmpR op_gt (pv 2) pe_int (nomark _)) (pss_one (ps_ret (pe_cf cB hr pass0 (pa_cons (pv 0) (pa_cons (pv 1) pa_nil))))) pss_nil)
      (pss_cons (ps_if (pt_cmpR op_gt (pv 2) pe_int (nomark _)) (pss_one (ps_ret (pe_cf cS hr pass0 (pa_cons (pv 0) (pa_cons (pv 1) pa_nil))))) pss_nil)
      (pss_one (ps_ret (pe_cf cP hr pass0 (pa_cons (pv 0) (pa_cons (pv 1) (pa_cons (pv 2) pa_nil)))))))), ?_⟩
    refine ⟨_, rfl, st, 9, rfl, by decide, by decide, hst, fun d n1 z1 hd0 hd1 a1 a2 a3 => ?_⟩
    have sb1 : SameBut st H (upd H st (.lst [.int n1, .int z1])) := SameBut.set
    have hs1 : StAt (upd H st (.lst [.int n1, .int z1])) st := ⟨n1, z1, upd_same, a1, a2, a3⟩
    generalize upd H st (.lst [.int n1, .int z1]) = H1 at sb1 hs1
    have hit1 := sb1 _ _ (ne_st hst hit) hit
    have kk : ∀ (D : Addr) (H' : Hp), H1 D = none → SameBut st H1 H' → StAt H' st → (∃ order, order.Perm ns ∧ Part H' D order ns) → Q (.ref D) H' := fun D H' hD sb hs hx => by
      refine kq D H' ?_ (sb1.trans sb) hs hx
      cases e : H D with
      | none => rfl
      | some o =>
        have := sb1 _ _ (new_ne_st hs1 hD) e
        rw [this] at hD
        cases hD
    refine ⟨_, rfl, _, _, rfl, rfl, _, rfl, ite2 (fun _ => ?_) (fun _ => ?_)⟩
    · exact ⟨_, rfl, _, rfl, st, it, ns, rfl, hs1, hit1, hnd, hlen, kk⟩
    · refine ⟨_, rfl, _, _, rfl, rfl, _, rfl, ite2 (fun _ => ?_) (fun _ => ?_)⟩
      · exact ⟨_, rfl, _, rfl, st, it, ns, rfl, hs1, hit1, hnd, hlen, kk⟩
      · exact ⟨_, rfl, _, rfl, _, rfl, st, it, ns, d, rfl, hs1, hit1, hnd, hlen, kk⟩
/-- _law_group(state, top) -/
def spGroup : Sp := fun vs H Q _ => ∃ (st : Addr) (m : Int), vs = [.ref st, .int m] ∧ 0 ≤ m ∧ m ≤ 20 ∧ StAt H st ∧
  ∀ (T a D : Addr) (ns : List Str) (H' : Hp), H' T = some (.tup [.ref a, .ref D]) → SameBut st H H' → StAt H' st → H a = none → a ≠ st → H' a = some (lstO ns) → ns.Nodup → (∀ z ∈ ns, nameS z = true) → (ns.length : Int) ≤ m → (∃ order, order.Perm ns ∧ Part H' D order ns) → H D = none → Q (.ref T) H'
theorem ok_group {f : Addr} {fd : FuncData} (F : Fun K "_law_group" "_law_group" sLgroup f fd) (B : Bl mg) (cT : CF P w K mg base CX0 1 "_law_take" ["_law_state", "_law_many"] spTake) (cN : CF P w K mg base CX0 3 "_law_names" ["_law_state", "_law_many"] spNames)
    (cW : CF P w K mg base CX0 4 "_law_wishes" ["_law_state", "_law_names_here"] spWsh) : FnOk P w K mg base CX0 5 f fd ["_law_state", "_law_top"] spGroup := by
  refine F.ok scLgroup (fun vs H Q E h => ?_) (fun cdv A outer s H vs Q E hr h => ?_)
  · obtain ⟨st, m, rfl, _⟩ := h
    rfl
  · obtain ⟨st, m, rfl, hm0, hm1, hst, kq⟩ := h
    have hr1 : Room 1 _ := hr.mono (by decide)
    have hr3 : Room 3 _ := hr.mono (by decide)
    refine ⟨_, pss_cons (ps_set (i := 2) scLgroup.nd rfl (Or.inl rfl) (pe_cf cN hr3 pass0 (pa_cons (pv 0) (pa_cons (pe_cf cT hr1 pass0 (pa_cons (pv 0) (pa_cons (pe_op op_add (pv 1) pe_int) pa_nil))) pa_nil))))
      (pss_cons (ps_set (i := 3) scLgroup.nd rfl (Or.inl rfl) (pe_cf cW hr pass0 (pa_cons (pv 0) (pa_cons (pv 2) pa_nil))))
      (pss_one (ps_ret (pe_tup (pa_cons (pv 2) (pa_cons (pv 3) pa_nil)))))), ?_⟩
    refine ⟨_, rfl, _, rfl, _, rfl, _, _, rfl, rfl, st, m + 1, rfl, by omega, by omega, hst, fun d n1 z1 hd0 hd1 a1 a2 a3 => ?_⟩
    have sb1 : SameBut st H (upd H st (.lst [.int n1, .int z1])) := SameBut.set
    have hs1 : StAt (upd H st (.lst [.int n1, .int z1])) st := ⟨n1, z1, upd_same, a1, a2, a3⟩
    have back : ∀ D, (upd H st (.lst [.int n1, .int z1])) D = none → H D = none := fun D hD => by
      by_cases e : D = st
      · rw [e, upd_same] at hD
        cases hD
      · rw [upd_ne e] at hD
        exact hD
    generalize upd H st (.lst [.int n1, .int z1]) = H1 at sb1 hs1 back
    obtain ⟨d, rfl⟩ := Int.eq_ofNat_of_zero_le hd0
    refine ⟨st, d, rfl, by omega, hs1, fun a ns H2 hlen hnd hnm sb2 hs2 ha hast ea => ?_⟩
    refine ⟨_, rfl, _, rfl, st, a, ns, rfl, hs2, ea, hnd, by omega, fun D H3 hD sb3 hs3 hx => ?_⟩
    have ea3 := sb3 _ _ hast ea
    obtain ⟨order, hperm, hP⟩ := hx
    refine ⟨_, rfl, _, rfl, ?_⟩
    have fin : ∀ T, H3 T = none → Q (.ref T) (upd H3 T (.tup [.ref a, .ref D])) := fun T hT => by
      have s4 : Same H3 (upd H3 T (.tup [.ref a, .ref D])) := Same.new hT
      refine kq T a D ns _ upd_same (((sb1.trans sb2).trans sb3).trans (s4.but st)) (hs3.same s4) (back a ha) hast (s4 _ _ ea3) hnd hnm (by omega) ⟨order, hperm, hP.same s4⟩ ?_
      refine back D ?_
      cases e : H1 D with
      | none => rfl
      | some o =>
        have := sb2 _ _ (new_ne_st hs2 hD) e
        rw [this] at hD
        cases hD
    first
      | exact ⟨by show 2 ≤ sizeLine; rw [sizeLine_eq]; decide, fun T hT => fin T hT⟩
      | exact fun T hT => fin T hT
end
end Qp
/-! x in o, o[i], where o is an instance of a class that defs __contains__, __getitem__ -/
namespace L2
open PySem PySem.Spec PyProof.Rows
section
variable {X : Cx} {k : Nat} {f C : Addr} {fd : FuncData} {ps : List Str} {sp : Sp}
theorem run_fnAt {A' : Around} {pins : List (Addr × Obj)} {σ : St} {H : Hp} {s : Shared} {Q : VK} {us : List Value} {vs : List V} (he : Env0 X.prog X.w X.K X.mg X.base A' X.stack s H) (F : FnOk X.prog X.w X.K X.mg X.base CX0 k f fd ps sp) (hr : Room k A') (hb : Binds X.K fd ps [])
    (I : Inv X pins σ H s) (r : Vals vs us) (h : sp vs H Q E0) : wpAny (model X.prog X.w) A' (call (.ref f) us) (EP X pins σ Q) X.xe s := by
  have hl : (us ++ []).length = ps.length := by rw [List.append_nil, ← r.length]; exact F.len _ _ _ _ h
  have hb' := hb s us I.kIn hl
  rw [List.append_nil] at hb'
  refine wpAny_call (codeAny_mono (F.run A' X.stack s H ⟨us, []⟩ us vs Q E0 hr he hb' r h) fun r s' hq => ?_)
  cases r with
  | error e => exact False.elim hq
  | ok fl =>
    cases fl with
    | ret u => exact I.after hq
    | next => exact False.elim hq
    | brk => exact False.elim hq
    | cont => exact False.elim hq
/-- x in o -/
def rInO (C : Addr) (sp : Sp) (neg : Bool) : R2 := fun x y H Q => ∃ a dx fs, y = .ref a ∧ H a = some (.ins C dx fs) ∧ sp [y, x] H (fun v H' => ∃ b : Bool, v = .bl b ∧ Q (.bl (if neg = true then !b else b)) H') E0
theorem contains_own {pins : List (Addr × Obj)} {σ : St} {H : Hp} {s : Shared} {x : V} {v : Value} {a dx : Addr} {fs : List (Str × V)} {R : Bool → Shared → Prop} (hm : Meth X.K C "__contains__" f) (F : FnOk X.prog X.w X.K X.mg X.base CX0 k f fd ps sp) (hr : Room k X.A) (hb : Binds X.K fd ps [])
    (I : Inv X pins σ H s) (rx : RelV x v) (ha : H a = some (.ins C dx fs)) (Qb : Bool → Hp → Prop) (h : sp [.ref a, x] H (fun v H' => ∃ b : Bool, v = .bl b ∧ Qb b H') E0)
    (hq : ∀ b H' s', Inv X pins σ H' s' → Qb b H' → R b s') : wpAny (model X.prog X.w) X.A (contains (.ref a) v) R X.xe s := by
  obtain ⟨mA, O, _, _, _, _⟩ := ins_get I.hok ha
  obtain ⟨od, J, _⟩ := O.look
  unfold contains
  refine wpAny_holding (wpAny_bind (wpAny_bind (J.type.here ((PySem.W.looks_findIn I.kIn hm.at_).here ?_))))
  rw [if_neg (by simp)]
  refine wpAny_bind (PySem.W.unlessNone_K I.kIn J hm.at_ hm.fn (thn (run_fnAt I.env0 F hr hb I (vs := [V.ref a, x]) (.cons rfl (.cons rx .nil)) h) fun u s1 hu => ?_))
  obtain ⟨y, H1, I1, ry, b, rfl, q⟩ := hu
  cases ry
  exact wpAny_truthy_bool (hq b H1 s1 I1 q)
theorem op_inO (hm : Meth X.K C "__contains__" f) (F : FnOk X.prog X.w X.K X.mg X.base CX0 k f fd ps sp) (hr : Room k X.A) (hb : Binds X.K fd ps []) : OpR X (compareOp .In) (rInO C sp false) := by
  intro pins s σ H x y v u Q I rx ry h
  obtain ⟨a, dx, fs, rfl, ha, h⟩ := h
  cases ry
  exact wpAny_bind (contains_own hm F hr hb I rx ha (fun b H' => Q (.bl b) H') h fun b H' s' I' q => wpAny_pure ⟨.bl b, H', I', rfl, q⟩)
theorem op_notInO (hm : Meth X.K C "__contains__" f) (F : FnOk X.prog X.w X.K X.mg X.base CX0 k f fd ps sp) (hr : Room k X.A) (hb : Binds X.K fd ps []) : OpR X (compareOp .NotIn) (rInO C sp true) := by
  intro pins s σ H x y v u Q I rx ry h
  obtain ⟨a, dx, fs, rfl, ha, h⟩ := h
  cases ry
  exact wpAny_bind (contains_own hm F hr hb I rx ha (fun b H' => Q (.bl (!b)) H') h fun b H' s' I' q => wpAny_pure ⟨.bl (!b), H', I', rfl, q⟩)
/-- o[i] -/
def rIxO (C : Addr) (sp : Sp) : R2 := fun x y H Q => ∃ a dx fs, x = .ref a ∧ H a = some (.ins C dx fs) ∧ sp [x, y] H Q E0
theorem pe_ixO {a b : Expr} {ta tb : TE} {pos : Pos} (hm : Meth X.K C "__getitem__" f) (hfn : PySem.W.fnIn X.K f = true) (F : FnOk X.prog X.w X.K X.mg X.base CX0 k f fd ps sp) (hr : Room (k + 1) X.A) (hbd : Binds X.K fd ps []) (ha : PE X a ta) (hb : PE X b tb)
    (hsl : ∀ v u, subscripted b true v u = runValue (.builtin "lifetime.subscript" ⟨[v, u], []⟩) := by intros; rfl) : PE X (.Subscript a b pos) (tOp (rIxO C sp) ta tb) := by
  refine ⟨fun pins s σ H Q I h => ?_⟩
  refine Subscript_ (binT ha hb I h fun v u s2 x y H2 I2 rx ry q => ?_)
  obtain ⟨o, dx, fs, rfl, ho, q⟩ := q
  cases rx
  obtain ⟨mA, O, _, _, _, _⟩ := ins_get I2.hok ho
  obtain ⟨od, J, _⟩ := O.look
  have XK := I2.kIn
  unfold PySem.W.fnIn at hfn
  split at hfn
  · rename_i e
    unfold subscriptTail getitemInPython
    refine wpAny_bind (wpAny_bind (wpAny_bind (J.type.here ((PySem.W.looks_findIn XK hm.at_).here ?_))))
    dsimp only
    refine wpAny_bind (wpAny_load (XK _ _ e) (wpAny_pure ?_))
    dsimp only
    rw [hsl]
    refine wpAny_bind (wpAny_runValue (codeAny_builtin PySem.W.entry_sub ?_))
    unfold Builtin.«lifetime.subscript»
    refine wpAny_bind (PySem.W.special_fn XK J hm.at_ (beq_iff_eq.mp hm.fn) (thn (run_fnAt I2.env0.in1 F hr.in1 hbd I2 (vs := [V.ref o, y]) (.cons rfl (.cons ry .nil)) q) fun v s' z => ?_))
    refine wpAny_pure ?_
    show wpAny (model X.prog X.w) X.A (letTemporaryGo a (.ref o) v >>= fun _ => pure v) (EP X pins σ Q) X.xe s'
    exact wpAny_bind (wpAny_letTemporaryGo (wpAny_pure z))
  · cases hfn
end
end L2
/-! sorted(xs), xs a list of pairs of texts, any number of them -/
namespace QP
open PySem PyProof.Rows Srt SrtO
def lexS (p q : List Nat × List Nat) : Bool := if p.1 = q.1 then decide (p.2 < q.2) else decide (p.1 < q.1)
theorem lexS_no {p q : List Nat × List Nat} : lexS p q = false ↔ (q.1 = p.1 ∧ q.2 ≤ p.2) ∨ (q.1 ≠ p.1 ∧ q.1 ≤ p.1) := by
  unfold lexS
  by_cases e : p.1 = q.1
  · rw [if_pos e, decide_eq_false_iff_not, List.not_lt]
    constructor
    · exact fun h => .inl ⟨e.symm, h⟩
    · rintro (h | h)
      · exact h.2
      · exact absurd e.symm h.1
  · rw [if_neg e, decide_eq_false_iff_not, List.not_lt]
    constructor
    · exact fun h => .inr ⟨fun z => e z.symm, h⟩
    · rintro (h | h)
      · exact absurd h.1.symm e
      · exact h.2
theorem lexS_swo {α : Type} (k : α → List Nat × List Nat) : Swo fun v u => lexS (k v) (k u) := by
  have tr : ∀ x y z : α, lexS (k x) (k y) = false → lexS (k y) (k z) = false → lexS (k x) (k z) = false := fun x y z h1 h2 => by
    rcases lexS_no.mp h1 with ⟨a1, a2⟩ | ⟨a1, a2⟩
    · rcases lexS_no.mp h2 with ⟨b1, b2⟩ | ⟨b1, b2⟩
      · exact lexS_no.mpr (.inl ⟨b1.trans a1, List.le_trans b2 a2⟩)
      · exact lexS_no.mpr (.inr ⟨by rw [← a1]; exact b1, by rw [← a1]; exact b2⟩)
    · rcases lexS_no.mp h2 with ⟨b1, b2⟩ | ⟨b1, b2⟩
      · exact lexS_no.mpr (.inr ⟨by rw [b1]; exact a1, by rw [b1]; exact a2⟩)
      · refine lexS_no.mpr (.inr ⟨fun e => a1 (List.le_antisymm a2 (by rw [← e]; exact b2)), List.le_trans b2 a2⟩)
  refine ⟨fun x y h => ?_, fun x y z h1 h2 => tr z y x h2 h1⟩
  have h : lexS (k x) (k y) = true := h
  unfold lexS at h
  by_cases e : (k x).1 = (k y).1
  · rw [if_pos e] at h
    exact lexS_no.mpr (.inl ⟨e, List.le_of_lt (of_decide_eq_true h)⟩)
  · rw [if_neg e] at h
    exact lexS_no.mpr (.inr ⟨e, List.le_of_lt (of_decide_eq_true h)⟩)
def IsPairS (h : Heap) (v : Value) (p : List Nat × List Nat) : Prop := ∃ a o x t y u n, v = .ref a ∧ h.get? a = some o ∧ o.cls = .type "tuple" ∧ o.data = .seq #[.str x t, .str y u] n ∧ p = (x.cps.toList, y.cps.toList)
theorem IsPairS.keeps {h h' : Heap} {v : Value} {p : List Nat × List Nat} (q : IsPairS h v p) (k : ∀ b o, h.get? b = some o → o.cls = .type "tuple" → h'.get? b = some o) : IsPairS h' v p := by
  obtain ⟨a, o, x, t, y, u, n, e, ho, hc, hd, ep⟩ := q
  exact ⟨a, o, x, t, y, u, n, e, k _ _ ho hc, hc, hd, ep⟩
theorem firstsS {h : Heap} : ∀ {vs : List Value}, (∀ v ∈ vs, ∃ p, IsPairS h v p) → ∃ fs : List Value, PySem.W.KatTups h vs fs ∧ fs.length = vs.length ∧ ∀ f ∈ fs, ∃ x t, f = Value.str x t
  | [], _ => ⟨[], PySem.W.KatTups.nil, rfl, fun _ hm => by simp at hm⟩
  | v :: vs, hp => by
    obtain ⟨fs, h1, h2, h3⟩ := firstsS (vs := vs) fun v' hm => hp v' (List.mem_cons_of_mem _ hm)
    obtain ⟨p, a, o, x, t, y, u, n, e, ho, hc, hd, _⟩ := hp v (List.mem_cons_self ..)
    subst e
    refine ⟨.str x t :: fs, PySem.W.KatTups.cons ho hc hd rfl h1, by rw [List.length_cons, List.length_cons, h2], fun f hm => ?_⟩
    rcases List.mem_cons.mp hm with rfl | hm
    · exact ⟨x, t, rfl⟩
    · exact h3 f hm
section
variable {prog : Program} {w : World} {A : Around} {E : Value → Shared → Prop} {s : Shared}
theorem pairS_cmp {vs : List Value} {k : Value → List Nat × List Nat} (hp : ∀ v ∈ vs, IsPairS s.heap v (k v)) : Cmp prog w A s (tuples' true) (fun p => p.1 ∈ vs) (lt2 fun v u => lexS (k v) (k u)) := by
  intro p q hm hm'
  have h1 := hp _ hm
  have h2 := hp _ hm'
  show wpAny (model prog w) A (keyLt' (tuples' true) p.1 q.1) (fun r s' => s' = s ∧ r = lexS (k p.1) (k q.1)) (fun _ _ => False) s
  generalize k p.1 = kp at h1 ⊢
  generalize k q.1 = kq at h2 ⊢
  obtain ⟨a, o, x, t, y, u, n, e, ho, hc, hd, rfl⟩ := h1
  obtain ⟨a', o', x', t', y', u', n', e', ho', hc', hd', rfl⟩ := h2
  rw [e, e']
  unfold lexS
  refine PySem.W.kat_lt ho hd ho' hd' ?_
  show PySem.W.KatLex prog w A true (decide (2 < 2)) _ [(.str x t, .str x' t'), (.str y u, .str y' u')] 0 s
  refine PySem.W.kat_cons (SeqAt.EqAt.str_str x t x' t' prog w _ _ ?_)
  have sx : ∀ {a b : Str}, (a == b) = true → a.cps.toList = b.cps.toList := fun h => by rw [beq_iff_eq.mp h]
  have sn : ∀ {a b : Str}, (a == b) = false → ¬ a.cps.toList = b.cps.toList := fun {a b} h z => by
    have : (a == b) = true := by rw [← SeqAt.str_beq]; exact beq_iff_eq.mpr z
    rw [this] at h
    cases h
  refine PySem.W.kat_go (fun e1 => ?_) (fun e1 => ?_)
  · have ex := sx e1
    refine PySem.W.kat_yes (PySem.W.kat_cons (SeqAt.EqAt.str_str y u y' u' prog w _ _ ?_))
    refine PySem.W.kat_go (fun e2 => ?_) (fun e2 => ?_)
    · have ey := sx e2
      have e3 : (if x.cps.toList = x'.cps.toList then decide (y.cps.toList < y'.cps.toList) else decide (x.cps.toList < x'.cps.toList)) = false := by
        rw [if_pos ex, ey]
        exact decide_eq_false (List.lt_irrefl _)
      exact PySem.W.kat_yes (PySem.W.kat_nil ⟨rfl, e3.symm⟩)
    · have e3 : (if x.cps.toList = x'.cps.toList then decide (y.cps.toList < y'.cps.toList) else decide (x.cps.toList < x'.cps.toList)) = decide (y.cps.toList < y'.cps.toList) := if_pos ex
      refine PySem.W.kat_no (PySem.W.kat_one _ _ (PySem.P.lt_str ?_))
      exact ⟨rfl, e3.symm⟩
  · have ex := sn (by simpa using e1)
    have e3 : (if x.cps.toList = x'.cps.toList then decide (y.cps.toList < y'.cps.toList) else decide (x.cps.toList < x'.cps.toList)) = decide (x.cps.toList < x'.cps.toList) := if_neg ex
    exact PySem.W.kat_no (oneLt_str ⟨rfl, e3.symm⟩)
theorem pairsS_sortable {a : Addr} {vs : List Value} {k : Value → List Nat × List Nat} (h0 : 0 < vs.length) (hp : ∀ v ∈ vs, IsPairS s.heap v (k v)) (ha : ∀ o, s.heap.get? a = some o → o.cls ≠ .type "tuple") : SortableO prog w A s a vs fun v u => lexS (k v) (k u) := by
  intro h' keep
  have hp' : ∀ v ∈ vs, IsPairS h' v (k v) := fun v hm => (hp v hm).keeps fun b o e c => keep b o (fun z => by subst z; exact ha o e c) e
  obtain ⟨fs, h1, h2, h3⟩ := firstsS fun v hm => ⟨_, hp' v hm⟩
  refine ⟨tuples' true, fun Q E hq => ?_, pairS_cmp hp'⟩
  refine PySem.W.kat_kind (T := .type "str") h1 (by omega) (fun f hm => ?_) (by rfl) ?_
  · obtain ⟨x, t, rfl⟩ := h3 f hm
    exact PySem.W.Looks.now
  · have e : (Value.type "str" != Value.type "tuple") = true := by first | decide +kernel | rfl | decide
    rw [e]
    exact hq
end
end QP
namespace L2
open PySem PySem.Spec PyProof.Rows
abbrev ltPS (k : V → List Nat × List Nat) (x y : V) : Bool := QP.lexS (k x) (k y)
/-- sorted(xs), xs a list of pairs of texts (k says which): a new list, sorted, equal ones in their order -/
def rSortedPS (K : PySem.W.Frag) : List V → Hp → VK → Prop := fun vs H Q => ∃ (a : Addr) (xs : List V) (k : V → Str × Str), vs = [V.ref a] ∧ SqL K H a xs ∧ (∀ x ∈ xs, ∃ t, x = V.ref t ∧ H t = some (.tup [.str (k x).1, .str (k x).2])) ∧
  ∀ ys p, SrtO.Srtd (ltPS fun v => ((k v).1.cps.toList, (k v).2.cps.toList)) ys → SrtO.Stb (ltPS fun v => ((k v).1.cps.toList, (k v).2.cps.toList)) ys xs → H p = none → Q (.ref p) (upd H p (.lst ys))
section
variable {X : Cx}
theorem cr_sortedPS : CallR X (.builtin "sorted") (rSortedPS X.K) := by
  intro pins s σ H vs us Q I r h
  obtain ⟨a, xs, k, rfl, hs, hx, q⟩ := h
  obtain ⟨its, rv, hl, hz⟩ := I.list hs
  obtain ⟨u, rfl, ru⟩ := vals1 r
  obtain rfl : u = Value.ref a := ru
  obtain ⟨e1, e2⟩ := refs_back rv fun x m => by
    obtain ⟨t, e, _⟩ := hx x m
    exact ⟨t, e⟩
  have hpair : ∀ v ∈ its, QP.IsPairS s.heap v ((k (backV v)).1.cps.toList, (k (backV v)).2.cps.toList) := fun v hv => by
    obtain ⟨t, rfl⟩ := e2 v hv
    have hm : V.ref t ∈ xs := by rw [e1]; exact List.mem_map.mpr ⟨_, hv, rfl⟩
    obtain ⟨t', e, ht⟩ := hx _ hm
    cases e
    obtain ⟨_, its2, r2, o, ho, hc, n, hd⟩ := I.hok _ _ ht
    obtain ⟨u1, u2, rfl, ri, rj⟩ := vals2 r2
    obtain ⟨t1, rfl⟩ := ri
    obtain ⟨t2, rfl⟩ := rj
    exact ⟨t, o, _, t1, _, t2, n, rfl, ho, hc, hd, rfl⟩
  refine SrtO.sorted_ord (QP.lexS_swo fun u => ((k (backV u)).1.cps.toList, (k (backV u)).2.cps.toList)) hl.isList (by rw [← rv.length]; exact hz) (fun h2 h₁ a' ha kk => ?_) fun out h1 h2 => ?_
  · refine QP.pairsS_sortable (s := { s with heap := h₁ }) (by omega) (fun v hm => (hpair v hm).keeps fun b o e _ => (kk b o e).2) fun o e => ?_
    have e' : some o = some (seqObj "list" its.toArray 0) := e.symm.trans ha
    cases e'
    intro c
    exact absurd (Value.type.inj c) (by decide)
  · have h3 : ∀ u ∈ out, ∃ a, u = Value.ref a := fun u hu => e2 u (h2.perm.mem_iff.mp hu)
    obtain ⟨n, hn⟩ := PyProof.Rows.sortedAll_at s.heap its out.toArray
    have hb : SrtO.Stb (ltPS fun v => ((k v).1.cps.toList, (k v).2.cps.toList)) (out.map backV) xs := by
      rw [e1]
      exact SrtO.Stb.map (QP.lexS_swo fun v => ((k v).1.cps.toList, (k v).2.cps.toList)) backV h2
    refine ⟨.ref _, upd H (s.heap.objs.size + 1) (.lst (out.map backV)), I.laid (t' := s.toks) (fun _ _ => PyProof.Rows.sortedAll_old) (Nat.le_succ _) ⟨?_, out, n, vals_back h3, hn⟩, rfl, q _ _ (SrtO.srtd_map h1) hb (I.hok.fresh (Nat.le_succ _))⟩
    rw [hb.len]
    exact hz
end
end L2
namespace L2
open PySem PySem.Spec PyProof.Rows
/-- no list, whatever it is -/
def NotS (K : PySem.W.Frag) (H : Hp) (x : V) : Prop := ∀ H', Same H H' → ∃ t, TyX K H' x t ∧ PySem.W.kitOne K t (.type "str") = some false
theorem NotS.same {K : PySem.W.Frag} {H H' : Hp} (s : Same H H') {x : V} (h : NotS K H x) : NotS K H' x := fun H2 s2 => h H2 (s.trans s2)
theorem _root_.L2.IsK.notS {K : PySem.W.Frag} {H : Hp} {x : V} {k : Kd} (h : IsK H x k) (n : k ≠ .str) : NotS K H x := fun H' s => ⟨_, (h.same s).tyX, by
  have e : isaB k "str" = false := by cases k <;> first | rfl | exact absurd rfl n
  have q := kit_ty (K := K) (kit_str k)
  rw [e] at q
  exact q⟩
def rNotS (K : PySem.W.Frag) : List V → Hp → VK → Prop := fun xs H Q => ∃ x : V, xs = [x, .ty "str"] ∧ NotS K H x ∧ Q (.bl false) H
section
variable {X : Cx} {p p2 pos : Pos} {e : Expr} {te : TE}
theorem call_notS : CallR X (.builtin "isinstance") (rNotS X.K) := fun pins s σ H xs us Q I r ⟨x, ex, hx, q⟩ => by
  obtain ⟨t, h1, h2⟩ := hx H (Same.refl H)
  exact call_isi pins s σ H xs us Q I r ⟨x, .ty "str", t, .type "str", false, ex, .ty "str", h1, h2, q⟩
/-- isinstance(e, list), e of a kind or no list at all -/
theorem pe_isiS (hm : X.mg "isinstance" = none) (hT : X.mg "str" = none) (he : PE X e te) (hg : Gl X "isinstance" := by rfl) (hgT : Gl X "str" := by rfl)
    (hs : starEach [e, .Name "str" p2] X.env = (false, eval e X.env) :: starEach [.Name "str" p2] X.env := by rfl) (hs2 : starEach [.Name "str" p2] X.env = (false, eval (.Name "str" p2) X.env) :: starEach [] X.env := by rfl) (hpl : (backTo pos (starEach [.Name "str" p2] X.env)).any (·.1) = false := by rfl) :
    PE X (.Call (.Name "isinstance" p) [e, .Name "str" p2] [] pos) (tCB (fun xs H Q => rIs "str" xs H Q ∨ rNotS X.K xs H Q) (tCons te (tCons (tC (.ty "str")) tNil))) :=
  pe_callB (X := X) (p := p) (pos := pos) ((call_is kit_str).or call_notS) hg hm (by decide +kernel) (pa_cons he (pa_cons (pe_bltn (v := .ty "str") hgT hT (by decide +kernel) rfl (by decide +kernel) (by decide +kernel)) pa_nil hs2) hs) (by decide) (by decide) hs hpl
end
end L2
namespace L2
open PySem PySem.Spec PyProof.Rows
/-- no list, whatever it is -/
def NotU (K : PySem.W.Frag) (H : Hp) (x : V) : Prop := ∀ H', Same H H' → ∃ t, TyX K H' x t ∧ PySem.W.kitOne K t (.type "tuple") = some false
theorem NotU.same {K : PySem.W.Frag} {H H' : Hp} (s : Same H H') {x : V} (h : NotU K H x) : NotU K H' x := fun H2 s2 => h H2 (s.trans s2)
theorem _root_.L2.IsK.notU {K : PySem.W.Frag} {H : Hp} {x : V} {k : Kd} (h : IsK H x k) (n : k ≠ .tup) : NotU K H x := fun H' s => ⟨_, (h.same s).tyX, by
  have e : isaB k "tuple" = false := by cases k <;> first | rfl | exact absurd rfl n
  have q := kit_ty (K := K) (kit_tuple k)
  rw [e] at q
  exact q⟩
def rNotU (K : PySem.W.Frag) : List V → Hp → VK → Prop := fun xs H Q => ∃ x : V, xs = [x, .ty "tuple"] ∧ NotU K H x ∧ Q (.bl false) H
section
variable {X : Cx} {p p2 pos : Pos} {e : Expr} {te : TE}
theorem call_notU : CallR X (.builtin "isinstance") (rNotU X.K) := fun pins s σ H xs us Q I r ⟨x, ex, hx, q⟩ => by
  obtain ⟨t, h1, h2⟩ := hx H (Same.refl H)
  exact call_isi pins s σ H xs us Q I r ⟨x, .ty "tuple", t, .type "tuple", false, ex, .ty "tuple", h1, h2, q⟩
/-- isinstance(e, list), e of a kind or no list at all -/
theorem pe_isiU (hm : X.mg "isinstance" = none) (hT : X.mg "tuple" = none) (he : PE X e te) (hg : Gl X "isinstance" := by rfl) (hgT : Gl X "tuple" := by rfl)
    (hs : starEach [e, .Name "tuple" p2] X.env = (false, eval e X.env) :: starEach [.Name "tuple" p2] X.env := by rfl) (hs2 : starEach [.Name "tuple" p2] X.env = (false, eval (.Name "tuple" p2) X.env) :: starEach [] X.env := by rfl) (hpl : (backTo pos (starEach [.Name "tuple" p2] X.env)).any (·.1) = false := by rfl) :
    PE X (.Call (.Name "isinstance" p) [e, .Name "tuple" p2] [] pos) (tCB (fun xs H Q => rIs "tuple" xs H Q ∨ rNotU X.K xs H Q) (tCons te (tCons (tC (.ty "tuple")) tNil))) :=
  pe_callB (X := X) (p := p) (pos := pos) ((call_is kit_tuple).or call_notU) hg hm (by decide +kernel) (pa_cons he (pa_cons (pe_bltn (v := .ty "tuple") hgT hT (by decide +kernel) rfl (by decide +kernel) (by decide +kernel)) pa_nil hs2) hs) (by decide) (by decide) hs hpl
end
end L2
/-! a text in a list or tuple of any values -/
namespace L2
open PySem PySem.Spec PyProof.Rows
open AutoSeq1 (wpAny_loadPart')
open MeetsSeq MeetsSeq2 MeetsSeq3 SeqRoads2 SeqAt
theorem q_dict_str {A : Around} {s : Shared} {l : Addr} {o : Obj} (b : Str) (u : Tok) (hl : s.heap.get? l = some o) (hc : o.cls = .type "dict") (hd : ∃ es ep, o.data = .dict es ep) (hu : A.units < cLine) : EqAt A s (.ref l) (.str b u) false := fun prog w E Q h => by
  unfold eqBool
  refine wpAny_holding ?_
  refine wpAny_ite_split (fun hab => absurd (eq_of_beq hab) nofun) (fun _ => ?_)
  refine wpAny_bind ?_
  refine rc_eq_decline_or (k := false) ⟨_, hl, hc⟩ (typeIs_str s b u) (by decide) F.sub_str_dict F.slot_dict_eq F.slot_str_eq_refl
    (fun _ hq => call_meets F.slot_dict_eq ⟨_, hl, hc⟩ F.entry_dict_eq (F.args_dict_eq_2 _ _) (q_dict_eq_str l o hc b u) ⟨hl, hq⟩)
    (fun _ hq => call_meets F.slot_str_eq_refl (typeIs_str s b u) F.entry_str_eq (F.args_str_eq_2 _ _) (q_str_eq_dict b u l o hc hd) ⟨hl, hq⟩)
    (fun _ hq => wpAny_of_eq (rfl : isSame (.ref l) (.str b u) = pure false) hq) (.inr hu) (wpAny_truthy_bool h)
theorem eqAt_itemS {X : Cx} {pins : List (Addr × Obj)} {σ : St} {H : Hp} {s : Shared} {A : Around} (I : Inv X pins σ H s) (hu : A.units < cLine) {x : V} {v : Value} (rx : RelV x v) (ex : EltV H x) (z : Str) (k : Tok) : EqAt A s v (.str z k) (decide (x = .str z)) := by
  cases ex with
  | flat fx =>
    cases x with
    | non => cases rx; exact EqAt.none_str z k
    | bl b => cases rx; exact EqAt.bool_str b z k
    | int b => obtain ⟨t, rfl⟩ := rx; exact EqAt.int_str b t z k
    | str b =>
      obtain ⟨t, rfl⟩ := rx
      have e := EqAt.str_str (A := A) (s := s) b t z k
      have q : (b == z) = decide (V.str b = V.str z) := by
        by_cases h : b = z
        · subst h; simp
        · have h2 : ¬ V.str b = V.str z := fun y => h (V.str.inj y)
          rw [decide_eq_false h2]
          simpa using h
      rw [← q]
      exact e
    | _ => exact absurd (show false = true from fx) Bool.false_ne_true
  | @lst a xs h =>
    cases (show v = Value.ref a from rx)
    obtain ⟨_, its, n, _, h1⟩ := (show ObjOk X.prog X.w H s.heap a (.lst xs) from I.hok a _ h)
    exact EqAt.list_str (items := its.toArray) z k ⟨_, h1, rfl, n, rfl⟩ hu
  | @tup a xs h =>
    cases (show v = Value.ref a from rx)
    obtain ⟨_, its, _, h1⟩ := (show ObjOk X.prog X.w H s.heap a (.tup xs) from I.hok a _ h)
    exact EqAt.tuple_str z k h1 hu
  | @dct a kvs h =>
    cases (show v = Value.ref a from rx)
    obtain ⟨_, _, vs, _, o, es, ep, h1, h2, h3, _⟩ := (show ObjOk X.prog X.w H s.heap a (.dK kvs) from I.hok a _ h)
    exact q_dict_str z k h1 h2.1 ⟨_, _, h3⟩ hu
def isS (z : Str) (u : Value) : Bool := match u with
  | .str y _ => decide (y = z)
  | _ => false
theorem isS_rel {x : V} {u : Value} {z : Str} (r : RelV x u) : isS z u = decide (x = .str z) := by
  cases x with
  | str y =>
    obtain ⟨t, rfl⟩ := r
    show decide (y = z) = decide (V.str y = V.str z)
    rw [Bool.eq_iff_iff, decide_eq_true_iff, decide_eq_true_iff]
    exact ⟨fun e => by rw [e], fun e => V.str.inj e⟩
  | non => cases r; rfl
  | bl b => cases r; rfl
  | int b => obtain ⟨t, rfl⟩ := r; rfl
  | ref a => cases (show u = Value.ref a from r); rfl
  | byt b => obtain ⟨t, rfl⟩ := r; rfl
  | flt b => obtain ⟨t, rfl⟩ := r; rfl
  | ty n => cases (show u = Value.type n from r); rfl
theorem any_isS {z : Str} : ∀ {xs : List V} {us : List Value}, Vals xs us → us.any (isS z) = decide (V.str z ∈ xs)
  | [], _, .nil => rfl
  | x :: xs, u :: us, .cons r t => by
    have e := any_isS (z := z) t
    rw [List.any_cons, e, isS_rel r]
    rw [Bool.eq_iff_iff, Bool.or_eq_true, decide_eq_true_iff, decide_eq_true_iff, decide_eq_true_iff, List.mem_cons]
    exact ⟨fun h => h.imp (fun e => e.symm) id, fun h => h.imp (fun e => e.symm) id⟩
theorem mem_isS {X : Cx} {pins : List (Addr × Obj)} {σ : St} {H : Hp} {s : Shared} {A : Around} (I : Inv X pins σ H s) (hu : A.units < cLine) {z : Str} {k : Tok} : ∀ {xs : List V} {us : List Value}, Vals xs us → (∀ x ∈ xs, EltV H x) → ∀ u ∈ us, EqAt A s u (.str z k) (isS z u)
  | [], _, .nil, _ => fun u hu => by cases hu
  | x :: xs, u :: us, .cons r t, he => fun u' hu' => by
    rcases List.mem_cons.mp hu' with rfl | hu'
    · rw [isS_rel r]
      exact eqAt_itemS I hu r (he x List.mem_cons_self) z k
    · exact mem_isS I hu t (fun y hy => he y (List.mem_cons_of_mem _ hy)) u' hu'
/-- a text in a list of any values -/
def rInV (K : PySem.W.Frag) (neg : Bool) : R2 := fun x y H Q => ∃ z p xs, x = .str z ∧ y = .ref p ∧ SqL K H p xs ∧ (∀ x ∈ xs, EltV H x) ∧ Q (.bl (if neg then !decide (V.str z ∈ xs) else decide (V.str z ∈ xs))) H
theorem op_inV {X : Cx} (hu : X.A.units + 64 < cLine) : OpR X (compareOp .In) (rInV X.K false) := by
  intro pins s σ H x y v u Q I rx ry h
  obtain ⟨z, p, xs, rfl, rfl, hq, he, q⟩ := h
  cases ry
  obtain ⟨k, rfl⟩ := rx
  obtain ⟨its, r, pl, hz⟩ := I.list hq
  refine SeqAt.in_listAt (isS z) pl.isList (fun w hw => mem_isS I (by first | exact Nat.lt_of_le_of_lt (Nat.le_add_right _ 64) hu | exact Nat.lt_of_le_of_lt (Nat.add_le_add_left (by decide) _) hu) r he w (by simpa using hw)) ⟨.bl _, H, I, rfl, ?_⟩
  rw [show its.toArray.any (isS z) = its.any (isS z) by simp, any_isS r]
  exact q
theorem op_notInV {X : Cx} (hu : X.A.units + 64 < cLine) : OpR X (compareOp .NotIn) (rInV X.K true) := by
  intro pins s σ H x y v u Q I rx ry h
  obtain ⟨z, p, xs, rfl, rfl, hq, he, q⟩ := h
  cases ry
  obtain ⟨k, rfl⟩ := rx
  obtain ⟨its, r, pl, hz⟩ := I.list hq
  refine SeqAt.notIn_listAt (isS z) pl.isList (fun w hw => mem_isS I (by first | exact Nat.lt_of_le_of_lt (Nat.le_add_right _ 64) hu | exact Nat.lt_of_le_of_lt (Nat.add_le_add_left (by decide) _) hu) r he w (by simpa using hw)) ⟨.bl _, H, I, rfl, ?_⟩
  rw [show its.toArray.any (isS z) = its.any (isS z) by simp, any_isS r]
  exact q
end L2
/-! len(o), for x in o, where o is an instance of a class that defs __len__, and __iter__ that hands iter(a tuple) -/
namespace L2
open PySem PySem.Spec PyProof.Rows
section
variable {X : Cx} {k : Nat} {f C : Addr} {fd : FuncData} {ps : List Str} {sp : Sp}
/-- len(o) -/
def rLenO (C : Addr) (sp : Sp) : List V → Hp → VK → Prop := fun xs H Q => ∃ a dx fs, xs = [.ref a] ∧ H a = some (.ins C dx fs) ∧ sp [.ref a] H (fun v H' => ∃ n : Int, v = .int n ∧ 0 ≤ n ∧ n < 2 ^ 63 ∧ Q (.int n) H') E0
theorem call_lenO (hm : Meth X.K C "__len__" f) (F : FnOk X.prog X.w X.K X.mg X.base CX0 k f fd ps sp) (hr : Room (k + 1) X.A) (hb : Binds X.K fd ps []) : CallR X (.builtin "len") (rLenO C sp) := by
  intro pins s σ H xs us Q I r h
  obtain ⟨a, dx, fs, rfl, ha, h⟩ := h
  obtain ⟨u, rfl, ru⟩ := vals1 r
  cases ru
  obtain ⟨mA, J, _⟩ := ins_get I.hok ha
  obtain ⟨od, J, _⟩ := J.look
  obtain ⟨m, hF⟩ := I.fr
  refine PySem.W.len_K hF I.ok.mod.kin J hm.at_ hm.fn (thn (run_fnAt I.env0.in1 F hr.in1 hb I (vs := [V.ref a]) (.cons rfl .nil) h) fun v s1 hv => ?_)
  obtain ⟨z, H1, I1, rz, n, rfl, h0, h1, q⟩ := hv
  obtain ⟨t, ev⟩ := (show ∃ t, v = Value.int n t from rz)
  subst ev
  exact ⟨⟨h0, h1⟩, ⟨.int n, H1, I1.tok _, ⟨_, rfl⟩, q⟩⟩
/-! ### iter(t) -/
/-- at it an iterator over the tuple at t, at its start -/
def ItT (t it : Addr) : HO := .ext fun h => h.get? it = some { cls := .type "tuple_iterator", data := .fields #[.ref t, .int 0 0] }
theorem itT_ok {P : Program} {w : World} {H : Hp} {h : Heap} {t it : Addr} (e : h.get? it = some { cls := .type "tuple_iterator", data := .fields #[.ref t, .int 0 0] }) : ObjOk P w H h it (ItT t it) := ⟨e, ⟨_, e⟩, fun h1 h2 q k => k _ q⟩
def rIterT (K : PySem.W.Frag) : List V → Hp → VK → Prop := fun xs H Q => ∃ (t : Addr) (zs : List V), xs = [.ref t] ∧ SqT K H t zs ∧ ∀ it, H it = none → (∀ b o, H b = some o → b < it) → Q (.ref it) (upd H it (ItT t it))
theorem call_iterT : CallR X (.builtin "iter") (rIterT X.K) := by
  intro pins s σ H xs us Q I r h
  obtain ⟨t, zs, rfl, hq, q⟩ := h
  obtain rfl := Vals.ref1 r
  obtain ⟨its, rv, pl, hz⟩ := I.tuple hq
  refine Calls.call_function_entry (by decide +kernel) (by decide +kernel) PySem.W.kdk_entry_iter (PySem.W.kdk_args_iter _) ?_
  unfold Builtin.«iter»
  refine wpAny_bind (m := PySem.someArgs "iter" 1 2 _) (wpAny_of_eq (a := [Value.ref t]) (by first | rfl | kernel_rfl!) ?_)
  show wpAny _ _ (pyIter (.ref t) >>= _) _ _ _
  refine wpAny_bind (wpAny_pyIter_tuple (show s.heap.IsTuple t its.toArray from pl) ?_)
  refine wpAny_pure ⟨_, rfl, ?_⟩
  exact ⟨.ref s.heap.objs.size, _, I.laid (t' := s.toks) (fun b u e => Heap.get?_push_of_some _ e) (Nat.le_refl _) (itT_ok (Heap.get?_push_size _ rfl)), rfl, q _ (I.hok.fresh (Nat.le_refl _)) fun b o e => Nat.lt_of_not_le fun z => by
    rw [I.hok.fresh z] at e
    cases e⟩
/-! ### for x in o -/
def iOwn (K : PySem.W.Frag) (n : Nat) (C : Addr) (sp : Sp) (te : TE) : TI := fun σ H R => te σ H fun x H1 => ∃ a dx fs, x = .ref a ∧ H1 a = some (.ins C dx fs) ∧ sp [.ref a] H1 (fun v H2 => ∃ it t, v = .ref it ∧ n ≤ it ∧ H2 it = some (ItT t it) ∧ R (Itt K t) (ItX.dropH H2 it)) E0
theorem pi_own {tg e : Expr} {te : TE} (hm : Meth X.K C "__iter__" f) (F : FnOk X.prog X.w X.K X.mg X.base CX0 k f fd ps sp) (hr : Room k X.A) (hb : Binds X.K fd ps []) (he : PE X e te) : PI X tg e (iOwn X.K X.s_0.heap.objs.size C sp te) := by
  refine ⟨fun pins s σ H R I h => ?_⟩
  refine thn (he.run pins s σ H _ I h) fun u s1 ⟨x, H1, I1, rx, a, dx, fs, ex, ha, h⟩ => ?_
  subst ex
  cases rx
  obtain ⟨mA, J, _⟩ := ins_get I1.hok ha
  obtain ⟨od, J, _⟩ := J.look
  obtain ⟨m, hF⟩ := I1.fr
  refine PySem.W.owit_iter hF I1.ok.mod.kin J hm.at_ hm.fn ?_
  have hl : ([Value.ref a] ++ []).length = ps.length := by
    have := F.len _ _ _ _ h
    simpa using this
  have hb' := hb s1 [Value.ref a] I1.kIn hl
  rw [List.append_nil] at hb'
  refine wpAny_call (codeAny_mono (F.run X.A X.stack s1 H1 ⟨[Value.ref a], []⟩ [Value.ref a] [V.ref a] _ E0 hr I1.env0 hb' (.cons rfl .nil) h) fun r s' hq => ?_)
  cases r with
  | error e => exact False.elim hq
  | ok fl =>
    cases fl with
    | next => exact False.elim hq
    | brk => exact False.elim hq
    | cont => exact False.elim hq
    | ret v =>
      obtain ⟨z, H2, os, bare, un, hok, rz, it, t, ez, new, hi, hR⟩ := hq
      subst ez
      cases rz
      have I2 : Inv X pins σ H2 s' := I1.call' os un hok bare (fun b z => absurd z (by simp))
      have st : s'.heap.get? it = some { cls := .type "tuple_iterator", data := .fields #[.ref t, .int 0 0] } := (I2.hok it _ hi).1
      have stt : s'.heap.IsTupleIter it t 0 := ⟨_, st, rfl, rfl⟩
      unfold PySem.W.OwitIt
      refine wpAny_specialOf (name := "__next__") (show s'.TypeIs (.ref it) "tuple_iterator" from ⟨_, st, rfl⟩) PySem.F.slot_tuple_iterator_next.lookup ?_
      refine ⟨it, [it], _, _, ItX.dropH H2 it, rfl, ItX.inv_drop I2 hi, turn_tuple t it, stt, fun b hb => ?_, hR⟩
      have e : b = it := by simpa using hb
      rw [e]
      exact ItX.inv_fp I2 hi new
/-- a new list [], younger than the frame -/
def tLstN (n : Nat) : TE := fun _ H Q => ∀ p, H p = none → n ≤ p → Q (.ref p) (upd H p (.lst []))
theorem pe_lstN {pos : Pos} : PE X (.List [] pos) (tLstN X.s_0.heap.objs.size) := by
  refine ⟨fun pins s σ H Q I hq => ?_⟩
  have none0 : tNil σ H fun xs H1 => xs = [] ∧ H1 = H := ⟨rfl, rfl⟩
  refine wpAny_List_spliced (thn ((pa_nil (X := X)).run pos pins s σ H _ I none0) fun us sN hN => ?_)
  obtain ⟨xs, H1, IN, r, e1, e2⟩ := hN
  subst e1 e2
  have el : us.length = 0 := r.length.symm
  refine ⟨by rw [el]; exact Nat.zero_le _, ?_⟩
  have laid := IN.laid (t' := sN.toks) (h' := sN.heap.push { cls := .type "list", data := .seq us.toArray 0 }) (o := .lst []) (fun b u e => Heap.get?_push_of_some _ e) (Nat.le_refl _) ⟨Nat.zero_le _, us, 0, r, Heap.get?_push_size _ rfl⟩
  exact ⟨.ref sN.heap.objs.size, _, laid, rfl, hq _ (IN.hok.fresh (Nat.le_refl _)) IN.sz⟩
end
end L2
/-! for x in o by an own __iter__, wherever it stands: the callee runs over a base that is as long as the heap -/
namespace L2
open PySem PySem.Spec PyProof.Rows
/-- the same heap, longer -/
def pad (h : Heap) (m : Nat) : Heap := { h with objs := h.objs ++ Array.replicate m { cls := .none, data := .freed } }
theorem pad_get {h : Heap} {m : Nat} (b : Addr) : (pad h m).get? b = h.get? b := by
  unfold Heap.get? pad
  by_cases hb : b < h.objs.size
  · simp only [Array.getElem?_append_left hb]
  · have e : h.objs[b]? = none := Array.getElem?_eq_none (Nat.le_of_not_lt hb)
    simp only [Array.getElem?_append_right (Nat.le_of_not_lt hb), e]
    cases q : (Array.replicate m ({ cls := .none, data := .freed } : Obj))[b - h.objs.size]? with
    | none => rfl
    | some o =>
      obtain ⟨_, e2⟩ := Array.getElem?_eq_some_iff.mp q
      rw [Array.getElem_replicate] at e2
      subst e2
      rfl
theorem pad_size {h : Heap} {m : Nat} : (pad h m).objs.size = h.objs.size + m := by
  unfold pad
  simp
theorem funs_base {h b b' : Heap} (e : ∀ a, b'.get? a = b.get? a) : ∀ {l : List Env}, h.FunFrames b l → h.FunFrames b' l
  | [], _ => True.intro
  | env :: r, ⟨h1, ⟨L, o, h2, h3, h4⟩, h5⟩ => ⟨h1, ⟨L, o, h2, by rw [e]; exact h3, h4⟩, funs_base e h5⟩
theorem Env0.pad {P : Program} {w : World} {K : PySem.W.Frag} {mg : Str → Option Value} {base : Heap} {A : Around} {outer : List Env} {s : Shared} {H : Hp} (e : Env0 P w K mg base A outer s H) : Env0 P w K mg (L2.pad base (s.heap.objs.size - base.objs.size)) A outer s H := by
  have g := fun b => pad_get (h := base) (m := s.heap.objs.size - base.objs.size) b
  have k : ∀ b o, base.get? b = some o → (L2.pad base (s.heap.objs.size - base.objs.size)).get? b = some o := fun b o q => by rw [g]; exact q
  obtain ⟨mb, m1, m2⟩ := e.mod.blt
  have sz := e.bsz
  exact ⟨e.frames, ⟨e.mod.kin.keeps k, e.mod.glob.keeps k, ⟨mb, m1.keeps k, m2⟩, e.mod.nolimit.keeps k⟩, fun b o q => e.bs b o (by rw [← g]; exact q), by rw [pad_size]; omega, funs_base g e.funs, e.frf, e.hok, e.bare⟩
def rIterTN (K : PySem.W.Frag) (n : Nat) : List V → Hp → VK → Prop := fun xs H Q => ∃ (t : Addr) (zs : List V), xs = [.ref t] ∧ SqT K H t zs ∧ ∀ it, H it = none → n ≤ it → Q (.ref it) (upd H it (ItT t it))
section
variable {X : Cx} {k : Nat} {f C : Addr} {fd : FuncData} {ps : List Str} {sp : Nat → Sp}
theorem call_iterTN : CallR X (.builtin "iter") (rIterTN X.K X.base.objs.size) := by
  intro pins s σ H xs us Q I r h
  obtain ⟨t, zs, rfl, hq, q⟩ := h
  obtain rfl := Vals.ref1 r
  obtain ⟨its, rv, pl, hz⟩ := I.tuple hq
  refine Calls.call_function_entry (by decide +kernel) (by decide +kernel) PySem.W.kdk_entry_iter (PySem.W.kdk_args_iter _) ?_
  unfold Builtin.«iter»
  refine wpAny_bind (m := PySem.someArgs "iter" 1 2 _) (wpAny_of_eq (a := [Value.ref t]) (by first | rfl | kernel_rfl!) ?_)
  show wpAny _ _ (pyIter (.ref t) >>= _) _ _ _
  refine wpAny_bind (wpAny_pyIter_tuple (show s.heap.IsTuple t its.toArray from pl) ?_)
  refine wpAny_pure ⟨_, rfl, ?_⟩
  exact ⟨.ref s.heap.objs.size, _, I.laid (t' := s.toks) (fun b u e => Heap.get?_push_of_some _ e) (Nat.le_refl _) (itT_ok (Heap.get?_push_size _ rfl)), rfl, q _ (I.hok.fresh (Nat.le_refl _)) (Nat.le_trans I.ok.bsz I.sz)⟩
def iOwnB (K : PySem.W.Frag) (C : Addr) (sp : Nat → Sp) (n : Nat) (te : TE) : TI := fun σ H R => te σ H fun x H1 => ∃ a dx fs, x = .ref a ∧ H1 a = some (.ins C dx fs) ∧ ∀ m, n ≤ m → sp m [.ref a] H1 (fun v H2 => ∃ it t, v = .ref it ∧ m ≤ it ∧ H2 it = some (ItT t it) ∧ R (Itt K t) (ItX.dropH H2 it)) E0
theorem pi_ownB {tg e : Expr} {te : TE} (hm : Meth X.K C "__iter__" f) (F : ∀ b', X.K.In b' → b'.Ns mainGlobals X.mg → FnOk X.prog X.w X.K X.mg b' CX0 k f fd ps (sp b'.objs.size)) (hr : Room k X.A) (hb : Binds X.K fd ps []) (he : PE X e te) : PI X tg e (iOwnB X.K C sp X.s_0.heap.objs.size te) := by
  refine ⟨fun pins s σ H R I h => ?_⟩
  refine thn (he.run pins s σ H _ I h) fun u s1 ⟨x, H1, I1, rx, a, dx, fs, ex, ha, h⟩ => ?_
  subst ex
  cases rx
  obtain ⟨mA, J, _⟩ := ins_get I1.hok ha
  obtain ⟨od, J, _⟩ := J.look
  obtain ⟨m, hF⟩ := I1.fr
  refine PySem.W.owit_iter hF I1.ok.mod.kin J hm.at_ hm.fn ?_
  have e0 := I1.env0.pad
  have hn : X.s_0.heap.objs.size ≤ (L2.pad X.base (s1.heap.objs.size - X.base.objs.size)).objs.size := by
    rw [pad_size]
    have := I1.sz
    omega
  have F := F _ e0.mod.kin e0.mod.glob
  have h := h _ hn
  have hl : ([Value.ref a] ++ []).length = ps.length := by
    have := F.len _ _ _ _ h
    simpa using this
  have hb' := hb s1 [Value.ref a] I1.kIn hl
  rw [List.append_nil] at hb'
  refine wpAny_call (codeAny_mono (F.run X.A X.stack s1 H1 ⟨[Value.ref a], []⟩ [Value.ref a] [V.ref a] _ E0 hr e0 hb' (.cons rfl .nil) h) fun r s' hq => ?_)
  cases r with
  | error e => exact False.elim hq
  | ok fl =>
    cases fl with
    | next => exact False.elim hq
    | brk => exact False.elim hq
    | cont => exact False.elim hq
    | ret v =>
      obtain ⟨z, H2, os, bare, un, hok, rz, it, t, ez, new, hi, hR⟩ := hq
      subst ez
      cases rz
      have I2 : Inv X pins σ H2 s' := I1.call' os un hok bare (fun b z => absurd z (by simp))
      have st : s'.heap.get? it = some { cls := .type "tuple_iterator", data := .fields #[.ref t, .int 0 0] } := (I2.hok it _ hi).1
      have stt : s'.heap.IsTupleIter it t 0 := ⟨_, st, rfl, rfl⟩
      unfold PySem.W.OwitIt
      refine wpAny_specialOf (name := "__next__") (show s'.TypeIs (.ref it) "tuple_iterator" from ⟨_, st, rfl⟩) PySem.F.slot_tuple_iterator_next.lookup ?_
      refine ⟨it, [it], _, _, ItX.dropH H2 it, rfl, ItX.inv_drop I2 hi, turn_tuple t it, stt, fun b hb => ?_, hR⟩
      have e : b = it := by simpa using hb
      rw [e]
      exact ItX.inv_fp I2 hi (Nat.le_trans hn new)
end
end L2
namespace Qp
open PySem L2
theorem pss_never {X : Cx} {st : List Stmt} : PSs X st (fun _ _ _ => False) := ⟨fun _ _ _ _ _ _ h => h.elim⟩
theorem valV_rows_some {ad : Str → Addr} {ps : List Str} {z : Str} : (valV (ps.map fun a => ((Sum.inr a : Key), V.ref (ad a))) (Sum.inr z)).isSome = decide (z ∈ ps) := by
  by_cases h : z ∈ ps
  · rw [valV_rows h, decide_eq_true h]
    rfl
  · rw [valV_rows_none h, decide_eq_false h]
    rfl
theorem valV_rnk_some {ss : List Str} {z : Str} : (valV (ss.zipIdx.map fun q => ((Sum.inr q.1 : Key), V.int (q.2 : Nat))) (Sum.inr z)).isSome = decide (z ∈ ss) := by
  by_cases h : z ∈ ss
  · rw [decide_eq_true h]
    have : ∀ (ss : List Str) (k : Nat), z ∈ ss → (valV ((ss.zipIdx k).map fun q => ((Sum.inr q.1 : Key), V.int (q.2 : Nat))) (Sum.inr z)).isSome = true := fun ss => by
      induction ss with
      | nil => intro k h; cases h
      | cons b r ih =>
        intro k h
        rw [List.zipIdx_cons, List.map_cons]
        by_cases e : b = z
        · rw [valV_pos (by rw [e])]
          rfl
        · rw [valV_neg (fun q => e (Sum.inr.inj q))]
          rcases List.mem_cons.mp h with q | q
          · exact absurd q.symm e
          · exact ih _ q
    exact this ss 0 h
  · rw [valV_rnk_none h, decide_eq_false h]
    rfl
theorem valV_rnk_at : ∀ {ss : List Str} {k i : Nat} {z : Str}, ss.Nodup → ss[i]? = some z → valV ((ss.zipIdx k).map fun q => ((Sum.inr q.1 : Key), V.int (q.2 : Nat))) (Sum.inr z) = some (.int ((k + i : Nat) : Int))
  | [], _, _, _, _, h => by simp at h
  | b :: r, k, i, z, hn, h => by
    obtain ⟨h1, h2⟩ := List.nodup_cons.mp hn
    rw [List.zipIdx_cons, List.map_cons]
    cases i with
    | zero =>
      have e : b = z := Option.some.inj h
      rw [valV_pos (by rw [e])]
      rfl
    | succ i =>
      rw [List.getElem?_cons_succ] at h
      have e : b ≠ z := fun e => h1 (e ▸ List.mem_of_getElem? h)
      rw [valV_neg (fun q => e (Sum.inr.inj q)), valV_rnk_at h2 h]
      congr 3
      omega
theorem inS_no {x : V} {ss : List Str} (h : ∀ z, x ≠ .str z) : inS x ss = false := by
  cases e : inS x ss with
  | false => rfl
  | true =>
    obtain ⟨z, _, e⟩ := inS_iff.mp e
    exact absurd e (h z)
theorem nPeople : ¬ ("_has" : Str) = "_people" := by decide +kernel
section
variable {P : Program} {w : World} {K : PySem.W.Frag} {mg : Str → Option Value} {base : Heap}
/-- Group._has(self, value) -/
def spHasG (K : PySem.W.Frag) (C : Addr) : Sp := fun vs H Q _ => ∃ (p : Addr) (x : V) (ps : List Str) (ws : Str → List Str), vs = [.ref p, x] ∧ GroupAt C H p ps ws ∧ (((∃ k, IsK H x k) ∧ Q (.bl (inS x ps)) H) ∨ (NotS K H x ∧ Q (.bl false) H))
theorem ok_hasG {f C : Addr} {fd : FuncData} (F : Fun K "_has" "Group._has" sGrouphas f fd) (B : Bl mg) (T : GTxt K mg C) : FnOk P w K mg base CX0 1 f fd ["self", "value"] (spHasG K C) := by
  refine F.ok scGrouphas (fun vs H Q E h => ?_) (fun cdv A outer s H vs Q E hr h => ?_)
  · obtain ⟨p, x, ps, ws, rfl, _⟩ := h
    rfl
  · obtain ⟨p, x, ps, ws, rfl, ⟨dx, a, d1, d2, d3, hp, ha, ⟨ad, e1, r1⟩, _⟩, kq⟩ := h
    have hu := hu_of hr
    refine ⟨_, pss_one (ps_ret (pe_and (pe_isiS B.isi B.str (pv 1)) (pe_one (pe_cmp (pc_din hu (pv 1) (pe_fld (pv 0) rfl)) rfl)))), ?_⟩
    rcases kq with ⟨⟨k, ik⟩, kq⟩ | ⟨hx, kq⟩
    · cases ik with
      | str z =>
        refine ⟨_, rfl, .inl ⟨_, .str, rfl, .str z, _, rfl, iteT ⟨_, rfl, _, rfl, p, C, dx, _, _, rfl, hp, T.cl, T.n2, gF_wishes _ _ _ _, d1, _, rfl, DGet.k (k := Sum.inr z) e1, ?_⟩⟩⟩
        rw [valV_rows_some, ← inS_str]
        exact kq
      | non => exact ⟨_, rfl, .inl ⟨_, _, rfl, .non, _, rfl, iteF (by rw [inS_no (by intro z h; cases h)] at kq; exact kq)⟩⟩
      | bl b => exact ⟨_, rfl, .inl ⟨_, _, rfl, .bl b, _, rfl, iteF (by rw [inS_no (by intro z h; cases h)] at kq; exact kq)⟩⟩
      | int b => exact ⟨_, rfl, .inl ⟨_, _, rfl, .int b, _, rfl, iteF (by rw [inS_no (by intro z h; cases h)] at kq; exact kq)⟩⟩
      | lst h => exact ⟨_, rfl, .inl ⟨_, _, rfl, .lst h, _, rfl, iteF (by rw [inS_no (by intro z h; cases h)] at kq; exact kq)⟩⟩
      | tup h => exact ⟨_, rfl, .inl ⟨_, _, rfl, .tup h, _, rfl, iteF (by rw [inS_no (by intro z h; cases h)] at kq; exact kq)⟩⟩
      | dct h => exact ⟨_, rfl, .inl ⟨_, _, rfl, .dct h, _, rfl, iteF (by rw [inS_no (by intro z h; cases h)] at kq; exact kq)⟩⟩
    · exact ⟨_, rfl, .inr ⟨x, rfl, hx, _, rfl, iteF kq⟩⟩
/-- a method that is called -/
structure MF (P : Program) (w : World) (K : PySem.W.Frag) (mg : Str → Option Value) (base : Heap) (k : Nat) (C : Addr) (m : Str) (ps : List Str) (sp : Sp) : Prop where
  ex : ∃ f fd, FnOk P w K mg base CX0 k f fd ps sp ∧ Meth K C m f ∧ Binds K fd ps []
/-- Group.__contains__(self, x) -/
def spCon (K : PySem.W.Frag) (C : Addr) : Sp := fun vs H Q _ => ∃ (p : Addr) (x : V) (ps : List Str) (ws : Str → List Str), vs = [.ref p, x] ∧ GroupAt C H p ps ws ∧
  ((NotU K H x ∧ NotS K H x ∧ Q (.bl false) H) ∨ ∃ t y v, x = .ref t ∧ H t = some (.tup [.str y, v]) ∧ y ∈ ps ∧ (∃ k, IsK H v k) ∧ Q (.bl (inS v ps && inS v (opn ws y))) H)
theorem ok_con {f C : Addr} {fd : FuncData} (F : Fun K "__contains__" "Group.__contains__" sGroupcontains f fd) (B : Bl mg) (T : GTxt K mg C) (mH : MF P w K mg base 1 C "_has" ["self", "value"] (spHasG K C)) : FnOk P w K mg base CX0 2 f fd ["self", "x"] (spCon K C) := by
  obtain ⟨fH, fdH, FH, MH, bH⟩ := mH.ex
  refine F.ok scGroupcontains (fun vs H Q E h => ?_) (fun cdv A outer s H vs Q E hr h => ?_)
  · obtain ⟨p, x, ps, ws, rfl, _⟩ := h
    rfl
  · obtain ⟨p, x, ps, ws, rfl, hG, kq⟩ := h
    have hu := hu_of hr
    refine ⟨_, pss_cons (ps_if (PW.pt (pw_and (pt_val (pe_isiU B.isi B.tup (pv 1))) (pw_and1 (pt_cmpR op_eq (pe_callB call_len_seq (by rfl) B.len PySem.boot_len (pa_cons (pv 1) pa_nil)) pe_int (nomark _)))))
        (pss_one (ps_ret (pe_and (pe_meth (pv 0) T.cl MH FH hr bH .nil pass0 (pa_cons (pe_ix ix_tup (pv 1) pe_int (fun _ _ => rfl)) pa_nil)) (pe_and (pe_meth (pv 0) T.cl MH FH hr bH .nil pass0 (pa_cons (pe_ix ix_tup (pv 1) pe_int (fun _ _ => rfl)) pa_nil))
          (pe_one (pe_cmp (pc_din hu (pe_ix ix_tup (pv 1) pe_int (fun _ _ => rfl)) (pe_dget hu (pe_fld (pv 0) rfl) (pe_ix ix_tup (pv 1) pe_int (fun _ _ => rfl)) (fun _ _ => rfl))) rfl)))))) pss_nil)
      (pss_one (ps_ret (pe_meth (pv 0) T.cl MH FH hr bH .nil pass0 (pa_cons (pv 1) pa_nil)))), ?_⟩
    have hG2 := hG
    obtain ⟨dx, a, d1, d2, d3, hp, ha, r1, r2, ⟨ad, e3, r3⟩⟩ := hG2
    have nm : (gF a d1 d2 d3).lookup ("_has" : Str) = none := gF_no _ _ _ _ (by decide +kernel) (by decide +kernel) (by decide +kernel) (by decide +kernel)
    rcases kq with ⟨hU, hS, kq⟩ | ⟨t, y, v, rfl, ht, hy, hv, kq⟩
    · refine ⟨_, rfl, .inr ⟨x, rfl, hU, _, rfl, iteF (iteF ?_)⟩⟩
      exact ⟨_, rfl, p, dx, _, rfl, hp, nm, _, rfl, p, x, ps, ws, rfl, hG, .inr ⟨hS, kq⟩⟩
    · refine ⟨_, rfl, .inl ⟨_, .tup, rfl, .tup ht, _, rfl, iteT ⟨_, rfl, t, _, rfl, .inr (SqT.of ht), rfl, _, rfl, ?_⟩⟩⟩
      refine (if_pos (by show decide (V.int (([V.str y, v] : List V).length : Int) = V.int 2) = true; exact decide_eq_true rfl)).mpr ?_
      refine ⟨_, rfl, p, dx, _, rfl, hp, nm, _, rfl, t, _, 0, .str y, rfl, rfl, SqT.of ht, rfl, p, .str y, ps, ws, rfl, hG, .inl ⟨⟨_, .str y⟩, _, rfl, ?_⟩⟩
      rw [inS_str, decide_eq_true hy]
      refine iteT ⟨_, rfl, p, dx, _, rfl, hp, nm, _, rfl, t, _, 1, v, rfl, rfl, SqT.of ht, rfl, p, v, ps, ws, rfl, hG, .inl ⟨hv, _, rfl, ?_⟩⟩
      cases ev : inS v ps with
      | false =>
        rw [ev, Bool.false_and] at kq
        exact iteF kq
      | true =>
        rw [ev, Bool.true_and] at kq
        obtain ⟨z, hz, rfl⟩ := inS_iff.mp ev
        refine iteT ⟨_, rfl, t, _, 1, .str z, rfl, rfl, SqT.of ht, rfl, _, rfl, p, C, dx, _, _, rfl, hp, T.cl, T.n4, gF_ranks _ _ _ _, _, rfl, t, _, 0, .str y, rfl, rfl, SqT.of ht, rfl, d3, _, rfl, by rw [← valV_rows (ad := ad) hy]; exact DGet.k (k := Sum.inr y) e3, ad y, _, rfl, DGet.k (k := Sum.inr z) (r3 y hy).1, ?_⟩
        rw [valV_rnk_some, ← inS_str]
        exact kq
/-- Group.people(self) -/
def spPeople (C : Addr) : Sp := fun vs H Q _ => ∃ (p : Addr) (ps : List Str) (ws : Str → List Str), vs = [.ref p] ∧ GroupAt C H p ps ws ∧ ∀ l, H l = none → Q (.ref l) (upd H l (.lst (ps.map V.str)))
theorem ok_people {f C : Addr} {fd : FuncData} (F : Fun K "people" "Group.people" sGrouppeople f fd) (B : Bl mg) (T : GTxt K mg C) : FnOk P w K mg base CX0 1 f fd ["self"] (spPeople C) := by
  refine F.ok scGrouppeople (fun vs H Q E h => ?_) (fun cdv A outer s H vs Q E hr h => ?_)
  · obtain ⟨p, ps, ws, rfl, _⟩ := h
    rfl
  · obtain ⟨p, ps, ws, rfl, ⟨dx, a, d1, d2, d3, hp, ha, _⟩, kq⟩ := h
    refine ⟨_, pss_one (ps_ret (pe_callTy call_list_of (by rfl) B.lst (by decide +kernel) (pa_cons (pe_fld (pv 0) rfl) pa_nil))), ?_⟩
    exact ⟨_, rfl, p, C, dx, _, _, rfl, hp, T.cl, T.n1, gF_people _ _ _ _, a, _, rfl, .inr (SqT.of ha), kq⟩
/-- Group.__iter__(self) -/
def spIter (C : Addr) (m : Nat) : Sp := fun vs H Q _ => ∃ (p : Addr) (ps : List Str) (ws : Str → List Str), vs = [.ref p] ∧ GroupAt C H p ps ws ∧ ∀ (it a : Addr), H a = some (.tup (ps.map V.str)) → H it = none → m ≤ it → Q (.ref it) (upd H it (ItT a it))
theorem ok_iter {f C : Addr} {fd : FuncData} (F : Fun K "__iter__" "Group.__iter__" sGroupiter f fd) (B : Bl mg) (T : GTxt K mg C) : FnOk P w K mg base CX0 1 f fd ["self"] (spIter C base.objs.size) := by
  refine F.ok scGroupiter (fun vs H Q E h => ?_) (fun cdv A outer s H vs Q E hr h => ?_)
  · obtain ⟨p, ps, ws, rfl, _⟩ := h
    rfl
  · obtain ⟨p, ps, ws, rfl, ⟨dx, a, d1, d2, d3, hp, ha, _⟩, kq⟩ := h
    refine ⟨_, pss_one (ps_ret (pe_callB call_iterTN (by rfl) B.iter (by decide +kernel) (pa_cons (pe_fld (pv 0) rfl) pa_nil))), ?_⟩
    exact ⟨_, rfl, p, C, dx, _, _, rfl, hp, T.cl, T.n1, gF_people _ _ _ _, a, _, rfl, SqT.of ha, fun it h1 h2 => kq it a ha h1 h2⟩
end
end Qp
namespace L2
open PySem PySem.Spec PyProof.Rows
/-- a walk's turns, any body -/
theorem it_gen {J : It} {n : Nat} {G : Hp → Prop} {Y : Nat → Hp → V → Hp → Prop} (w : Walk J n G Y) {H0 : Hp} {Qd : Hp → Prop} {body : V → Hp → (Hp → Prop) → Prop} (Pv : Nat → Hp → Prop) (h0 : Pv 0 H0) (hG : ∀ i H, i ≤ n → Pv i H → G H)
    (hs : ∀ i x H H', i < n → Pv i H → Y i H x H' → body x H' (Pv (i + 1))) (hd : ∀ H, Pv n H → Qd H) :
    ∃ W : Nat → Nat → Hp → Prop, (∃ m, W 0 m H0) ∧ ∀ i m H, W i m H → (J.stop i H ∧ Qd H) ∨ (J.go i H ∧ ∃ Nx : Hp → Prop, (∀ H', Nx H' → ∃ m', m' < m ∧ W (i + 1) m' H') ∧ ∀ x H', J.yld i H x H' → body x H' Nx) := by
  refine ⟨fun i m H => m = n - i ∧ i ≤ n ∧ Pv i H, ⟨n, by simp, Nat.zero_le _, h0⟩, ?_⟩
  rintro i m H ⟨rfl, hi, p⟩
  have q := hG i H hi p
  by_cases hlt : i < n
  · exact .inr ⟨w.goes i H hlt q, Pv (i + 1), fun H' p' => ⟨n - (i + 1), by omega, rfl, hlt, p'⟩, fun x H' y => hs i x H H' hlt p (w.yields i H x H' hlt q y)⟩
  · have e : i = n := by omega
    subst e
    exact .inl ⟨w.stops H q, hd H p⟩
section
variable {X : Cx} {K : PySem.W.Frag}
theorem pe_fldK {e : Expr} {f : Str} {ta : TE} {pos : Pos} (hK : X.K = K) (he : PE X e ta) (hb : attributeBase e f X.env (eval e X.env) = eval e X.env) : PE X (.Attribute e f pos) (tFld K ta f) := by
  subst hK
  exact pe_fld he hb
end
theorem yesTurn {σ : St} {H : Hp} {A B : Hp → Prop} (h : A H) : tYes σ H (fun b H3 => if b = true then A H3 else B H3) := h
/-- pairs of texts that stand in a list -/
def PairsAt (H : Hp) (l : Addr) (zs : List (Str × Str)) : Prop := ∃ (ys : List V) (k : V → Str × Str), H l = some (.lst ys) ∧ (∀ y ∈ ys, ∃ t, y = .ref t ∧ H t = some (.tup [.str (k y).1, .str (k y).2])) ∧ ys.map k = zs
theorem PairsAt.same {H H' : Hp} (s : Same H H') {l : Addr} {zs : List (Str × Str)} (h : PairsAt H l zs) : PairsAt H' l zs := by
  obtain ⟨ys, k, e, q, r⟩ := h
  refine ⟨ys, k, s _ _ e, fun y hy => ?_, r⟩
  obtain ⟨t, e1, e2⟩ := q y hy
  exact ⟨t, e1, s _ _ e2⟩
theorem PairsAt.nil {H : Hp} {l : Addr} (h : H l = some (.lst [])) : PairsAt H l [] := ⟨[], fun _ => ("", ""), h, (fun _ h => by cases h), rfl⟩
/-- what stands but for the list -/
theorem PairsAt.snoc {H : Hp} {l T : Addr} {zs : List (Str × Str)} {a b : Str} (h : PairsAt H l zs) (hT : H T = none) : ∃ ys, (upd H T (.tup [.str a, .str b])) l = some (.lst ys) ∧ ys.length = zs.length ∧
    PairsAt (upd (upd H T (.tup [.str a, .str b])) l (.lst (ys ++ [.ref T]))) l (zs ++ [(a, b)]) := by
  obtain ⟨ys, k, e, q, r⟩ := h
  have nlT : l ≠ T := ne_of_none e hT
  refine ⟨ys, by rw [upd_ne nlT]; exact e, by rw [← r, List.length_map], ys ++ [.ref T], fun y => if y = .ref T then (a, b) else k y, upd_same, fun y hy => ?_, ?_⟩
  · rcases List.mem_append.mp hy with z | z
    · obtain ⟨t, rfl, e2⟩ := q y z
      have n1 : t ≠ T := ne_of_none e2 hT
      have n2 : t ≠ l := ne_of e2 e (by intro z; cases z)
      have n3 : ¬ (V.ref t = V.ref T) := fun z => n1 (V.ref.inj z)
      refine ⟨t, rfl, ?_⟩
      rw [upd_ne n2, upd_ne n1]
      show H t = some (.tup [.str (if V.ref t = V.ref T then (a, b) else k (.ref t)).1, .str (if V.ref t = V.ref T then (a, b) else k (.ref t)).2])
      rw [if_neg n3]
      exact e2
    · have ey : y = .ref T := by simpa using z
      subst ey
      refine ⟨T, rfl, ?_⟩
      rw [upd_ne (Ne.symm nlT), upd_same]
      show some (HO.tup [.str a, .str b]) = some (.tup [.str (if V.ref T = V.ref T then (a, b) else k (.ref T)).1, .str (if V.ref T = V.ref T then (a, b) else k (.ref T)).2])
      rw [if_pos rfl]
  · rw [List.map_append, ← r]
    congr 1
    · refine List.map_congr_left fun y hy => ?_
      obtain ⟨t, rfl, e2⟩ := q y hy
      have n1 : t ≠ T := ne_of_none e2 hT
      exact if_neg fun z => n1 (V.ref.inj z)
    · show [if V.ref T = V.ref T then (a, b) else k (.ref T)] = [(a, b)]
      rw [if_pos rfl]
/-- zs in order -/
abbrev ltZ (p q : Str × Str) : Bool := QP.lexS (p.1.cps.toList, p.2.cps.toList) (q.1.cps.toList, q.2.cps.toList)
def SortP (zs zs' : List (Str × Str)) : Prop := SrtO.Srtd ltZ zs' ∧ SrtO.Stb ltZ zs' zs
theorem ltZ_swo : SrtO.Swo ltZ := QP.lexS_swo fun p : Str × Str => (p.1.cps.toList, p.2.cps.toList)
theorem SortP.uniq {zs z1 z2 : List (Str × Str)} (h1 : SortP zs z1) (h2 : SortP zs z2) : z1 = z2 :=
  SrtO.stb_uniq ltZ_swo h1.1 h2.1 (h1.2.trans ⟨h2.2.perm.symm, fun x => (h2.2.cls x).symm⟩)
/-- sorted(xs), xs the pairs zs -/
theorem sortP_read {K : PySem.W.Frag} {H : Hp} {l : Addr} {zs : List (Str × Str)} {Q : VK} (h : PairsAt H l zs) (hq : ∀ (p : Addr) (H' : Hp) (zs' : List (Str × Str)), Same H H' → SortP zs zs' → PairsAt H' p zs' → Q (.ref p) H') : rSortedPS K [.ref l] H Q := by
  obtain ⟨ys, k, e, q, r⟩ := h
  refine ⟨l, ys, k, rfl, SqL.of e, q, fun zs' p h1 h2 hp => ?_⟩
  have s : Same H (upd H p (.lst zs')) := Same.new hp
  refine hq p _ (zs'.map k) s ⟨?_, ?_⟩ ⟨zs', k, upd_same, fun y hy => ?_, rfl⟩
  · exact SrtO.srtd_map h1
  · rw [← r]
    exact SrtO.Stb.map ltZ_swo k h2
  · obtain ⟨t, e1, e2⟩ := q y (h2.perm.mem_iff.mp hy)
    exact ⟨t, e1, s _ _ e2⟩
end L2
namespace Qp
open PySem L2
def pr (ws : Str → List Str) (a : Str) : List (Str × Str) := ((opn ws a).filter fun b => decide (a.cps.toList < b.cps.toList)).map fun b => (a, b)
def prs (ps : List Str) (ws : Str → List Str) : List (Str × Str) := ps.flatMap (pr ws)
theorem pr_len {ws : Str → List Str} {a : Str} (h : (ws a).length ≤ 1000) : (pr ws a).length ≤ 1000 := by
  unfold pr
  rw [List.length_map]
  exact Nat.le_trans (List.length_filter_le _ _) (Nat.le_trans (List.length_filter_le _ _) h)
theorem prs_len {ws : Str → List Str} : ∀ {ps : List Str}, (∀ a ∈ ps, (ws a).length ≤ 1000) → (prs ps ws).length ≤ ps.length * 1000
  | [], _ => Nat.zero_le _
  | a :: ps, h => by
    have ih := prs_len (ps := ps) fun b hb => h b (List.mem_cons_of_mem _ hb)
    have h1 := pr_len (h a List.mem_cons_self)
    show (pr ws a ++ prs ps ws).length ≤ (ps.length + 1) * 1000
    rw [List.length_append]
    omega
theorem prs_snoc {ws : Str → List Str} {ps : List Str} {a : Str} : prs (ps ++ [a]) ws = prs ps ws ++ pr ws a := by
  unfold prs
  rw [List.flatMap_append]
  simp
theorem GroupAt.same {C : Addr} {H H' : Hp} (s : Same H H') {p : Addr} {ps : List Str} {ws : Str → List Str} (h : GroupAt C H p ps ws) : GroupAt C H' p ps ws := by
  obtain ⟨dx, a, d1, d2, d3, hp, ha, r1, r2, r3⟩ := h
  exact ⟨dx, a, d1, d2, d3, s _ _ hp, s _ _ ha, r1.same s, r2.same s, r3.same s⟩
section
variable {P : Program} {w : World} {K : PySem.W.Frag} {mg : Str → Option Value} {base : Heap}
end
end Qp
namespace Qp
open PySem L2
section
variable {P : Program} {w : World} {K : PySem.W.Frag} {mg : Str → Option Value} {base : Heap}
/-- _law_copy -/
def spCopy : Sp := fun vs H Q _ => ∃ (d : Addr) (qs : List Str) (ws : Str → List Str), vs = [.ref d] ∧ RowsG H d qs (fun a => lstO (ws a)) ∧ qs.Nodup ∧ qs.length ≤ 1000 ∧ ∀ D H', Same H H' → RowsG H' D qs (fun a => lstO (ws a)) → Q (.ref D) H'
theorem ok_copy {f : Addr} {fd : FuncData} (F : Fun K "_law_copy" "_law_copy" sLcopy f fd) (B : Bl mg) : FnOk P w K mg base CX0 1 f fd ["_law_wishes_here"] spCopy := by
  refine F.ok scLcopy (fun vs H Q E h => ?_) (fun cdv A outer s H vs Q E hr h => ?_)
  · obtain ⟨d, qs, ws, rfl, _⟩ := h
    rfl
  · obtain ⟨d, qs, ws, rfl, hR, hnd, hlen, kq⟩ := h
    have hu := hu_of hr
    have esz : sizeLine = 16777216 := sizeLine_eq
    refine ⟨_, pss_cons (ps_set (i := 1) scLcopy.nd rfl (Or.inl rfl) pe_dnewK)
      (pss_cons (ps_lock (ps_for PassesOwn.never rfl (pi_keys (pv 0)) (pg_name (i := 2) scLcopy.nd rfl (Or.inl rfl)) (pss_one (ps_dput hu (pv 1) (pv 2) (pe_callTy call_list_of (by rfl) B.lst (by decide +kernel) (pa_cons (pe_dget hu (pv 0) (pv 2) (fun _ _ => rfl)) pa_nil)) rfl))))
      (pss_one (ps_ret (pv 1)))), ?_⟩
    refine fun D hD => ?_
    have s0 : Same H (upd H D (.dK [])) := Same.new hD
    have R0 : RowsG (upd H D (.dK [])) D [] (fun a => lstO (ws a)) := RowsG.nil upd_same
    have hR0 := hR.same s0
    have nDd : d ≠ D := by
      obtain ⟨ad, e, _⟩ := hR
      exact ne_of_none e hD
    generalize upd H D (.dK []) = H0 at s0 R0 hR0
    obtain ⟨ad, hd, hrows⟩ := hR0
    refine ⟨d, _, hd, True.intro, fun od => ?_⟩
    have sl : ∀ b o, b ≠ d → H0 b = some o → (upd H0 d (.frz od (.dK (qs.map fun a => (Sum.inr a, V.ref (ad a)))))) b = some o := fun b o n e => by rw [upd_ne n]; exact e
    have R1 : RowsG (upd H0 d (.frz od (.dK (qs.map fun a => (Sum.inr a, V.ref (ad a)))))) D [] (fun a => lstO (ws a)) := by
      obtain ⟨ad2, e, _⟩ := R0
      exact RowsG.nil (by rw [upd_ne (Ne.symm nDd)]; exact e)
    generalize hL : upd H0 d (.frz od (.dK (qs.map fun a => (Sum.inr a, V.ref (ad a))))) = HL at sl R1
    have hf : HL d = some (.frz od (.dK (qs.map fun a => (Sum.inr a, V.ref (ad a))))) := by rw [← hL]; exact upd_same
    refine ⟨_, rfl, d, od, rfl, .inl ⟨_, hf, for_it walk_keys (fun i σ H' => ∃ v2 : Option V, σ = [some (.ref d), some (.ref D), v2] ∧ SameBut D HL H' ∧ RowsG H' D (qs.take i) (fun a => lstO (ws a))) ⟨none, rfl, SameBut.refl _ _, R1⟩ (fun i σ H' _ ⟨_, _, z, _⟩ => z _ _ nDd hf) ?_ ?_⟩⟩
    · rintro i x σ Hx H1 hi ⟨v2, rfl, s1, R⟩ ⟨rfl, k, v, hk, rfl⟩
      rw [List.length_map] at hi
      rw [List.getElem?_map] at hk
      cases ea : qs[i]? with
      | none => rw [ea] at hk; cases hk
      | some a =>
        rw [ea] at hk
        cases hk
        have haq : a ∈ qs := List.mem_of_getElem? ea
        have nad : ad a ≠ D := by
          obtain ⟨ad2, e, _⟩ := R0
          exact ne_of (hrows a haq).1 e (by intro z; cases z)
        have g2 : H1 (ad a) = some (lstO (ws a)) := s1 _ _ nad (sl _ _ (hrows a haq).2 (hrows a haq).1)
        refine ⟨_, rfl, _, rfl, d, _, rfl, .inl ⟨_, Sum.inr a, .inr ⟨od, s1 _ _ nDd hf⟩, rfl, (valV_rows haq).symm⟩, ad a, (ws a).map V.str, rfl, .inl (SqL.of g2), fun L hL2 => ?_⟩
        have hLD : L ≠ D := by
          obtain ⟨ad2, e2, _⟩ := R
          intro z
          rw [z, e2] at hL2
          cases hL2
        obtain ⟨kv2, h1, h2, h3⟩ := R.snoc (Same.new (o := .lst ((ws a).map V.str)) hL2) (not_mem_take hnd ea) (p := L) upd_same hLD
        refine ⟨_, rfl, _, rfl, D, _, rfl, DPut.k (k := Sum.inr a) h1 (by rw [h2, List.length_take]; omega), _, rfl, fun b o hb e => ?_, ?_⟩
        · rw [upd_ne hb, upd_ne (ne_of_none (s1 _ _ hb e) hL2)]
          exact s1 _ _ hb e
        · rw [take_snoc ea]
          exact h3
    · rintro σ H1 ⟨v2, rfl, s1, R⟩
      rw [List.length_map, List.take_of_length_le (Nat.le_refl _)] at R
      refine ⟨s1 _ _ nDd hf, _, rfl, kq D _ (fun b o e => ?_) ?_⟩
      · have nbD : b ≠ D := ne_of_none e hD
        by_cases hb : b = d
        · rw [hb, upd_same]
          rw [hb] at e
          have := s0 _ _ e
          rw [hd] at this
          exact this
        · rw [upd_ne hb]
          exact s1 _ _ nbD (sl b o hb (s0 _ _ e))
      · obtain ⟨ad2, e2, q2⟩ := R
        refine ⟨ad2, by rw [upd_ne (Ne.symm nDd)]; exact e2, fun a ha => ⟨?_, (q2 a ha).2⟩⟩
        have hne : ad2 a ≠ d := fun z => by
          have q := (q2 a ha).1
          rw [z, s1 _ _ nDd hf] at q
          cases q
        rw [upd_ne hne]
        exact (q2 a ha).1
end
/-- nothing is bad -/
theorem badFrom_ok {ok : V → Bool} : ∀ {l pre : List V}, (∀ x ∈ l, ok x = true) → (pre ++ l).Nodup → badFrom ok pre l = none
  | [], _, _, _ => rfl
  | x :: r, pre, h, hn => by
    have hx : x ∉ pre := fun z => by
      obtain ⟨_, _, h3⟩ := List.nodup_append.mp hn
      exact h3 x z x List.mem_cons_self rfl
    have e : pre.contains x = false := by
      cases e : pre.contains x with
      | false => rfl
      | true => exact absurd (by simpa using e) hx
    rw [badFrom_cons, h x List.mem_cons_self, e]
    show (if true = true then badFrom ok (pre ++ [x]) r else some pre.length) = none
    rw [if_pos rfl]
    refine badFrom_ok (fun y hy => h y (List.mem_cons_of_mem _ hy)) ?_
    rw [List.append_assoc]
    exact hn
theorem nodup_str {zs : List Str} (h : zs.Nodup) : (zs.map V.str).Nodup := List.Pairwise.map V.str (fun a b h e => h (V.str.inj e)) h
theorem due_ok {ns : List Str} (hn : ns.Nodup) (hm : ∀ z ∈ ns, nameS z = true) (hl : ns.length ≤ 16) : dueP (some (ns.map V.str)) = none := by
  unfold dueP
  simp only [List.length_map, if_pos hl]
  rw [badFrom_ok (fun x hx => ?_) (by rw [List.nil_append]; exact nodup_str hn)]
  · rfl
  · obtain ⟨z, hz, rfl⟩ := List.mem_map.mp hx
    exact hm z hz
theorem okW_of {ns : List Str} {p : Str} {ws : List Str} (g : GRow ns p ws) : okW ns p (some (ws.map V.str)) = true := by
  refine decide_eq_true ?_
  rw [badFrom_ok (fun x hx => ?_) (by rw [List.nil_append]; exact nodup_str g.1)]
  · rfl
  · obtain ⟨z, hz, rfl⟩ := List.mem_map.mp hx
    obtain ⟨h1, h2⟩ := g.2 z hz
    exact inS_iff.mpr ⟨z, List.mem_filter.mpr ⟨h1, by rw [decide_eq_false h2]; rfl⟩, rfl⟩
theorem hasB_of {ad : Str → Addr} {order ns : List Str} (hp : order.Perm ns) : hasB (order.map fun a => ((Sum.inr a : Key), V.ref (ad a))) ns = true := by
  unfold hasB
  rw [decide_eq_true (by rw [List.length_map]; exact hp.length_eq), Bool.true_and, List.all_eq_true]
  intro z hz
  rw [valV_rows (hp.mem_iff.mpr hz)]
  rfl
theorem rows_congr {H : Hp} {d : Addr} {ps : List Str} {ws ws' : Str → List Str} (h : RowsG H d ps (fun a => lstO (ws a))) (e : ∀ a ∈ ps, ws' a = ws a) : RowsG H d ps (fun a => lstO (ws' a)) := by
  obtain ⟨ad, e1, q⟩ := h
  refine ⟨ad, e1, fun a ha => ?_⟩
  show H (ad a) = some (lstO (ws' a)) ∧ ad a ≠ d
  rw [e a ha]
  exact q a ha
end Qp
namespace L2
open PySem PySem.Spec PyProof.Rows
section
variable {X : Cx} {CX : CXT} {k : Nat} {f C : Addr} {fd : FuncData} {ps : List Str} {sp : Sp} {dvs : List V} {ds : List Value} {E : St → XK} {x : Str} {p pos : Pos} {e : Expr} {es : List Expr} {t : TA}
/-- C(..), what is raised wished for at the caller's slots -/
def tMakeS (C : Addr) (sp : Sp) (dvs : List V) (E : St → XK) (t : TA) : TE := fun σ H Q => t σ H fun vs H1 => ∀ x dx, H1 x = none → H1 dx = none → dx ≠ x →
  sp (.ref x :: (vs ++ dvs)) (upd (upd H1 dx (.own x)) x (.ins C dx [])) (fun v H2 => v = .non ∧ Q (.ref x) H2) (E σ)
theorem run_makeS {pins : List (Addr × Obj)} {σ : St} {H : Hp} {s : Shared} {Q : VK} {us : List Value} {vs : List V} (M : Mk X.K C f) (F : FnOk X.prog X.w X.K X.mg X.base CX k f fd ps sp) (hr : Room (k + 1) X.A) (hb : Binds X.K fd ps ds) (hd : Vals dvs ds)
    (hx : ∀ σ, PassesAt CX X σ (E σ)) (I : Inv X pins σ H s) (r : Vals vs us)
    (h : ∀ x dx, H x = none → H dx = none → dx ≠ x → sp (.ref x :: (vs ++ dvs)) (upd (upd H dx (.own x)) x (.ins C dx [])) (fun v H2 => v = .non ∧ Q (.ref x) H2) (E σ)) :
    wpAny (model X.prog X.w) X.A (call (.ref C) us) (EP X pins σ Q) X.xe s := by
  have hq := h (s.heap.objs.size + 1) s.heap.objs.size (I.hok.fresh (Nat.le_succ _)) (I.hok.fresh (Nat.le_refl _)) (Nat.ne_of_lt (Nat.lt_succ_self _))
  have I2 := Inv.made (C := C) I
  have r2 : Vals (V.ref (s.heap.objs.size + 1) :: (vs ++ dvs)) (Value.ref (s.heap.objs.size + 1) :: (us ++ ds)) := .cons rfl (r.append hd)
  have hl : (Value.ref (s.heap.objs.size + 1) :: us ++ ds).length = ps.length := by
    have e := r2.length
    rw [F.len _ _ _ _ hq] at e
    exact e.symm
  refine wpAny_call (make_map (f := f) I.kIn M.makes M.init (beq_iff_eq.mp M.fn) (codeAny_mono (F.run _ X.stack _ _ ⟨Value.ref (s.heap.objs.size + 1) :: us, []⟩ (Value.ref (s.heap.objs.size + 1) :: (us ++ ds)) _ _ (E σ) (hr.make C us [])
    (I2.env0.make C us []) (hb _ (Value.ref (s.heap.objs.size + 1) :: us) I2.kIn hl) r2 hq) fun r s' hq' => ?_))
  cases r with
  | error e => exact hx σ pins _ _ e s' I2 hq'
  | ok fl =>
    cases fl with
    | ret u =>
      obtain ⟨v, H', I3, rv, ev, q3⟩ := I2.after hq'
      subst ev
      exact ⟨rv, ⟨V.ref (s.heap.objs.size + 1), H', I3, rfl, q3⟩⟩
    | next => exact False.elim hq'
    | brk => exact False.elim hq'
    | cont => exact False.elim hq'
theorem pe_makeS (M : Mk X.K C f) (F : FnOk X.prog X.w X.K X.mg X.base CX k f fd ps sp) (hr : Room (k + 1) X.A) (hg : Gl X x) (hm : X.mg x = some (.ref C)) (hb : Binds X.K fd ps ds) (hd : Vals dvs ds) (hx : ∀ σ, PassesAt CX X σ (E σ))
    (ha : PA X (e :: es) t) (hdb : (x == ("__debug__" : Str)) = false := by decide) (he : starEach (e :: es) X.env = (false, eval e X.env) :: starEach es X.env := by rfl) (hpl : (backTo pos (starEach es X.env)).any (·.1) = false := by rfl) :
    PE X (.Call (.Name x p) (e :: es) [] pos) (tMakeS C sp dvs E t) := by
  refine ⟨fun pins s σ H Q I h => ?_⟩
  refine wpAny_Call_Name_kw (ld_glob I hg hm ?_ hdb)
  refine PySem.W.callWith_K (h₀ := X.base) I.ok.mod.kin M.kp (thn (ha.run pos pins s σ H _ I h) fun us s1 ⟨vs, H1, I1, r, q⟩ => ⟨I1.kIn, ?_⟩) he hpl
  exact run_makeS M F hr hb hd hx I1 r q
end
end L2
namespace Qp
open PySem L2
structure Nm (ns : List Str) : Prop where
  nd : ns.Nodup
  nm : ∀ z ∈ ns, nameS z = true
  len : ns.length ≤ 16
theorem opn_congr {ns : List Str} {ws ws' : Str → List Str} (e : ∀ a ∈ ns, ws' a = ws a) (g : ∀ a ∈ ns, GRow ns a (ws a)) {a : Str} (ha : a ∈ ns) : opn ws' a = opn ws a := by
  unfold opn
  rw [e a ha]
  refine List.filter_congr fun b hb => ?_
  rw [e b ((g a ha).2 b hb).1]
theorem GroupAt.congr {C : Addr} {H : Hp} {p : Addr} {ns : List Str} {ws ws' : Str → List Str} (h : GroupAt C H p ns ws) (e : ∀ a ∈ ns, ws' a = ws a) (g : ∀ a ∈ ns, GRow ns a (ws a)) : GroupAt C H p ns ws' := by
  obtain ⟨dx, a, d1, d2, d3, hp, ha, ⟨a1, e1, r1⟩, ⟨a2, e2, r2⟩, a3, e3, r3⟩ := h
  refine ⟨dx, a, d1, d2, d3, hp, ha, ⟨a1, e1, fun q hq => ?_⟩, ⟨a2, e2, fun q hq => ?_⟩, a3, e3, fun q hq => ?_⟩
  · show H (a1 q) = some (lstO (ws' q)) ∧ _
    rw [e q hq]
    exact r1 q hq
  · show H (a2 q) = some (lstO (opn ws' q)) ∧ _
    rw [opn_congr e g hq]
    exact r2 q hq
  · show H (a3 q) = some (rnkO (opn ws' q)) ∧ _
    rw [opn_congr e g hq]
    exact r3 q hq
theorem lst_int (ss : List Str) (n z : Int) : lstO ss ≠ .lst [.int n, .int z] := by
  intro e
  unfold lstO at e
  have e := HO.lst.inj e
  cases ss with
  | nil => cases e
  | cons x r =>
    rw [List.map_cons] at e
    cases e
theorem RowsG.butS {H H' : Hp} {st : Addr} {n z : Int} (s : SameBut st H H') (hs : H st = some (.lst [.int n, .int z])) {d : Addr} {ps : List Str} {cnt : Str → HO} (R : RowsG H d ps cnt) (hc : ∀ a, cnt a ≠ .lst [.int n, .int z]) : RowsG H' d ps cnt := by
  obtain ⟨ad, e, q⟩ := R
  exact ⟨ad, s _ _ (ne_of e hs (by intro z; cases z)) e, fun a ha => ⟨s _ _ (ne_of (q a ha).1 hs (hc a)) (q a ha).1, (q a ha).2⟩⟩
theorem GroupAt.butS {C : Addr} {H H' : Hp} {st : Addr} {n z : Int} (s : SameBut st H H') (hs : H st = some (.lst [.int n, .int z])) {p : Addr} {ns : List Str} {ws : Str → List Str} (h : GroupAt C H p ns ws) : GroupAt C H' p ns ws := by
  obtain ⟨dx, a, d1, d2, d3, hp, ha, r1, r2, r3⟩ := h
  exact ⟨dx, a, d1, d2, d3, s _ _ (ne_of hp hs (by intro z; cases z)) hp, s _ _ (ne_of ha hs (by intro z; cases z)) ha, RowsG.butS s hs r1 (fun _ => lst_int _ _ _), RowsG.butS s hs r2 (fun _ => lst_int _ _ _), RowsG.butS s hs r3 (fun _ => by intro z; cases z)⟩
theorem tupNs {H : Hp} {T : Addr} {ns : List Str} (h : H T = some (.tup (ns.map V.str))) (hnm : ∀ z ∈ ns, nameS z = true) (hl : ns.length ≤ 16) : TupOf H (.ref T) (some (ns.map V.str)) := by
  refine ⟨.tup, .tup h, T, rfl, h, fun y hy => ?_, by rw [List.length_map]; omega⟩
  obtain ⟨z, hz, rfl⟩ := List.mem_map.mp hy
  have := hnm z hz
  refine GoodE.str ?_
  unfold nameS at this
  rw [Bool.and_eq_true, Bool.and_eq_true] at this
  have := of_decide_eq_true this.1.2
  omega
theorem ns_eq {ns ps : List Str} (e : some (ns.map V.str) = some (ps.map V.str)) : ns = ps := by
  have : unS (some (ns.map V.str)) = unS (some (ps.map V.str)) := by rw [e]
  rw [unS_map, unS_map] at this
  exact this
/-- Group(people, wishes) of good ones -/
theorem gmake {C CB CW p dx T d : Addr} {H : Hp} {ns order : List Str} {ws : Str → List Str} {Q : VK} {E : XK} (hp : H p = some (.ins C dx [])) (hT : H T = some (.tup (ns.map V.str))) (N : Nm ns) (R : RowsG H d order (fun a => lstO (ws a))) (pm : order.Perm ns) (g : ∀ a ∈ ns, GRow ns a (ws a))
    (k : ∀ H', SameBut p H H' → GroupAt C H' p ns ws → Q .non H') : spGI C CB CW [.ref p, .ref T, .ref d] H Q E := by
  obtain ⟨ad, eW, rW⟩ := R
  refine ⟨p, dx, .ref T, .ref d, some (ns.map V.str), .dct, rfl, hp, tupNs hT N.nm N.len, .dct eW, fun i hi => ?_, fun a ps _ ho _ _ _ _ => ⟨fun hk => absurd rfl hk, fun d' kvs ed hd => ?_⟩⟩
  · rw [due_ok N.nd N.nm N.len] at hi
    cases hi
  · cases ed
    obtain rfl : ns = ps := ns_eq ho
    have ek : kvs = order.map fun a => ((Sum.inr a : Key), V.ref (ad a)) := by
      rw [eW] at hd
      cases hd
      rfl
    subst ek
    refine ⟨fun e => ?_, fun _ => ⟨fun q => some ((ws q).map V.str), fun q hq => ⟨_, valV_rows (pm.mem_iff.mpr hq), .lst, .lst (rW q (pm.mem_iff.mpr hq)).1, ad q, rfl, (rW q (pm.mem_iff.mpr hq)).1, fun y hy => ?_⟩, fun _ ws' H6 hws _ sbp hG => ?_, fun ys pre post q hys _ es _ hq => ?_⟩⟩
    · rw [hasB_of pm] at e
      cases e
    · obtain ⟨z, _, rfl⟩ := List.mem_map.mp hy
      exact .flat rfl
    · have ews : ∀ q ∈ ns, ws q = ws' q := fun q hq => by
        have e : (ws q).map V.str = (ws' q).map V.str := Option.some.inj (hws q hq)
        exact ns_eq (by rw [e])
      exact k H6 sbp (hG.congr ews fun a ha => by rw [← ews a ha]; exact g a ha)
    · have h := okW_of (g q (hys.mem_iff.mp (by rw [es]; exact List.mem_append_right _ List.mem_cons_self)))
      have hq' : okW ns q (some ((ws q).map V.str)) = false := hq
      rw [h] at hq'
      cases hq'
end Qp
/-! x == z, x != z: x of any kind, z a text -/
namespace L2
open PySem PySem.Spec PyProof.Rows
open AutoSeq1 (wpAny_loadPart')
open MeetsSeq MeetsSeq2 MeetsSeq3 SeqRoads2 SeqAt
theorem q_str_ne_dict (b : Str) (u : Tok) (l : Addr) (o : Obj) (hc : o.cls = .type "dict") (hd : ∃ es ep, o.data = .dict es ep) :
    Meets (Builtin.«str.__ne__» ⟨[.str b u, .ref l], []⟩) (fun _ R s => s.heap.get? l = some o ∧ R (.ok (.ret .notImplemented)) s) :=
  .of_wp fun prog w A R s h => by
    obtain ⟨hp, g, d, tk, os⟩ := s; obtain ⟨hl, h⟩ := h
    obtain ⟨c, dd, dt, sl⟩ := o
    obtain ⟨es, ep, hd⟩ := hd
    simp only at hc hd
    subst hc hd
    wp_walk using wpAny_loadPart' hl, wpAny_load hl; exact ⟨_, rfl, h⟩
theorem q_dict_ne_str (l : Addr) (o : Obj) (hc : o.cls = .type "dict") (b : Str) (u : Tok) :
    Meets (Builtin.«dict.__ne__» ⟨[.ref l, .str b u], []⟩) (fun _ R s => s.heap.get? l = some o ∧ R (.ok (.ret .notImplemented)) s) :=
  .of_wp fun prog w A R s h => by
    obtain ⟨hp, g, d, tk, os⟩ := s; obtain ⟨hl, h⟩ := h
    have f1 := F.sub_str_dict
    show wpAny _ _ (Builtin.Dict.dictSlotArgs "__ne__" ⟨[.ref l, .str b u], []⟩ >>= _) _ _ _
    refine wpAny_bind ?_
    unfold Builtin.Dict.dictSlotArgs
    refine wpAny_bind (wpAny_notOrdered_dict (show Shared.TypeIs ⟨hp, g, d, tk, os⟩ (.ref l) "dict" from ⟨_, hl, hc⟩) ?_)
    show wpAny _ _ (pure (Value.ref l, Value.str b u)) _ _ _
    refine wpAny_pure ?_
    wp_walk
    exact ⟨_, rfl, h⟩
theorem rc_dict_str {A : Around} {s : Shared} {l : Addr} {o : Obj} (b : Str) (u : Tok) (hl : s.heap.get? l = some o) (hc : o.cls = .type "dict") (hd : ∃ es ep, o.data = .dict es ep) (hu : A.units < cLine) : RcAt A s (.ref l) (.str b u) false := fun prog w E Q h =>
  rc_eq_decline_or (k := false) ⟨_, hl, hc⟩ (typeIs_str s b u) (by decide) F.sub_str_dict F.slot_dict_eq F.slot_str_eq_refl
    (fun _ hq => call_meets F.slot_dict_eq ⟨_, hl, hc⟩ F.entry_dict_eq (F.args_dict_eq_2 _ _) (q_dict_eq_str l o hc b u) ⟨hl, hq⟩)
    (fun _ hq => call_meets F.slot_str_eq_refl (typeIs_str s b u) F.entry_str_eq (F.args_str_eq_2 _ _) (q_str_eq_dict b u l o hc hd) ⟨hl, hq⟩)
    (fun _ hq => wpAny_of_eq (rfl : isSame (.ref l) (.str b u) = pure false) hq) (.inr hu) h
theorem rcne_dict_str {A : Around} {s : Shared} {l : Addr} {o : Obj} (b : Str) (u : Tok) (hl : s.heap.get? l = some o) (hc : o.cls = .type "dict") (hd : ∃ es ep, o.data = .dict es ep) (hu : A.units < cLine) : RcNeAt A s (.ref l) (.str b u) true := fun prog w E Q h =>
  rc_ne_decline_or (k := false) ⟨_, hl, hc⟩ (typeIs_str s b u) (by decide) F.sub_str_dict F.slot_dict_ne F.slot_str_ne_refl
    (fun _ hq => call_meets F.slot_dict_ne ⟨_, hl, hc⟩ F.entry_dict_ne (F.args_dict_ne_2 _ _) (q_dict_ne_str l o hc b u) ⟨hl, hq⟩)
    (fun _ hq => call_meets F.slot_str_ne_refl (typeIs_str s b u) F.entry_str_ne (F.args_str_ne_2 _ _) (q_str_ne_dict b u l o hc hd) ⟨hl, hq⟩)
    (fun _ hq => wpAny_of_eq (rfl : isSame (.ref l) (.str b u) = pure false) hq) (.inr hu) h
theorem str_dec {b z : Str} : (b == z) = decide (V.str b = V.str z) := by
  by_cases h : b = z
  · subst h; simp
  · have h2 : ¬ V.str b = V.str z := fun y => h (V.str.inj y)
    rw [decide_eq_false h2]
    simpa using h
section
variable {X : Cx}
def rEqT (neg : Bool) : R2 := fun x y H Q => ∃ k z, IsK H x k ∧ y = .str z ∧ Q (.bl (if neg then !decide (x = .str z) else decide (x = .str z))) H
theorem op_eqT (hu : X.A.units + 64 < cLine) : OpR X (compareOp .Eq) (rEqT false) := by
  intro pins s σ H x y v u Q I rx ry h
  obtain ⟨k, z, ik, rfl, q⟩ := h
  obtain ⟨t, rfl⟩ := ry
  have hu' : X.A.units < cLine := by omega
  have fin : ∀ r : Bool, r = decide (x = .str z) → RcAt X.A s v (.str z t) r → wpAny (model X.prog X.w) X.A (compareOp .Eq v (.str z t)) (EP X pins σ Q) X.xe s := fun r e key => by
    subst e
    exact key X.prog X.w X.xe _ ⟨.bl _, H, I, rfl, q⟩
  cases ik with
  | non => cases rx; exact fin _ (by simp) (RcAt.none_str z t)
  | bl b => cases rx; exact fin _ (by simp) (RcAt.bool_str b z t)
  | int b => obtain ⟨t', rfl⟩ := rx; exact fin _ (by simp) (RcAt.int_str b t' z t)
  | str b => obtain ⟨t', rfl⟩ := rx; exact fin _ str_dec (RcAt.str_str b t' z t)
  | @lst a xs h =>
    cases (show v = Value.ref a from rx)
    obtain ⟨_, its, n, _, h1⟩ := (show ObjOk X.prog X.w H s.heap a (.lst xs) from I.hok a _ h)
    exact fin _ (by simp) (RcAt.list_str (items := its.toArray) z t ⟨_, h1, rfl, n, rfl⟩ hu')
  | @tup a xs h =>
    cases (show v = Value.ref a from rx)
    obtain ⟨_, its, _, h1⟩ := (show ObjOk X.prog X.w H s.heap a (.tup xs) from I.hok a _ h)
    exact fin _ (by simp) (RcAt.tuple_str z t h1 hu')
  | @dct a kvs h =>
    cases (show v = Value.ref a from rx)
    obtain ⟨_, _, vs, _, o, es, ep, h1, h2, h3, _⟩ := (show ObjOk X.prog X.w H s.heap a (.dK kvs) from I.hok a _ h)
    exact fin _ (by simp) (rc_dict_str z t h1 h2.1 ⟨_, _, h3⟩ hu')
theorem op_neT (hu : X.A.units + 64 < cLine) : OpR X (compareOp .NotEq) (rEqT true) := by
  intro pins s σ H x y v u Q I rx ry h
  obtain ⟨k, z, ik, rfl, q⟩ := h
  obtain ⟨t, rfl⟩ := ry
  have hu' : X.A.units < cLine := by omega
  have fin : ∀ r : Bool, r = !decide (x = .str z) → RcNeAt X.A s v (.str z t) r → wpAny (model X.prog X.w) X.A (compareOp .NotEq v (.str z t)) (EP X pins σ Q) X.xe s := fun r e key => by
    subst e
    exact key X.prog X.w X.xe _ ⟨.bl _, H, I, rfl, q⟩
  cases ik with
  | non => cases rx; exact fin _ (by simp) (RcNeAt.none_str z t)
  | bl b => cases rx; exact fin _ (by simp) (RcNeAt.bool_str b z t)
  | int b => obtain ⟨t', rfl⟩ := rx; exact fin _ (by simp) (RcNeAt.int_str b t' z t)
  | str b => obtain ⟨t', rfl⟩ := rx; exact fin _ (by rw [str_dec]) (RcNeAt.str_str b t' z t)
  | @lst a xs h =>
    cases (show v = Value.ref a from rx)
    obtain ⟨_, its, n, _, h1⟩ := (show ObjOk X.prog X.w H s.heap a (.lst xs) from I.hok a _ h)
    exact fin _ (by simp) (RcNeAt.list_str (items := its.toArray) z t ⟨_, h1, rfl, n, rfl⟩ hu')
  | @tup a xs h =>
    cases (show v = Value.ref a from rx)
    obtain ⟨_, its, _, h1⟩ := (show ObjOk X.prog X.w H s.heap a (.tup xs) from I.hok a _ h)
    exact fin _ (by simp) (RcNeAt.tuple_str z t h1 hu')
  | @dct a kvs h =>
    cases (show v = Value.ref a from rx)
    obtain ⟨_, _, vs, _, o, es, ep, h1, h2, h3, _⟩ := (show ObjOk X.prog X.w H s.heap a (.dK kvs) from I.hok a _ h)
    exact fin _ (by simp) (rcne_dict_str z t h1 h2.1 ⟨_, _, h3⟩ hu')
/-- x != z, x a dict that is walked -/
def rNeF : R2 := fun x y H Q => ∃ a o kvs z, x = .ref a ∧ H a = some (.frz o (.dK kvs)) ∧ y = .str z ∧ Q (.bl true) H
theorem op_neF (hu : X.A.units + 64 < cLine) : OpR X (compareOp .NotEq) rNeF := by
  intro pins s σ H x y v u Q I rx ry h
  obtain ⟨a, ob, kvs, z, rfl, h, rfl, q⟩ := h
  obtain ⟨t, rfl⟩ := ry
  have hu' : X.A.units < cLine := by omega
  cases (show v = Value.ref a from rx)
  obtain ⟨_, _, _, vs, _, o, es, ep, h1, h2, h3, _⟩ := (show ObjOk X.prog X.w H s.heap a (.frz ob (.dK kvs)) from I.hok a _ h)
  exact rcne_dict_str z t h1 h2.1 ⟨_, _, h3⟩ hu' X.prog X.w X.xe _ ⟨.bl true, H, I, rfl, q⟩
end
end L2
namespace Qp
open PySem L2
def short (v : V) : Prop := ∀ z, v = .str z → z.length ≤ 1000
/-- no list, or a list of values of kinds; a text is short -/
def LstK (m : Nat) (H : Hp) (v : V) (o : Option (List V)) : Prop := ∃ k, IsK H v k ∧ (match o with
  | none => k ≠ .lst
  | some xs => ∃ a, v = .ref a ∧ H a = some (.lst xs) ∧ xs.length ≤ m ∧ ∀ y ∈ xs, ∃ k, IsK H y k) ∧ short v
theorem LstK.same {m : Nat} {H H' : Hp} (s : Same H H') {v : V} {o : Option (List V)} (h : LstK m H v o) : LstK m H' v o := by
  obtain ⟨k, ik, q, sv⟩ := h
  refine ⟨k, ik.same s, ?_, sv⟩
  cases o with
  | none => exact q
  | some xs =>
    obtain ⟨a, e, h, hl, hy⟩ := q
    exact ⟨a, e, s _ _ h, hl, fun y m => (hy y m).imp fun _ q => q.same s⟩
theorem short_ref (a : Addr) : short (.ref a) := fun _ h => by cases h
end Qp
/-! == and != of two tuples of one length whose items are equal within one model -/
namespace PySem.SeqAt
open AutoSeq1 (wpAny_loadPart')
open MeetsSeq MeetsSeq2 MeetsSeq3 SeqRoads2
section
variable {prog : Program} {w : World}
theorem tupSame_eq (l b : Addr) (us vs : Array Value) (n m : Nat) (d1 d2 : Option Addr) (s1 s2 : Array (Option Value)) (hz : us.size = vs.size) :
    MeetsIn prog w (Builtin.«tuple.__eq__» ⟨[.ref l, .ref b], []⟩)
      (fun A R s => s.heap.get? l = some { cls := .type "tuple", dict := d1, data := .seq us n, slots := s1 } ∧ s.heap.get? b = some { cls := .type "tuple", dict := d2, data := .seq vs m, slots := s2 } ∧
        (∀ j (p1 : j < us.size) (p2 : j < vs.size), EqP prog w A.in1 s us[j] vs[j] true) ∧ R (.ok (.ret (.bool true))) s) := by
  intro A R s h
  obtain ⟨hp, g, d, tk, os⟩ := s; obtain ⟨hl, hb, he, h⟩ := h
  have f2 := AutoSeq1.sub_tuple_tuple
  have hlen : (us.toList.zip vs.toList).length = us.size := by simp [hz]
  wp_walk using wpAny_loadPart' hl, wpAny_loadPart' hb, wpAny_forIn_list _ (fun more c q => c.1 = none ∧ q = ⟨hp, g, d, tk, os⟩ ∧ ∃ i, more = (us.toList.zip vs.toList).drop i) _
  case turn =>
    rintro ⟨y, x⟩ more c q ⟨hc, rfl, i, hm⟩
    have lt : i < (us.toList.zip vs.toList).length := by
      rcases Nat.lt_or_ge i (us.toList.zip vs.toList).length with z | z
      · exact z
      · rw [List.drop_of_length_le z] at hm; cases hm
    have q1 : i < us.size := hlen ▸ lt
    have q2 : i < vs.size := hz ▸ q1
    rw [List.drop_eq_getElem_cons lt] at hm
    injection hm with ex er
    have ey : y = us[i] := by have z := congrArg Prod.fst ex; simpa using z
    have ev : x = vs[i] := by have z := congrArg Prod.snd ex; simpa using z
    subst ey ev
    refine wpAny_bind (he i q1 q2 _ _ ?_)
    wp_walk
    exact ⟨rfl, rfl, i + 1, er⟩
  case fin =>
    rintro ⟨b1, b2⟩ q ⟨hc, rfl, i, hm⟩
    simp only at hc
    subst hc
    wp_walk
    simpa [Builtin.Tuple.tupleCompareSizes, hz] using h
  case h => exact ⟨rfl, rfl, 0, rfl⟩
theorem tupSame_ne (l b : Addr) (us vs : Array Value) (n m : Nat) (d1 d2 : Option Addr) (s1 s2 : Array (Option Value)) (hz : us.size = vs.size) :
    MeetsIn prog w (Builtin.«tuple.__ne__» ⟨[.ref l, .ref b], []⟩)
      (fun A R s => s.heap.get? l = some { cls := .type "tuple", dict := d1, data := .seq us n, slots := s1 } ∧ s.heap.get? b = some { cls := .type "tuple", dict := d2, data := .seq vs m, slots := s2 } ∧
        (∀ j (p1 : j < us.size) (p2 : j < vs.size), EqP prog w A.in1 s us[j] vs[j] true) ∧ R (.ok (.ret (.bool false))) s) := by
  intro A R s h
  obtain ⟨hp, g, d, tk, os⟩ := s; obtain ⟨hl, hb, he, h⟩ := h
  have f2 := AutoSeq1.sub_tuple_tuple
  have hlen : (us.toList.zip vs.toList).length = us.size := by simp [hz]
  wp_walk using wpAny_loadPart' hl, wpAny_loadPart' hb, wpAny_forIn_list _ (fun more c q => c.1 = none ∧ q = ⟨hp, g, d, tk, os⟩ ∧ ∃ i, more = (us.toList.zip vs.toList).drop i) _
  case turn =>
    rintro ⟨y, x⟩ more c q ⟨hc, rfl, i, hm⟩
    have lt : i < (us.toList.zip vs.toList).length := by
      rcases Nat.lt_or_ge i (us.toList.zip vs.toList).length with z | z
      · exact z
      · rw [List.drop_of_length_le z] at hm; cases hm
    have q1 : i < us.size := hlen ▸ lt
    have q2 : i < vs.size := hz ▸ q1
    rw [List.drop_eq_getElem_cons lt] at hm
    injection hm with ex er
    have ey : y = us[i] := by have z := congrArg Prod.fst ex; simpa using z
    have ev : x = vs[i] := by have z := congrArg Prod.snd ex; simpa using z
    subst ey ev
    refine wpAny_bind (he i q1 q2 _ _ ?_)
    wp_walk
    exact ⟨rfl, rfl, i + 1, er⟩
  case fin =>
    rintro ⟨b1, b2⟩ q ⟨hc, rfl, i, hm⟩
    simp only at hc
    subst hc
    wp_walk
    simpa [Builtin.Tuple.tupleCompareSizes, hz] using h
  case h => exact ⟨rfl, rfl, 0, rfl⟩
theorem rcP_tuples {A : Around} {s : Shared} {l b : Addr} {us vs : Array Value} (hl : s.heap.IsTuple l us) (hb : s.heap.IsTuple b vs) (hz : us.size = vs.size) (hu : A.units < cLine)
    (he : ∀ j (p1 : j < us.size) (p2 : j < vs.size), EqP prog w A.in1 s us[j] vs[j] true) (E Q : Value → Shared → Prop) (h : Q (.bool true) s) : wpAny (model prog w) A (richCompare .Eq (.ref l) (.ref b)) Q E s := by
  obtain ⟨⟨c1, d1, t1, s1⟩, ho, hc, n, hd⟩ := id hl
  obtain ⟨⟨c2, d2, t2, s2⟩, ho2, hc2, m, hd2⟩ := id hb
  simp only at hc hd hc2 hd2
  subst hc hd hc2 hd2
  have ta : s.TypeIs (.ref l) "tuple" := ⟨_, ho, rfl⟩
  have tb : s.TypeIs (.ref b) "tuple" := ⟨_, ho2, rfl⟩
  exact wpAny_richCompare_same_room (op := .Eq) ta tb F.slot_tuple_eq (call_meetsIn F.slot_tuple_eq ta F.entry_tuple_eq (F.args_tuple_eq_2 _ _) (tupSame_eq l b us vs n m d1 d2 s1 s2 hz)
    ⟨ho, ho2, he, show Value.bool true ≠ Value.notImplemented ∧ Q (.bool true) s from ⟨(fun x => nomatch x), h⟩⟩) hu
theorem rcneP_tuples {A : Around} {s : Shared} {l b : Addr} {us vs : Array Value} (hl : s.heap.IsTuple l us) (hb : s.heap.IsTuple b vs) (hz : us.size = vs.size) (hu : A.units < cLine)
    (he : ∀ j (p1 : j < us.size) (p2 : j < vs.size), EqP prog w A.in1 s us[j] vs[j] true) (E Q : Value → Shared → Prop) (h : Q (.bool false) s) : wpAny (model prog w) A (richCompare .NotEq (.ref l) (.ref b)) Q E s := by
  obtain ⟨⟨c1, d1, t1, s1⟩, ho, hc, n, hd⟩ := id hl
  obtain ⟨⟨c2, d2, t2, s2⟩, ho2, hc2, m, hd2⟩ := id hb
  simp only at hc hd hc2 hd2
  subst hc hd hc2 hd2
  have ta : s.TypeIs (.ref l) "tuple" := ⟨_, ho, rfl⟩
  have tb : s.TypeIs (.ref b) "tuple" := ⟨_, ho2, rfl⟩
  exact wpAny_richCompare_same_room (op := .NotEq) ta tb F.slot_tuple_ne (call_meetsIn F.slot_tuple_ne ta F.entry_tuple_ne (F.args_tuple_ne_2 _ _) (tupSame_ne l b us vs n m d1 d2 s1 s2 hz)
    ⟨ho, ho2, he, show Value.bool false ≠ Value.notImplemented ∧ Q (.bool false) s from ⟨(fun x => nomatch x), h⟩⟩) hu
end
end PySem.SeqAt
namespace L2
open PySem PySem.Spec PyProof.Rows
/-! ### one data twice -/
def sc : V → Bool
  | .non | .bl _ | .int _ | .str _ => true
  | _ => false
/-- all but the places of S -/
noncomputable def rem (S : Addr → Prop) (H : Hp) : Hp := fun b => by
  classical
  exact if S b then none else H b
theorem rem_in {S : Addr → Prop} {H : Hp} {b : Addr} (h : S b) : rem S H b = none := by unfold rem; exact if_pos h
theorem rem_out {S : Addr → Prop} {H : Hp} {b : Addr} (h : ¬ S b) : rem S H b = H b := by unfold rem; exact if_neg h
theorem rem_some {S : Addr → Prop} {H : Hp} {b : Addr} {o : HO} (h : rem S H b = some o) : ¬ S b ∧ H b = some o := by
  by_cases q : S b
  · rw [rem_in q] at h; cases h
  · rw [rem_out q] at h; exact ⟨q, h⟩
/-- x and y are of one data, nested below n; an instance of a class of C is itself; no dict lies within itself -/
def EqX (C : Addr → Prop) : Nat → Hp → V → V → Prop
  | 0 => fun _ _ _ => False
  | n + 1 => fun H x y => (x = y ∧ sc x = true) ∨ (∃ a D dx fs, C D ∧ x = .ref a ∧ y = .ref a ∧ H a = some (.ins D dx fs)) ∨
      (∃ a b xs ys, x = .ref a ∧ y = .ref b ∧ H a = some (.lst xs) ∧ H b = some (.lst ys) ∧ xs.length ≤ 1000 ∧ Paired (EqX C n H) xs ys) ∨
      (∃ a b xs ys, x = .ref a ∧ y = .ref b ∧ H a = some (.tup xs) ∧ H b = some (.tup ys) ∧ xs.length ≤ 1000 ∧ Paired (EqX C n H) xs ys) ∨
      ∃ a b ks ls, x = .ref a ∧ y = .ref b ∧ H a = some (.dK ks) ∧ H b = some (.dK ls) ∧ ks.length ≤ 1000 ∧ (ks.map (·.1)).Nodup ∧ Paired (fun (p q : Key × V) => p.1 = q.1 ∧ EqX C n (rem (fun c => c = a ∨ c = b) H) p.2 q.2) ks ls
theorem Paired.imp2 {α β : Type} {R S : α → β → Prop} (h : ∀ a b, R a b → S a b) : ∀ {xs : List α} {ys : List β}, Paired R xs ys → Paired S xs ys
  | _, _, .nil => .nil
  | _, _, .cons a b => .cons (h _ _ a) (Paired.imp2 h b)
/-- what a heap keeps of data -/
def Keeps (H H' : Hp) : Prop := ∀ a o, (match o with | .lst _ | .tup _ | .dK _ | .ins _ _ _ => True | _ => False) → H a = some o → H' a = some o
theorem Same.keepsD {H H' : Hp} (s : Same H H') : Keeps H H' := fun a o _ e => s a o e
theorem Keeps.rem {H H' : Hp} (k : Keeps H H') (S : Addr → Prop) : Keeps (rem S H) (rem S H') := fun a o t e => by
  obtain ⟨n, e⟩ := rem_some e
  rw [rem_out n]
  exact k a o t e
theorem keeps_rem {H : Hp} {S T : Addr → Prop} (h : ∀ b, T b → S b) : Keeps (rem S H) (rem T H) := fun a o _ e => by
  obtain ⟨n, e⟩ := rem_some e
  rw [rem_out fun z => n (h _ z)]
  exact e
theorem keeps_rem0 {H : Hp} {S : Addr → Prop} : Keeps (rem S H) H := fun a o _ e => (rem_some e).2
theorem Keeps.trans {H H1 H2 : Hp} (a : Keeps H H1) (b : Keeps H1 H2) : Keeps H H2 := fun c o t e => b c o t (a c o t e)
theorem EqX.keep {C : Addr → Prop} : ∀ {n : Nat} {H H' : Hp} {x y : V}, Keeps H H' → EqX C n H x y → EqX C n H' x y
  | 0, _, _, _, _, _, h => (show False from h).elim
  | n + 1, H, H', x, y, k, h => by
    rcases h with h | ⟨a, D, dx, fs, hD, e1, e2, h⟩ | ⟨a, b, xs, ys, e1, e2, h1, h2, hl, p⟩ | ⟨a, b, xs, ys, e1, e2, h1, h2, hl, p⟩ | ⟨a, b, ks, ls, e1, e2, h1, h2, hl, nd, p⟩
    · exact .inl h
    · exact .inr (.inl ⟨a, D, dx, fs, hD, e1, e2, k _ _ True.intro h⟩)
    · exact .inr (.inr (.inl ⟨a, b, xs, ys, e1, e2, k _ _ True.intro h1, k _ _ True.intro h2, hl, Paired.imp2 (fun _ _ q => EqX.keep k q) p⟩))
    · exact .inr (.inr (.inr (.inl ⟨a, b, xs, ys, e1, e2, k _ _ True.intro h1, k _ _ True.intro h2, hl, Paired.imp2 (fun _ _ q => EqX.keep k q) p⟩)))
    · exact .inr (.inr (.inr (.inr ⟨a, b, ks, ls, e1, e2, k _ _ True.intro h1, k _ _ True.intro h2, hl, nd, Paired.imp2 (fun _ _ q => ⟨q.1, EqX.keep (k.rem _) q.2⟩) p⟩)))
theorem EqX.same {C : Addr → Prop} {H H' : Hp} (s : Same H H') {n : Nat} {x y : V} (h : EqX C n H x y) : EqX C n H' x y := h.keep s.keepsD
theorem EqX.up {C : Addr → Prop} : ∀ {n m : Nat} {H : Hp} {x y : V}, n ≤ m → EqX C n H x y → EqX C m H x y
  | 0, _, _, _, _, _, h => (show False from h).elim
  | n + 1, 0, _, _, _, l, _ => absurd l (Nat.not_succ_le_zero n)
  | n + 1, m + 1, H, x, y, l, h => by
    have l := Nat.le_of_succ_le_succ l
    rcases h with h | h | ⟨a, b, xs, ys, e1, e2, h1, h2, hl, p⟩ | ⟨a, b, xs, ys, e1, e2, h1, h2, hl, p⟩ | ⟨a, b, ks, ls, e1, e2, h1, h2, hl, nd, p⟩
    · exact .inl h
    · exact .inr (.inl h)
    · exact .inr (.inr (.inl ⟨a, b, xs, ys, e1, e2, h1, h2, hl, Paired.imp2 (fun _ _ q => EqX.up l q) p⟩))
    · exact .inr (.inr (.inr (.inl ⟨a, b, xs, ys, e1, e2, h1, h2, hl, Paired.imp2 (fun _ _ q => EqX.up l q) p⟩)))
    · exact .inr (.inr (.inr (.inr ⟨a, b, ks, ls, e1, e2, h1, h2, hl, nd, Paired.imp2 (fun _ _ q => ⟨q.1, EqX.up l q.2⟩) p⟩)))
theorem EqX.mono {C C' : Addr → Prop} (hC : ∀ D, C D → C' D) : ∀ {n : Nat} {H : Hp} {x y : V}, EqX C n H x y → EqX C' n H x y
  | 0, _, _, _, h => (show False from h).elim
  | n + 1, H, x, y, h => by
    rcases h with h | ⟨a, D, dx, fs, hD, h⟩ | ⟨a, b, xs, ys, e1, e2, h1, h2, hl, p⟩ | ⟨a, b, xs, ys, e1, e2, h1, h2, hl, p⟩ | ⟨a, b, ks, ls, e1, e2, h1, h2, hl, nd, p⟩
    · exact .inl h
    · exact .inr (.inl ⟨a, D, dx, fs, hC D hD, h⟩)
    · exact .inr (.inr (.inl ⟨a, b, xs, ys, e1, e2, h1, h2, hl, Paired.imp2 (fun _ _ q => EqX.mono hC q) p⟩))
    · exact .inr (.inr (.inr (.inl ⟨a, b, xs, ys, e1, e2, h1, h2, hl, Paired.imp2 (fun _ _ q => EqX.mono hC q) p⟩)))
    · exact .inr (.inr (.inr (.inr ⟨a, b, ks, ls, e1, e2, h1, h2, hl, nd, Paired.imp2 (fun _ _ q => ⟨q.1, EqX.mono hC q.2⟩) p⟩)))
theorem paired_of {α : Type} {R : α → α → Prop} : ∀ {xs : List α}, (∀ x ∈ xs, R x x) → Paired R xs xs
  | [], _ => .nil
  | x :: xs, h => .cons (h x List.mem_cons_self) (paired_of fun y hy => h y (List.mem_cons_of_mem _ hy))
section
variable {C : Addr → Prop} {n : Nat} {H : Hp}
theorem ex_sc {v : V} (h : sc v = true) : EqX C (n + 1) H v v := .inl ⟨rfl, h⟩
theorem ex_lst {a : Addr} {xs : List V} (e : H a = some (.lst xs)) (hl : xs.length ≤ 1000) (h : ∀ x ∈ xs, EqX C n H x x) : EqX C (n + 1) H (.ref a) (.ref a) := .inr (.inr (.inl ⟨a, a, xs, xs, rfl, rfl, e, e, hl, paired_of h⟩))
theorem ex_tup {a : Addr} {xs : List V} (e : H a = some (.tup xs)) (hl : xs.length ≤ 1000) (h : ∀ x ∈ xs, EqX C n H x x) : EqX C (n + 1) H (.ref a) (.ref a) := .inr (.inr (.inr (.inl ⟨a, a, xs, xs, rfl, rfl, e, e, hl, paired_of h⟩)))
theorem ex_dct {a : Addr} {ks : List (Key × V)} (e : H a = some (.dK ks)) (hl : ks.length ≤ 1000) (nd : (ks.map (·.1)).Nodup) (h : ∀ p ∈ ks, EqX C n (rem (fun c => c = a ∨ c = a) H) p.2 p.2) : EqX C (n + 1) H (.ref a) (.ref a) :=
  .inr (.inr (.inr (.inr ⟨a, a, ks, ks, rfl, rfl, e, e, hl, nd, paired_of fun p hp => ⟨rfl, h p hp⟩⟩)))
theorem ex_one {v : V} (h : EqX C n H v v) : ∀ x ∈ [v], EqX C n H x x := fun x hx => by
  have : x = v := by simpa using hx
  rw [this]; exact h
theorem ex_two {u v : V} (h1 : EqX C n H u u) (h2 : EqX C n H v v) : ∀ x ∈ [u, v], EqX C n H x x := fun x hx => by
  rcases List.mem_cons.mp hx with e | hx
  · rw [e]; exact h1
  · exact ex_one h2 x hx
end
theorem Paired.flip2 {α β : Type} {R : α → β → Prop} {S : β → α → Prop} (h : ∀ a b, R a b → S b a) : ∀ {xs : List α} {ys : List β}, Paired R xs ys → Paired S ys xs
  | _, _, .nil => .nil
  | _, _, .cons a b => .cons (h _ _ a) (Paired.flip2 h b)
theorem Paired.keys2 {R : Key × V → Key × V → Prop} (h : ∀ p q, R p q → p.1 = q.1) : ∀ {ks ls : List (Key × V)}, Paired R ks ls → ks.map (·.1) = ls.map (·.1)
  | _, _, .nil => rfl
  | _, _, .cons a b => by rw [List.map_cons, List.map_cons, h _ _ a, Paired.keys2 h b]
section
variable {X : Cx} {pins : List (Addr × Obj)} {σ : St} {H : Hp} {s : Shared}
theorem pair_val {R : V → V → Prop} : ∀ {ks ls : List (Key × V)}, (ks.map (·.1)).Nodup → Paired (fun (p q : Key × V) => p.1 = q.1 ∧ R p.2 q.2) ks ls → ∀ p ∈ ks, ∃ u, valV ls p.1 = some u ∧ R p.2 u := by
  intro ks ls nd h
  induction h with
  | nil => intro p h; cases h
  | @cons a b as bs r t ih =>
    intro p h
    rw [List.map_cons, List.nodup_cons] at nd
    rcases List.mem_cons.mp h with e | h
    · subst e
      exact ⟨b.2, valV_pos r.1.symm, r.2⟩
    · obtain ⟨u, hu, hr⟩ := ih nd.2 p h
      have hne : ¬ b.1 = p.1 := fun z => nd.1 (by rw [r.1, z]; exact List.mem_map.mpr ⟨p, h, rfl⟩)
      exact ⟨u, by rw [valV_neg hne]; exact hu, hr⟩
/-- what is of one data is equal -/
theorem eqx_run {C : Addr → Prop} (I : Inv X pins σ H s) : ∀ (n : Nat) (A : Around), A.units + n < cLine → ∀ (x y : V) (v u : Value), EqX C n H x y → RelV x v → RelV y u → SeqAt.EqP X.prog X.w A s v u true
  | 0, _, _, _, _, _, _, h, _, _ => (show False from h).elim
  | n + 1, A, hu, x, y, v, u, h, rx, ry => by
    have ih := eqx_run (C := C) I n A.in1 (by show A.units + 1 + n < cLine; omega)
    rcases h with ⟨rfl, f⟩ | ⟨a, D, dx, fs, hD, rfl, rfl, h⟩ | ⟨a, b, xs, ys, rfl, rfl, h1, h2, hl, p⟩ | ⟨a, b, xs, ys, rfl, rfl, h1, h2, hl, p⟩ | ⟨a, b, ks, ls, rfl, rfl, h1, h2, hl, nd, p⟩
    · have f2 : flatB x = true := by cases x <;> first | rfl | cases f
      exact (eqAt_same rx ry f2).eqP
    · cases (show v = Value.ref a from rx)
      cases (show u = Value.ref a from ry)
      exact (SeqAt.EqAt.same _).eqP
    · cases (show v = Value.ref a from rx)
      cases (show u = Value.ref b from ry)
      by_cases e : a = b
      · subst e
        exact (SeqAt.EqAt.same _).eqP
      obtain ⟨us, r1, p1, _⟩ := I.list (.inl (.inl h1))
      obtain ⟨ws, r2, p2, _⟩ := I.list (.inl (.inl h2))
      have hsz : us.toArray.size = ws.toArray.size := by
        rw [List.size_toArray, List.size_toArray, ← r1.length, ← r2.length]
        exact Paired.length p
      refine SeqAt.eqP_refs e fun E Q q => SeqAt.rcP_lists (e := fun _ => true) p1.isList p2.isList hsz (by omega) (fun j h1 h2 => ?_) E Q ?_
      · have k := items_run ih p r1 r2 j (by simpa using h1) (by simpa using h2)
        simpa using k
      · rw [show ((List.range us.toArray.size).all fun _ => true) = true from List.all_eq_true.mpr fun _ _ => rfl]
        exact q
    · cases (show v = Value.ref a from rx)
      cases (show u = Value.ref b from ry)
      by_cases e : a = b
      · subst e
        exact (SeqAt.EqAt.same _).eqP
      obtain ⟨us, r1, p1, _⟩ := I.tuple (.inl (.inl h1))
      obtain ⟨ws, r2, p2, _⟩ := I.tuple (.inl (.inl h2))
      have hsz : us.toArray.size = ws.toArray.size := by
        rw [List.size_toArray, List.size_toArray, ← r1.length, ← r2.length]
        exact Paired.length p
      refine SeqAt.eqP_refs e fun E Q q => SeqAt.rcP_tuples p1 p2 hsz (by omega) (fun j h1 h2 => ?_) E Q q
      have k := items_run ih p r1 r2 j (by simpa using h1) (by simpa using h2)
      simpa using k
    · cases (show v = Value.ref a from rx)
      cases (show u = Value.ref b from ry)
      by_cases e : a = b
      · subst e
        exact (SeqAt.EqAt.same _).eqP
      obtain ⟨_, ya, va, ra, da⟩ := (show ObjOk X.prog X.w H s.heap a (.dK ks) from I.hok a _ h1)
      obtain ⟨_, yb, vb, rb, db⟩ := (show ObjOk X.prog X.w H s.heap b (.dK ls) from I.hok b _ h2)
      refine SeqAt.eqP_refs e fun E Q q => PySem.W.rcP_dicts (knd := mixKind X.prog X.w) (r := true) ya yb da db (by omega) (fun _ => hits_run ih rb ra (pair_val nd (Paired.imp2 (fun _ _ q => ⟨q.1, q.2.keep keeps_rem0⟩) p))) E Q ?_
      have e2 : va.length = vb.length := by rw [← ra.length, ← rb.length]; exact Paired.length p
      rw [show (va.length == vb.length && true) = true from by rw [e2]; simp]
      exact q
end
section
variable {X : Cx}
/-- x != y, two tuples of one data -/
def rNeX (C : Addr → Prop) : R2 := fun x y H Q => ∃ a b xs ys n, x = .ref a ∧ y = .ref b ∧ H a = some (.tup xs) ∧ H b = some (.tup ys) ∧ Paired (EqX C n H) xs ys ∧ n ≤ 120 ∧ Q (.bl false) H
theorem op_neX {C : Addr → Prop} (hu : X.A.units + 200 < cLine) : OpR X (compareOp .NotEq) (rNeX C) := by
  intro pins s σ H x y v u Q I rx ry h
  obtain ⟨a, b, xs, ys, n, rfl, rfl, h1, h2, p, hn, q⟩ := h
  cases (show v = Value.ref a from rx)
  cases (show u = Value.ref b from ry)
  obtain ⟨us, r1, p1, _⟩ := I.tuple (.inl (.inl h1))
  obtain ⟨ws, r2, p2, _⟩ := I.tuple (.inl (.inl h2))
  have hsz : us.toArray.size = ws.toArray.size := by
    rw [List.size_toArray, List.size_toArray, ← r1.length, ← r2.length]
    exact Paired.length p
  refine SeqAt.rcneP_tuples p1 p2 hsz (by omega) (fun j h1 h2 => ?_) _ _ ⟨.bl false, H, I, rfl, q⟩
  have k := items_run (eqx_run (C := C) I n X.A.in1 (by show X.A.units + 1 + n < cLine; omega)) p r1 r2 j (by simpa using h1) (by simpa using h2)
  simpa using k
end
end L2
namespace Qp
open PySem L2
theorem _root_.L2.IsK.butD {H H' : Hp} {d : Addr} (s : SameBut d H H') {k1 k2 : List (Key × V)} (hd : H d = some (.dK k1)) (hd' : H' d = some (.dK k2)) {v : V} {k : Kd} (ik : IsK H v k) : IsK H' v k := by
  cases ik with
  | non => exact .non
  | bl b => exact .bl b
  | int i => exact .int i
  | str z => exact .str z
  | @lst a xs h => exact .lst (s _ _ (ne_of h hd (by intro z; cases z)) h)
  | @tup a xs h => exact .tup (s _ _ (ne_of h hd (by intro z; cases z)) h)
  | @dct a xs h =>
    by_cases ha : a = d
    · rw [ha]; exact .dct hd'
    · exact .dct (s _ _ ha h)
theorem _root_.L2.IsK.butL {H H' : Hp} {d : Addr} (s : SameBut d H H') {k1 k2 : List V} (hd : H d = some (.lst k1)) (hd' : H' d = some (.lst k2)) {v : V} {k : Kd} (ik : IsK H v k) : IsK H' v k := by
  cases ik with
  | non => exact .non
  | bl b => exact .bl b
  | int i => exact .int i
  | str z => exact .str z
  | @lst a xs h =>
    by_cases ha : a = d
    · rw [ha]; exact .lst hd'
    · exact .lst (s _ _ ha h)
  | @tup a xs h => exact .tup (s _ _ (ne_of h hd (by intro z; cases z)) h)
  | @dct a xs h => exact .dct (s _ _ (ne_of h hd (by intro z; cases z)) h)
theorem LstK.butD {m : Nat} {H H' : Hp} {d : Addr} (s : SameBut d H H') {k1 k2 : List (Key × V)} (hd : H d = some (.dK k1)) (hd' : H' d = some (.dK k2)) {v : V} {o : Option (List V)} (h : LstK m H v o) : LstK m H' v o := by
  obtain ⟨k, ik, q, sv⟩ := h
  refine ⟨k, ik.butD s hd hd', ?_, sv⟩
  cases o with
  | none => exact q
  | some xs =>
    obtain ⟨a, e, h, hl, hy⟩ := q
    exact ⟨a, e, s _ _ (ne_of h hd (by intro z; cases z)) h, hl, fun y m => (hy y m).imp fun _ q => q.butD s hd hd'⟩
theorem LstK.butL {m : Nat} {H H' : Hp} {d : Addr} (s : SameBut d H H') {k1 k2 : List V} (hd : H d = some (.lst k1)) (hd' : H' d = some (.lst k2)) (hl2 : k2.length ≤ m) (hk2 : ∀ y ∈ k2, ∃ k, IsK H' y k) {v : V} (h : ∃ o, LstK m H v o) : ∃ o, LstK m H' v o := by
  obtain ⟨o, k, ik, q, sv⟩ := h
  cases o with
  | none => exact ⟨none, k, ik.butL s hd hd', q, sv⟩
  | some xs =>
    obtain ⟨a, e, h, hl, hy⟩ := q
    by_cases ha : a = d
    · exact ⟨some k2, k, ik.butL s hd hd', ⟨a, e, by rw [ha]; exact hd', hl2, hk2⟩, sv⟩
    · exact ⟨some xs, k, ik.butL s hd hd', ⟨a, e, s _ _ ha h, hl, fun y m => (hy y m).imp fun _ q => q.butL s hd hd'⟩, sv⟩
/-- any value that the law draws -/
def AnyV (H : Hp) (v : V) : Prop := ∃ k, IsK H v k ∧ (∃ o, LstK 2 H v o) ∧ (k = .dct → ∃ (a : Addr) (kvs : List (Key × V)), v = .ref a ∧ H a = some (.dK kvs) ∧ (∀ key x, valV kvs key = some x → ∃ o, LstK 2 H x o) ∧ kvs.length ≤ 1000)
theorem AnyV.kd {H : Hp} {v : V} (h : AnyV H v) : ∃ k, IsK H v k := let ⟨k, ik, _⟩ := h; ⟨k, ik⟩
theorem AnyV.lstK {H : Hp} {v : V} (h : AnyV H v) : ∃ o, LstK 2 H v o := let ⟨_, _, q, _⟩ := h; q
theorem AnyV.same {H H' : Hp} (s : Same H H') {v : V} (h : AnyV H v) : AnyV H' v := by
  obtain ⟨k, ik, ⟨o, ho⟩, hd⟩ := h
  refine ⟨k, ik.same s, ⟨o, ho.same s⟩, fun e => ?_⟩
  obtain ⟨a, kvs, e1, e2, e3, e4⟩ := hd e
  exact ⟨a, kvs, e1, s _ _ e2, fun key x hx => (e3 key x hx).imp fun _ q => q.same s, e4⟩
theorem AnyV.butD {H H' : Hp} {d : Addr} (s : SameBut d H H') {k1 k2 : List (Key × V)} (hd : H d = some (.dK k1)) (hd' : H' d = some (.dK k2)) (hk2 : ∀ key x, valV k2 key = some x → ∃ o, LstK 2 H' x o) (hl2 : k2.length ≤ 1000) {v : V} (h : AnyV H v) : AnyV H' v := by
  obtain ⟨k, ik, ⟨o, ho⟩, hv⟩ := h
  refine ⟨k, ik.butD s hd hd', ⟨o, ho.butD s hd hd'⟩, fun e => ?_⟩
  obtain ⟨a, kvs, e1, e2, e3, e4⟩ := hv e
  by_cases ha : a = d
  · exact ⟨a, k2, e1, by rw [ha]; exact hd', hk2, hl2⟩
  · exact ⟨a, kvs, e1, s _ _ ha e2, fun key x hx => (e3 key x hx).imp fun _ q => q.butD s hd hd', e4⟩
theorem AnyV.butL {H H' : Hp} {d : Addr} (s : SameBut d H H') {k1 k2 : List V} (hd : H d = some (.lst k1)) (hd' : H' d = some (.lst k2)) (hl2 : k2.length ≤ 2) (hk2 : ∀ y ∈ k2, ∃ k, IsK H' y k) {v : V} (h : AnyV H v) : AnyV H' v := by
  obtain ⟨k, ik, ho, hv⟩ := h
  refine ⟨k, ik.butL s hd hd', LstK.butL s hd hd' hl2 hk2 ho, fun e => ?_⟩
  obtain ⟨a, kvs, e1, e2, e3, e4⟩ := hv e
  exact ⟨a, kvs, e1, s _ _ (ne_of e2 hd (by intro z; cases z)) e2, fun key x hx => LstK.butL s hd hd' hl2 hk2 (e3 key x hx), e4⟩
theorem AnyV.but {H H' : Hp} {st : Addr} (s : SameBut st H H') {n z : Int} (hst : H st = some (.lst [.int n, .int z])) {m y : Int} (hst' : H' st = some (.lst [.int m, .int y])) {v : V} (h : AnyV H v) : AnyV H' v :=
  h.butL s hst hst' (by show 2 ≤ 2; decide) fun y hy => by
    rcases List.mem_cons.mp hy with e | hy
    · exact ⟨_, by rw [e]; exact .int _⟩
    · rcases List.mem_cons.mp hy with e | hy
      · exact ⟨_, by rw [e]; exact .int _⟩
      · cases hy
theorem anyV_flat {H : Hp} {v : V} {k : Kd} (h : IsK H v k) (h1 : k ≠ .lst) (h2 : k ≠ .dct) (sv : short v := by (intro _ h; cases h)) : AnyV H v := ⟨k, h, ⟨none, k, h, h1, sv⟩, fun e => absurd e h2⟩
theorem anyV_non {H : Hp} : AnyV H .non := anyV_flat .non (by decide) (by decide)
theorem anyV_bl {H : Hp} (b : Bool) : AnyV H (.bl b) := anyV_flat (.bl b) (by decide) (by decide)
theorem anyV_int {H : Hp} (b : Int) : AnyV H (.int b) := anyV_flat (.int b) (by decide) (by decide)
theorem anyV_str {H : Hp} (z : Str) (hz : z.length ≤ 1000 := by decide) : AnyV H (.str z) := anyV_flat (.str z) (by decide) (by decide) (fun y e => by cases e; exact hz)
theorem anyV_tup {H : Hp} {a : Addr} {xs : List V} (h : H a = some (.tup xs)) : AnyV H (.ref a) := anyV_flat (.tup h) (by decide) (by decide)
theorem anyV_lst {H : Hp} {a : Addr} {xs : List V} (h : H a = some (.lst xs)) (hl : xs.length ≤ 2) (hk : ∀ y ∈ xs, ∃ k, IsK H y k) : AnyV H (.ref a) := ⟨.lst, .lst h, ⟨some xs, .lst, .lst h, ⟨a, rfl, h, hl, hk⟩, short_ref _⟩, fun e => by cases e⟩
theorem anyV_dct {H : Hp} {a : Addr} {kvs : List (Key × V)} (h : H a = some (.dK kvs)) (hk : ∀ key x, valV kvs key = some x → ∃ o, LstK 2 H x o) (hl : kvs.length ≤ 1000) : AnyV H (.ref a) := ⟨.dct, .dct h, ⟨none, .dct, .dct h, by show Kd.dct ≠ Kd.lst; decide, short_ref _⟩, fun _ => ⟨a, kvs, rfl, h, hk, hl⟩⟩
theorem val_one {k : Key} {v : V} {key : Key} {x : V} (h : valV (mergeK [] [(k, v)]) key = some x) : x = v := by
  have e : mergeK [] [(k, v)] = [(k, v)] := rfl
  rw [e] at h
  by_cases q : k = key
  · rw [valV_pos q] at h
    exact (Option.some.inj h).symm
  · rw [valV_neg q] at h
    cases h
theorem val_two {k l : Key} {v u : V} (hkl : k ≠ l) {key : Key} {x : V} (h : valV (mergeK [] [(k, v), (l, u)]) key = some x) : x = v ∨ x = u := by
  have e : mergeK [] [(k, v), (l, u)] = [(k, v), (l, u)] := by
    show putK (putK [] k v) l u = _
    rw [show putK [] k v = [(k, v)] from rfl, putK_new _ (by rw [valV_neg hkl]; rfl)]
    rfl
  rw [e] at h
  by_cases q : k = key
  · rw [valV_pos q] at h
    exact .inl (Option.some.inj h).symm
  · rw [valV_neg q] at h
    by_cases q2 : l = key
    · rw [valV_pos q2] at h
      exact .inr (Option.some.inj h).symm
    · rw [valV_neg q2] at h
      cases h
theorem one_kd {H : Hp} {v : V} (h : ∃ k, IsK H v k) : ∀ y ∈ [v], ∃ k, IsK H y k := fun y hy => by
  have e : y = v := by simpa using hy
  rw [e]; exact h
theorem two_kd {H : Hp} {v u : V} (h : ∃ k, IsK H v k) (h2 : ∃ k, IsK H u k) : ∀ y ∈ [v, u], ∃ k, IsK H y k := fun y hy => by
  rcases List.mem_cons.mp hy with e | hy
  · rw [e]; exact h
  · have e : y = u := by simpa using hy
    rw [e]; exact h2
/-- no name; a tuple holds at most two texts -/
def ValF (H : Hp) (v : V) : Prop := (∀ z, v = .str z → nameS z = false) ∧ (∀ a xs, v = .ref a → H a = some (.tup xs) → ∃ zs : List Str, xs = zs.map V.str ∧ zs.length ≤ 2 ∧ ∀ z ∈ zs, PyData.strOk z = true) ∧ ∀ a kvs, v = .ref a → H a = some (.dK kvs) → ∃ ks : List (Str × V), kvs = ks.map (fun p => ((Sum.inr p.1 : Key), p.2)) ∧ (ks.map (·.1)).Nodup ∧ ks.length ≤ 2
theorem valF_str {H : Hp} {z : Str} (h : nameS z = false) : ValF H (.str z) := ⟨fun y e => (by cases e; exact h), fun _ _ e => (by cases e), fun _ _ e => (by cases e)⟩
theorem valF_sc {H : Hp} {v : V} (h : ∀ z, v ≠ .str z) (h2 : ∀ a, v ≠ .ref a) : ValF H v := ⟨fun y e => absurd e (h y), fun a _ e => absurd e (h2 a), fun a _ e => absurd e (h2 a)⟩
theorem valF_ref {H : Hp} {a : Addr} {xs : List V} (e : H a = some (.lst xs)) : ValF H (.ref a) := by
  refine ⟨fun _ e => (by cases e), fun b ys e1 e2 => ?_, fun b kvs e1 e2 => ?_⟩
  · cases e1
    rw [e] at e2
    cases e2
  · cases e1
    rw [e] at e2
    cases e2
theorem valF_tup {H : Hp} {a : Addr} {zs : List Str} (e : H a = some (.tup (zs.map V.str))) (hl : zs.length ≤ 2) (hs : ∀ z ∈ zs, PyData.strOk z = true) : ValF H (.ref a) := by
  refine ⟨fun _ e => (by cases e), fun b xs e1 e2 => ?_, fun b kvs e1 e2 => ?_⟩
  · cases e1
    rw [e] at e2
    cases e2
    exact ⟨zs, rfl, hl, hs⟩
  · cases e1
    rw [e] at e2
    cases e2
theorem valF_dct {H : Hp} {a : Addr} {ks : List (Str × V)} (e : H a = some (.dK (ks.map fun p => ((Sum.inr p.1 : Key), p.2)))) (nd : (ks.map (·.1)).Nodup) (hl : ks.length ≤ 2) : ValF H (.ref a) := by
  refine ⟨fun _ e => (by cases e), fun b xs e1 e2 => ?_, fun b kvs e1 e2 => ?_⟩
  · cases e1
    rw [e] at e2
    cases e2
  · cases e1
    rw [e] at e2
    cases e2
    exact ⟨ks, rfl, nd, hl⟩
theorem ValF.set {H : Hp} {st : Addr} {l : List V} {v : V} (h : ValF H v) : ValF (upd H st (.lst l)) v := by
  refine ⟨h.1, fun a xs e1 e2 => ?_, fun a kvs e1 e2 => ?_⟩
  · by_cases q : a = st
    · rw [q, upd_same] at e2
      cases e2
    · rw [upd_ne q] at e2
      exact h.2.1 a xs e1 e2
  · by_cases q : a = st
    · rw [q, upd_same] at e2
      cases e2
    · rw [upd_ne q] at e2
      exact h.2.2 a kvs e1 e2
section
variable {P : Program} {w : World} {K : PySem.W.Frag} {mg : Str → Option Value} {base : Heap}
/-- _law_value(state) -/
def spVal : Sp := fun vs H Q _ => ∃ (st : Addr), vs = [.ref st] ∧ StAt H st ∧ ∀ (v : V) (H' : Hp), SameBut st H H' → StAt H' st → AnyV H' v → (∀ r, v = .ref r → H r = none) → EqX (fun _ => False) 85 (rem (fun b => b = st) H') v v → ValF H' v → Q v H'
theorem ok_val {f : Addr} {fd : FuncData} (F : Fun K "_law_value" "_law_value" sLvalue f fd) (B : Bl mg) (cT : CF P w K mg base CX0 1 "_law_take" ["_law_state", "_law_many"] spTake) : FnOk P w K mg base CX0 2 f fd ["_law_state"] spVal := by
  refine F.ok scLvalue (fun vs H Q E h => ?_) (fun cdv A outer s H vs Q E hr h => ?_)
  · obtain ⟨st, rfl, _⟩ := h
    rfl
  · obtain ⟨st, rfl, hst, kq⟩ := h
    have esz : sizeLine = 16777216 := sizeLine_eq
    obtain ⟨n00, z00, est0, _⟩ := id hst
    have len0 : 0 ≤ sizeLine := Nat.zero_le _
    have len1 : 1 ≤ sizeLine := by rw [esz]; decide
    have len2 : 2 ≤ sizeLine := by rw [esz]; decide
    refine ⟨_, pss_cons (ps_set (i := 1) scLvalue.nd rfl (Or.inl rfl) pe_str)
      (pss_cons (ps_for PassesOwn.never rfl (pi_range1 (by rfl) B.rng (pa_cons pe_int pa_nil)) (pg_name (i := 2) scLvalue.nd rfl (Or.inl rfl)) (pss_one (ps_set (i := 1) scLvalue.nd rfl (Or.inl rfl) (pe_lst (pa_cons (pv 1) pa_nil)))))
      (pss_cons (ps_set (i := 3) scLvalue.nd rfl (Or.inl rfl) (pe_lst (pa_cons pe_non (pa_cons pe_bl (pa_cons pe_bl (pa_cons pe_int (pa_cons pe_int (pa_cons (pe_un un_neg pe_int) (pa_cons pe_int
          (pa_cons pe_str (pa_cons pe_str (pa_cons pe_str (pa_cons pe_str (pa_cons pe_str (pa_cons pe_str (pa_cons (pe_lst pa_nil) (pa_cons (pe_tup pa_nil) (pa_cons pe_dnewK (pa_cons (pe_lst (pa_cons pe_str pa_nil)) pa_nil)))))))))))))))))))
      (pss_cons (ps_set (i := 3) scLvalue.nd rfl (Or.inl rfl) (pe_op op_cat (pv 3) (pe_lst (pa_cons (pe_tup (pa_cons pe_str (pa_cons pe_str pa_nil))) (pa_cons (pe_tup (pa_cons pe_str pa_nil))
          (pa_cons (pe_disp (pps_cons pe_str pe_int pps_nil) (by rfl) (by rfl) (fun z => by cases z) (by decide))
          (pa_cons (pe_disp (pps_cons pe_str (pe_lst (pa_cons pe_str pa_nil)) (pps_cons pe_str (pe_lst (pa_cons pe_str pa_nil)) pps_nil)) (by rfl) (by rfl) (fun z => by cases z) (by decide))
          (pa_cons (pv 1) (pa_cons (pe_lst (pa_cons (pe_lst (pa_cons pe_int pa_nil)) (pa_cons (pe_disp (pps_cons pe_str (pe_lst pa_nil) pps_nil) (by rfl) (by rfl) (fun z => by cases z) (by decide)) pa_nil))) pa_nil)))))))))
      (pss_one (ps_ret (pe_ix ix_list (pv 3) (pe_cf cT hr pass0 (pa_cons (pv 0) (pa_cons (pe_callB call_len_seq (by rfl) B.len PySem.boot_len (pa_cons (pv 3) pa_nil)) pa_nil))) (fun _ _ => rfl))))))), ?_⟩
    refine ⟨80, rfl, by decide, by decide, for_it (walk_range (lo := 0) (n := (80 : Int).toNat)) (fun i σ H' => ∃ (v : V) (v2 : Option V), σ = [some (.ref st), some v, v2, none] ∧ Same H H' ∧ AnyV H' v ∧ (∀ r, v = .ref r → H r = none) ∧ EqX (fun _ => False) (i + 1) (rem (fun b => b = st) H') v v ∧ (0 < i → ∃ r xs, v = .ref r ∧ H' r = some (.lst xs)))
      ⟨_, none, rfl, Same.refl H, anyV_str _, (fun _ e => by cases e), ex_sc rfl, fun z => absurd z (Nat.lt_irrefl 0)⟩ (fun _ _ _ _ _ => True.intro) ?_ ?_⟩
    · rintro i x σ Hx H1 hi ⟨v, v2, rfl, s1, hv, hnv, xv, dv⟩ ⟨rfl, rfl⟩
      exact ⟨_, rfl, len1, fun p hp => ⟨_, _, rfl, s1.trans (Same.new hp), anyV_lst upd_same (by show 1 ≤ 2; decide) (one_kd (hv.same (Same.new hp)).kd), (fun r e => by cases e; exact s1.free hp), ex_lst ((rem_out (S := fun b => b = st) (Ne.symm (ne_of_none (s1 _ _ est0) hp))).trans upd_same) (by show 1 ≤ 1000; decide) (ex_one (xv.keep (((Same.new hp).keepsD).rem _))), fun _ => ⟨p, _, rfl, upd_same⟩⟩⟩
    · rintro σ H1 ⟨v, v2, rfl, s1, hv, hnv, xv, dv⟩
      obtain ⟨rv, xsv, evv, cv⟩ := dv (by decide)
      replace xv := xv.up (m := 82) (by decide)
      refine ⟨_, rfl, len0, fun a1 h1 => ?_⟩
      have ya1 : H a1 = none := s1.free h1
      have sJ1 : Same H1 (upd H1 a1 (.lst [])) := Same.new h1
      have wa1 : AnyV (upd H1 a1 (.lst [])) (.ref a1) := anyV_lst upd_same (Nat.zero_le _) (fun _ h => by cases h)
      have ca1 : (upd H1 a1 (.lst [])) a1 = some (.lst []) := upd_same
      generalize upd H1 a1 (.lst []) = J1 at sJ1 wa1 ca1 ⊢
      replace hv := hv.same sJ1
      replace xv := xv.keep ((sJ1.keepsD).rem _)
      replace cv := sJ1 _ _ cv
      replace s1 := s1.trans sJ1
      refine ⟨len0, fun a2 h2 => ?_⟩
      have ya2 : H a2 = none := s1.free h2
      have sJ2 : Same J1 (upd J1 a2 (.tup [])) := Same.new h2
      have wa2 : AnyV (upd J1 a2 (.tup [])) (.ref a2) := anyV_tup upd_same
      have ca2 : (upd J1 a2 (.tup [])) a2 = some (.tup []) := upd_same
      generalize upd J1 a2 (.tup []) = J2 at sJ2 wa2 ca2 ⊢
      replace hv := hv.same sJ2
      replace xv := xv.keep ((sJ2.keepsD).rem _)
      replace cv := sJ2 _ _ cv
      replace wa1 := wa1.same sJ2
      replace ca1 := sJ2 _ _ ca1
      replace s1 := s1.trans sJ2
      refine fun a3 h3 => ?_
      have ya3 : H a3 = none := s1.free h3
      have sJ3 : Same J2 (upd J2 a3 (.dK [])) := Same.new h3
      have wa3 : AnyV (upd J2 a3 (.dK [])) (.ref a3) := anyV_dct upd_same (fun _ _ h => by cases h) (Nat.zero_le _)
      have ca3 : (upd J2 a3 (.dK [])) a3 = some (.dK []) := upd_same
      generalize upd J2 a3 (.dK []) = J3 at sJ3 wa3 ca3 ⊢
      replace hv := hv.same sJ3
      replace xv := xv.keep ((sJ3.keepsD).rem _)
      replace cv := sJ3 _ _ cv
      replace wa1 := wa1.same sJ3
      replace ca1 := sJ3 _ _ ca1
      replace wa2 := wa2.same sJ3
      replace ca2 := sJ3 _ _ ca2
      replace s1 := s1.trans sJ3
      refine ⟨len1, fun a4 h4 => ?_⟩
      have ya4 : H a4 = none := s1.free h4
      have sJ4 : Same J3 (upd J3 a4 (.lst [.str "ann"])) := Same.new h4
      have wa4 : AnyV (upd J3 a4 (.lst [.str "ann"])) (.ref a4) := anyV_lst upd_same (by show 1 ≤ 2; decide) (one_kd ⟨_, .str _⟩)
      have ca4 : (upd J3 a4 (.lst [.str "ann"])) a4 = some (.lst [.str "ann"]) := upd_same
      generalize upd J3 a4 (.lst [.str "ann"]) = J4 at sJ4 wa4 ca4 ⊢
      replace hv := hv.same sJ4
      replace xv := xv.keep ((sJ4.keepsD).rem _)
      replace cv := sJ4 _ _ cv
      replace wa1 := wa1.same sJ4
      replace ca1 := sJ4 _ _ ca1
      replace wa2 := wa2.same sJ4
      replace ca2 := sJ4 _ _ ca2
      replace wa3 := wa3.same sJ4
      replace ca3 := sJ4 _ _ ca3
      replace s1 := s1.trans sJ4
      refine ⟨by show 17 ≤ sizeLine; rw [esz]; decide, fun L hL => ?_⟩
      have sJ5 : Same J4 (upd J4 L (.lst ([V.non, .bl true, .bl false, .int 0, .int 1, .int (-1), .int 7, .str "", .str "Ann", .str "abcdefghi", .str "an n", .str "ann\n", .str "ann1", .ref a1, .ref a2, .ref a3, .ref a4] : List V))) := Same.new hL
      have fL : (upd J4 L (.lst ([V.non, .bl true, .bl false, .int 0, .int 1, .int (-1), .int 7, .str "", .str "Ann", .str "abcdefghi", .str "an n", .str "ann\n", .str "ann1", .ref a1, .ref a2, .ref a3, .ref a4] : List V))) L = some (.lst ([V.non, .bl true, .bl false, .int 0, .int 1, .int (-1), .int 7, .str "", .str "Ann", .str "abcdefghi", .str "an n", .str "ann\n", .str "ann1", .ref a1, .ref a2, .ref a3, .ref a4] : List V)) := upd_same
      generalize upd J4 L (.lst ([V.non, .bl true, .bl false, .int 0, .int 1, .int (-1), .int 7, .str "", .str "Ann", .str "abcdefghi", .str "an n", .str "ann\n", .str "ann1", .ref a1, .ref a2, .ref a3, .ref a4] : List V)) = J5 at sJ5 fL ⊢
      replace hv := hv.same sJ5
      replace xv := xv.keep ((sJ5.keepsD).rem _)
      replace cv := sJ5 _ _ cv
      replace wa1 := wa1.same sJ5
      replace ca1 := sJ5 _ _ ca1
      replace wa2 := wa2.same sJ5
      replace ca2 := sJ5 _ _ ca2
      replace wa3 := wa3.same sJ5
      replace ca3 := sJ5 _ _ ca3
      replace wa4 := wa4.same sJ5
      replace ca4 := sJ5 _ _ ca4
      replace s1 := s1.trans sJ5
      refine ⟨_, rfl, len2, fun b1 g1 => ?_⟩
      have yb1 : H b1 = none := s1.free g1
      have sJ6 : Same J5 (upd J5 b1 (.tup [.str "ann", .str "bob"])) := Same.new g1
      have wb1 : AnyV (upd J5 b1 (.tup [.str "ann", .str "bob"])) (.ref b1) := anyV_tup upd_same
      have cb1 : (upd J5 b1 (.tup [.str "ann", .str "bob"])) b1 = some (.tup [.str "ann", .str "bob"]) := upd_same
      generalize upd J5 b1 (.tup [.str "ann", .str "bob"]) = J6 at sJ6 wb1 cb1 ⊢
      replace hv := hv.same sJ6
      replace xv := xv.keep ((sJ6.keepsD).rem _)
      replace cv := sJ6 _ _ cv
      replace wa1 := wa1.same sJ6
      replace ca1 := sJ6 _ _ ca1
      replace wa2 := wa2.same sJ6
      replace ca2 := sJ6 _ _ ca2
      replace wa3 := wa3.same sJ6
      replace ca3 := sJ6 _ _ ca3
      replace wa4 := wa4.same sJ6
      replace ca4 := sJ6 _ _ ca4
      replace fL := sJ6 _ _ fL
      replace s1 := s1.trans sJ6
      refine ⟨len1, fun b2 g2 => ?_⟩
      have yb2 : H b2 = none := s1.free g2
      have sJ7 : Same J6 (upd J6 b2 (.tup [.str "ann"])) := Same.new g2
      have wb2 : AnyV (upd J6 b2 (.tup [.str "ann"])) (.ref b2) := anyV_tup upd_same
      have cb2 : (upd J6 b2 (.tup [.str "ann"])) b2 = some (.tup [.str "ann"]) := upd_same
      generalize upd J6 b2 (.tup [.str "ann"]) = J7 at sJ7 wb2 cb2 ⊢
      replace hv := hv.same sJ7
      replace xv := xv.keep ((sJ7.keepsD).rem _)
      replace cv := sJ7 _ _ cv
      replace wa1 := wa1.same sJ7
      replace ca1 := sJ7 _ _ ca1
      replace wa2 := wa2.same sJ7
      replace ca2 := sJ7 _ _ ca2
      replace wa3 := wa3.same sJ7
      replace ca3 := sJ7 _ _ ca3
      replace wa4 := wa4.same sJ7
      replace ca4 := sJ7 _ _ ca4
      replace wb1 := wb1.same sJ7
      replace cb1 := sJ7 _ _ cb1
      replace fL := sJ7 _ _ fL
      replace s1 := s1.trans sJ7
      refine fun b3 g3 => ?_
      have na3_b3 : a3 ≠ b3 := ne_of_none ca3 g3
      have yb3 : H b3 = none := s1.free g3
      have zb3 : H b3 = none := s1.free g3
      have sJ8 : Same J7 (upd J7 b3 (.dK [])) := Same.new g3
      have fb3 : (upd J7 b3 (.dK [])) b3 = some (.dK []) := upd_same
      generalize upd J7 b3 (.dK []) = J8 at sJ8 fb3 ⊢
      replace hv := hv.same sJ8
      replace wa1 := wa1.same sJ8
      replace ca1 := sJ8 _ _ ca1
      replace wa2 := wa2.same sJ8
      replace ca2 := sJ8 _ _ ca2
      replace wa3 := wa3.same sJ8
      replace ca3 := sJ8 _ _ ca3
      replace wa4 := wa4.same sJ8
      replace ca4 := sJ8 _ _ ca4
      replace wb1 := wb1.same sJ8
      replace cb1 := sJ8 _ _ cb1
      replace wb2 := wb2.same sJ8
      replace cb2 := sJ8 _ _ cb2
      replace fL := sJ8 _ _ fL
      replace s1 := s1.trans sJ8
      refine ⟨fb3, [(Sum.inr "ann", .int 1)], rfl, by decide, ?_⟩
      have bJ9 : SameBut b3 J8 (upd J8 b3 (.dK (mergeK [] ([(Sum.inr "ann", V.int 1)] : List (Key × V))))) := SameBut.set
      have eJ9 : (upd J8 b3 (.dK (mergeK [] ([(Sum.inr "ann", V.int 1)] : List (Key × V))))) b3 = some (.dK (mergeK [] ([(Sum.inr "ann", V.int 1)] : List (Key × V)))) := upd_same
      have tJ9 : Same H (upd J8 b3 (.dK (mergeK [] ([(Sum.inr "ann", V.int 1)] : List (Key × V))))) := fun b o e => by rw [upd_ne (ne_of_none e zb3)]; exact s1 _ _ e
      generalize upd J8 b3 (.dK (mergeK [] ([(Sum.inr "ann", V.int 1)] : List (Key × V)))) = J9 at bJ9 eJ9 tJ9 ⊢
      have ll9 : ((mergeK [] ([(Sum.inr "ann", V.int 1)] : List (Key × V)))).length ≤ 1000 := Nat.le_trans (length_mergeK _ _) (by show 0 + _ ≤ 1000; simp)
      have kk9 : ∀ key x, valV (mergeK [] ([(Sum.inr "ann", V.int 1)] : List (Key × V))) key = some x → ∃ o, LstK 2 J9 x o := fun key x h => by
        rw [val_one h]
        exact (anyV_int 1).lstK
      replace hv := AnyV.butD bJ9 fb3 eJ9 kk9 ll9 hv
      replace xv := xv.keep ((Same.keepsD (fun b o e => bJ9 b o (ne_of_none e g3) (sJ8 _ _ e))).rem _)
      replace cv := (fun (b : Addr) (o : HO) (e : _ = some o) => bJ9 b o (ne_of_none e g3) (sJ8 _ _ e)) _ _ cv
      replace wa1 := AnyV.butD bJ9 fb3 eJ9 kk9 ll9 wa1
      replace ca1 := bJ9 _ _ (ne_of ca1 fb3 (by intro z; cases z)) ca1
      replace wa2 := AnyV.butD bJ9 fb3 eJ9 kk9 ll9 wa2
      replace ca2 := bJ9 _ _ (ne_of ca2 fb3 (by intro z; cases z)) ca2
      replace wa3 := AnyV.butD bJ9 fb3 eJ9 kk9 ll9 wa3
      replace ca3 := bJ9 _ _ na3_b3 ca3
      replace wa4 := AnyV.butD bJ9 fb3 eJ9 kk9 ll9 wa4
      replace ca4 := bJ9 _ _ (ne_of ca4 fb3 (by intro z; cases z)) ca4
      replace wb1 := AnyV.butD bJ9 fb3 eJ9 kk9 ll9 wb1
      replace cb1 := bJ9 _ _ (ne_of cb1 fb3 (by intro z; cases z)) cb1
      replace wb2 := AnyV.butD bJ9 fb3 eJ9 kk9 ll9 wb2
      replace cb2 := bJ9 _ _ (ne_of cb2 fb3 (by intro z; cases z)) cb2
      replace fL := bJ9 _ _ (ne_of fL fb3 (by intro z; cases z)) fL
      have wb3 : AnyV J9 (.ref b3) := anyV_dct eJ9 kk9 ll9
      have cb3 := eJ9
      replace s1 := tJ9
      refine fun b4 g4 => ?_
      have na3_b4 : a3 ≠ b4 := ne_of_none ca3 g4
      have nb3_b4 : b3 ≠ b4 := ne_of_none cb3 g4
      have yb4 : H b4 = none := s1.free g4
      have zb4 : H b4 = none := s1.free g4
      have sJ10 : Same J9 (upd J9 b4 (.dK [])) := Same.new g4
      have fb4 : (upd J9 b4 (.dK [])) b4 = some (.dK []) := upd_same
      generalize upd J9 b4 (.dK []) = J10 at sJ10 fb4 ⊢
      replace hv := hv.same sJ10
      replace wa1 := wa1.same sJ10
      replace ca1 := sJ10 _ _ ca1
      replace wa2 := wa2.same sJ10
      replace ca2 := sJ10 _ _ ca2
      replace wa3 := wa3.same sJ10
      replace ca3 := sJ10 _ _ ca3
      replace wa4 := wa4.same sJ10
      replace ca4 := sJ10 _ _ ca4
      replace wb1 := wb1.same sJ10
      replace cb1 := sJ10 _ _ cb1
      replace wb2 := wb2.same sJ10
      replace cb2 := sJ10 _ _ cb2
      replace wb3 := wb3.same sJ10
      replace cb3 := sJ10 _ _ cb3
      replace fL := sJ10 _ _ fL
      replace s1 := s1.trans sJ10
      refine ⟨len1, fun b5 g5 => ?_⟩
      have yb5 : H b5 = none := s1.free g5
      have sJ11 : Same J10 (upd J10 b5 (.lst [.str "bob"])) := Same.new g5
      have wb5 : AnyV (upd J10 b5 (.lst [.str "bob"])) (.ref b5) := anyV_lst upd_same (by show 1 ≤ 2; decide) (one_kd ⟨_, .str _⟩)
      have cb5 : (upd J10 b5 (.lst [.str "bob"])) b5 = some (.lst [.str "bob"]) := upd_same
      generalize upd J10 b5 (.lst [.str "bob"]) = J11 at sJ11 wb5 cb5 ⊢
      replace hv := hv.same sJ11
      replace wa1 := wa1.same sJ11
      replace ca1 := sJ11 _ _ ca1
      replace wa2 := wa2.same sJ11
      replace ca2 := sJ11 _ _ ca2
      replace wa3 := wa3.same sJ11
      replace ca3 := sJ11 _ _ ca3
      replace wa4 := wa4.same sJ11
      replace ca4 := sJ11 _ _ ca4
      replace wb1 := wb1.same sJ11
      replace cb1 := sJ11 _ _ cb1
      replace wb2 := wb2.same sJ11
      replace cb2 := sJ11 _ _ cb2
      replace wb3 := wb3.same sJ11
      replace cb3 := sJ11 _ _ cb3
      replace fL := sJ11 _ _ fL
      replace fb4 := sJ11 _ _ fb4
      replace s1 := s1.trans sJ11
      refine ⟨len1, fun b6 g6 => ?_⟩
      have yb6 : H b6 = none := s1.free g6
      have sJ12 : Same J11 (upd J11 b6 (.lst [.str "ann"])) := Same.new g6
      have wb6 : AnyV (upd J11 b6 (.lst [.str "ann"])) (.ref b6) := anyV_lst upd_same (by show 1 ≤ 2; decide) (one_kd ⟨_, .str _⟩)
      have cb6 : (upd J11 b6 (.lst [.str "ann"])) b6 = some (.lst [.str "ann"]) := upd_same
      generalize upd J11 b6 (.lst [.str "ann"]) = J12 at sJ12 wb6 cb6 ⊢
      replace hv := hv.same sJ12
      replace wa1 := wa1.same sJ12
      replace ca1 := sJ12 _ _ ca1
      replace wa2 := wa2.same sJ12
      replace ca2 := sJ12 _ _ ca2
      replace wa3 := wa3.same sJ12
      replace ca3 := sJ12 _ _ ca3
      replace wa4 := wa4.same sJ12
      replace ca4 := sJ12 _ _ ca4
      replace wb1 := wb1.same sJ12
      replace cb1 := sJ12 _ _ cb1
      replace wb2 := wb2.same sJ12
      replace cb2 := sJ12 _ _ cb2
      replace wb3 := wb3.same sJ12
      replace cb3 := sJ12 _ _ cb3
      replace wb5 := wb5.same sJ12
      replace cb5 := sJ12 _ _ cb5
      replace fL := sJ12 _ _ fL
      replace fb4 := sJ12 _ _ fb4
      replace s1 := s1.trans sJ12
      refine ⟨fb4, [(Sum.inr "ann", .ref b5), (Sum.inr "bob", .ref b6)], rfl, (by show 2 ≤ 15; decide), ?_⟩
      have bJ13 : SameBut b4 J12 (upd J12 b4 (.dK (mergeK [] ([(Sum.inr "ann", V.ref b5), (Sum.inr "bob", V.ref b6)] : List (Key × V))))) := SameBut.set
      have eJ13 : (upd J12 b4 (.dK (mergeK [] ([(Sum.inr "ann", V.ref b5), (Sum.inr "bob", V.ref b6)] : List (Key × V))))) b4 = some (.dK (mergeK [] ([(Sum.inr "ann", V.ref b5), (Sum.inr "bob", V.ref b6)] : List (Key × V)))) := upd_same
      have tJ13 : Same H (upd J12 b4 (.dK (mergeK [] ([(Sum.inr "ann", V.ref b5), (Sum.inr "bob", V.ref b6)] : List (Key × V))))) := fun b o e => by rw [upd_ne (ne_of_none e zb4)]; exact s1 _ _ e
      generalize upd J12 b4 (.dK (mergeK [] ([(Sum.inr "ann", V.ref b5), (Sum.inr "bob", V.ref b6)] : List (Key × V)))) = J13 at bJ13 eJ13 tJ13 ⊢
      have ll13 : ((mergeK [] ([(Sum.inr "ann", V.ref b5), (Sum.inr "bob", V.ref b6)] : List (Key × V)))).length ≤ 1000 := Nat.le_trans (length_mergeK _ _) (by show 0 + _ ≤ 1000; simp)
      have kk13 : ∀ key x, valV (mergeK [] ([(Sum.inr "ann", V.ref b5), (Sum.inr "bob", V.ref b6)] : List (Key × V))) key = some x → ∃ o, LstK 2 J13 x o := fun key x h => by
        rcases val_two (by decide +kernel) h with e | e
        · rw [e]
          exact wb5.lstK.imp fun _ q => q.butD bJ13 fb4 eJ13
        · rw [e]
          exact wb6.lstK.imp fun _ q => q.butD bJ13 fb4 eJ13
      replace hv := AnyV.butD bJ13 fb4 eJ13 kk13 ll13 hv
      replace xv := xv.keep ((Same.keepsD (fun b o e => bJ13 b o (ne_of_none e g4) (sJ12 _ _ (sJ11 _ _ (sJ10 _ _ e))))).rem _)
      replace cv := (fun (b : Addr) (o : HO) (e : _ = some o) => bJ13 b o (ne_of_none e g4) (sJ12 _ _ (sJ11 _ _ (sJ10 _ _ e)))) _ _ cv
      replace wa1 := AnyV.butD bJ13 fb4 eJ13 kk13 ll13 wa1
      replace ca1 := bJ13 _ _ (ne_of ca1 fb4 (by intro z; cases z)) ca1
      replace wa2 := AnyV.butD bJ13 fb4 eJ13 kk13 ll13 wa2
      replace ca2 := bJ13 _ _ (ne_of ca2 fb4 (by intro z; cases z)) ca2
      replace wa3 := AnyV.butD bJ13 fb4 eJ13 kk13 ll13 wa3
      replace ca3 := bJ13 _ _ na3_b4 ca3
      replace wa4 := AnyV.butD bJ13 fb4 eJ13 kk13 ll13 wa4
      replace ca4 := bJ13 _ _ (ne_of ca4 fb4 (by intro z; cases z)) ca4
      replace wb1 := AnyV.butD bJ13 fb4 eJ13 kk13 ll13 wb1
      replace cb1 := bJ13 _ _ (ne_of cb1 fb4 (by intro z; cases z)) cb1
      replace wb2 := AnyV.butD bJ13 fb4 eJ13 kk13 ll13 wb2
      replace cb2 := bJ13 _ _ (ne_of cb2 fb4 (by intro z; cases z)) cb2
      replace wb3 := AnyV.butD bJ13 fb4 eJ13 kk13 ll13 wb3
      replace cb3 := bJ13 _ _ nb3_b4 cb3
      replace wb5 := AnyV.butD bJ13 fb4 eJ13 kk13 ll13 wb5
      replace cb5 := bJ13 _ _ (ne_of cb5 fb4 (by intro z; cases z)) cb5
      replace wb6 := AnyV.butD bJ13 fb4 eJ13 kk13 ll13 wb6
      replace cb6 := bJ13 _ _ (ne_of cb6 fb4 (by intro z; cases z)) cb6
      replace fL := bJ13 _ _ (ne_of fL fb4 (by intro z; cases z)) fL
      have wb4 : AnyV J13 (.ref b4) := anyV_dct eJ13 kk13 ll13
      have cb4 := eJ13
      replace s1 := tJ13
      refine ⟨_, rfl, len1, fun b7 g7 => ?_⟩
      have yb7 : H b7 = none := s1.free g7
      have sJ14 : Same J13 (upd J13 b7 (.lst [.int 1])) := Same.new g7
      have wb7 : AnyV (upd J13 b7 (.lst [.int 1])) (.ref b7) := anyV_lst upd_same (by show 1 ≤ 2; decide) (one_kd ⟨_, .int _⟩)
      have cb7 : (upd J13 b7 (.lst [.int 1])) b7 = some (.lst [.int 1]) := upd_same
      generalize upd J13 b7 (.lst [.int 1]) = J14 at sJ14 wb7 cb7 ⊢
      replace hv := hv.same sJ14
      replace xv := xv.keep ((sJ14.keepsD).rem _)
      replace cv := sJ14 _ _ cv
      replace wa1 := wa1.same sJ14
      replace ca1 := sJ14 _ _ ca1
      replace wa2 := wa2.same sJ14
      replace ca2 := sJ14 _ _ ca2
      replace wa3 := wa3.same sJ14
      replace ca3 := sJ14 _ _ ca3
      replace wa4 := wa4.same sJ14
      replace ca4 := sJ14 _ _ ca4
      replace wb1 := wb1.same sJ14
      replace cb1 := sJ14 _ _ cb1
      replace wb2 := wb2.same sJ14
      replace cb2 := sJ14 _ _ cb2
      replace wb3 := wb3.same sJ14
      replace cb3 := sJ14 _ _ cb3
      replace wb5 := wb5.same sJ14
      replace cb5 := sJ14 _ _ cb5
      replace wb6 := wb6.same sJ14
      replace cb6 := sJ14 _ _ cb6
      replace wb4 := wb4.same sJ14
      replace cb4 := sJ14 _ _ cb4
      replace fL := sJ14 _ _ fL
      replace s1 := s1.trans sJ14
      refine fun b8 g8 => ?_
      have na3_b8 : a3 ≠ b8 := ne_of_none ca3 g8
      have nb3_b8 : b3 ≠ b8 := ne_of_none cb3 g8
      have nb4_b8 : b4 ≠ b8 := ne_of_none cb4 g8
      have yb8 : H b8 = none := s1.free g8
      have zb8 : H b8 = none := s1.free g8
      have sJ15 : Same J14 (upd J14 b8 (.dK [])) := Same.new g8
      have fb8 : (upd J14 b8 (.dK [])) b8 = some (.dK []) := upd_same
      generalize upd J14 b8 (.dK []) = J15 at sJ15 fb8 ⊢
      replace hv := hv.same sJ15
      replace wa1 := wa1.same sJ15
      replace ca1 := sJ15 _ _ ca1
      replace wa2 := wa2.same sJ15
      replace ca2 := sJ15 _ _ ca2
      replace wa3 := wa3.same sJ15
      replace ca3 := sJ15 _ _ ca3
      replace wa4 := wa4.same sJ15
      replace ca4 := sJ15 _ _ ca4
      replace wb1 := wb1.same sJ15
      replace cb1 := sJ15 _ _ cb1
      replace wb2 := wb2.same sJ15
      replace cb2 := sJ15 _ _ cb2
      replace wb3 := wb3.same sJ15
      replace cb3 := sJ15 _ _ cb3
      replace wb5 := wb5.same sJ15
      replace cb5 := sJ15 _ _ cb5
      replace wb6 := wb6.same sJ15
      replace cb6 := sJ15 _ _ cb6
      replace wb4 := wb4.same sJ15
      replace cb4 := sJ15 _ _ cb4
      replace wb7 := wb7.same sJ15
      replace cb7 := sJ15 _ _ cb7
      replace fL := sJ15 _ _ fL
      replace s1 := s1.trans sJ15
      refine ⟨len0, fun b9 g9 => ?_⟩
      have yb9 : H b9 = none := s1.free g9
      have sJ16 : Same J15 (upd J15 b9 (.lst [])) := Same.new g9
      have wb9 : AnyV (upd J15 b9 (.lst [])) (.ref b9) := anyV_lst upd_same (Nat.zero_le _) (fun _ h => by cases h)
      have cb9 : (upd J15 b9 (.lst [])) b9 = some (.lst []) := upd_same
      generalize upd J15 b9 (.lst []) = J16 at sJ16 wb9 cb9 ⊢
      replace hv := hv.same sJ16
      replace wa1 := wa1.same sJ16
      replace ca1 := sJ16 _ _ ca1
      replace wa2 := wa2.same sJ16
      replace ca2 := sJ16 _ _ ca2
      replace wa3 := wa3.same sJ16
      replace ca3 := sJ16 _ _ ca3
      replace wa4 := wa4.same sJ16
      replace ca4 := sJ16 _ _ ca4
      replace wb1 := wb1.same sJ16
      replace cb1 := sJ16 _ _ cb1
      replace wb2 := wb2.same sJ16
      replace cb2 := sJ16 _ _ cb2
      replace wb3 := wb3.same sJ16
      replace cb3 := sJ16 _ _ cb3
      replace wb5 := wb5.same sJ16
      replace cb5 := sJ16 _ _ cb5
      replace wb6 := wb6.same sJ16
      replace cb6 := sJ16 _ _ cb6
      replace wb4 := wb4.same sJ16
      replace cb4 := sJ16 _ _ cb4
      replace wb7 := wb7.same sJ16
      replace cb7 := sJ16 _ _ cb7
      replace fL := sJ16 _ _ fL
      replace fb8 := sJ16 _ _ fb8
      replace s1 := s1.trans sJ16
      refine ⟨fb8, [(Sum.inr "a", .ref b9)], rfl, (by show 1 ≤ 15; decide), ?_⟩
      have bJ17 : SameBut b8 J16 (upd J16 b8 (.dK (mergeK [] ([(Sum.inr "a", V.ref b9)] : List (Key × V))))) := SameBut.set
      have eJ17 : (upd J16 b8 (.dK (mergeK [] ([(Sum.inr "a", V.ref b9)] : List (Key × V))))) b8 = some (.dK (mergeK [] ([(Sum.inr "a", V.ref b9)] : List (Key × V)))) := upd_same
      have tJ17 : Same H (upd J16 b8 (.dK (mergeK [] ([(Sum.inr "a", V.ref b9)] : List (Key × V))))) := fun b o e => by rw [upd_ne (ne_of_none e zb8)]; exact s1 _ _ e
      generalize upd J16 b8 (.dK (mergeK [] ([(Sum.inr "a", V.ref b9)] : List (Key × V)))) = J17 at bJ17 eJ17 tJ17 ⊢
      have ll17 : ((mergeK [] ([(Sum.inr "a", V.ref b9)] : List (Key × V)))).length ≤ 1000 := Nat.le_trans (length_mergeK _ _) (by show 0 + _ ≤ 1000; simp)
      have kk17 : ∀ key x, valV (mergeK [] ([(Sum.inr "a", V.ref b9)] : List (Key × V))) key = some x → ∃ o, LstK 2 J17 x o := fun key x h => by
        rw [val_one h]
        exact wb9.lstK.imp fun _ q => q.butD bJ17 fb8 eJ17
      replace hv := AnyV.butD bJ17 fb8 eJ17 kk17 ll17 hv
      replace xv := xv.keep ((Same.keepsD (fun b o e => bJ17 b o (ne_of_none e g8) (sJ16 _ _ (sJ15 _ _ e)))).rem _)
      replace cv := (fun (b : Addr) (o : HO) (e : _ = some o) => bJ17 b o (ne_of_none e g8) (sJ16 _ _ (sJ15 _ _ e))) _ _ cv
      replace wa1 := AnyV.butD bJ17 fb8 eJ17 kk17 ll17 wa1
      replace ca1 := bJ17 _ _ (ne_of ca1 fb8 (by intro z; cases z)) ca1
      replace wa2 := AnyV.butD bJ17 fb8 eJ17 kk17 ll17 wa2
      replace ca2 := bJ17 _ _ (ne_of ca2 fb8 (by intro z; cases z)) ca2
      replace wa3 := AnyV.butD bJ17 fb8 eJ17 kk17 ll17 wa3
      replace ca3 := bJ17 _ _ na3_b8 ca3
      replace wa4 := AnyV.butD bJ17 fb8 eJ17 kk17 ll17 wa4
      replace ca4 := bJ17 _ _ (ne_of ca4 fb8 (by intro z; cases z)) ca4
      replace wb1 := AnyV.butD bJ17 fb8 eJ17 kk17 ll17 wb1
      replace cb1 := bJ17 _ _ (ne_of cb1 fb8 (by intro z; cases z)) cb1
      replace wb2 := AnyV.butD bJ17 fb8 eJ17 kk17 ll17 wb2
      replace cb2 := bJ17 _ _ (ne_of cb2 fb8 (by intro z; cases z)) cb2
      replace wb3 := AnyV.butD bJ17 fb8 eJ17 kk17 ll17 wb3
      replace cb3 := bJ17 _ _ nb3_b8 cb3
      replace wb5 := AnyV.butD bJ17 fb8 eJ17 kk17 ll17 wb5
      replace cb5 := bJ17 _ _ (ne_of cb5 fb8 (by intro z; cases z)) cb5
      replace wb6 := AnyV.butD bJ17 fb8 eJ17 kk17 ll17 wb6
      replace cb6 := bJ17 _ _ (ne_of cb6 fb8 (by intro z; cases z)) cb6
      replace wb4 := AnyV.butD bJ17 fb8 eJ17 kk17 ll17 wb4
      replace cb4 := bJ17 _ _ nb4_b8 cb4
      replace wb7 := AnyV.butD bJ17 fb8 eJ17 kk17 ll17 wb7
      replace cb7 := bJ17 _ _ (ne_of cb7 fb8 (by intro z; cases z)) cb7
      replace wb9 := AnyV.butD bJ17 fb8 eJ17 kk17 ll17 wb9
      replace cb9 := bJ17 _ _ (ne_of cb9 fb8 (by intro z; cases z)) cb9
      replace fL := bJ17 _ _ (ne_of fL fb8 (by intro z; cases z)) fL
      have wb8 : AnyV J17 (.ref b8) := anyV_dct eJ17 kk17 ll17
      have cb8 := eJ17
      replace s1 := tJ17
      refine ⟨len2, fun c1 k1 => ?_⟩
      have yc1 : H c1 = none := s1.free k1
      have sJ18 : Same J17 (upd J17 c1 (.lst [.ref b7, .ref b8])) := Same.new k1
      have wc1 : AnyV (upd J17 c1 (.lst [.ref b7, .ref b8])) (.ref c1) := anyV_lst upd_same (by show 2 ≤ 2; decide) (two_kd (wb7.same sJ18).kd (wb8.same sJ18).kd)
      have cc1 : (upd J17 c1 (.lst [.ref b7, .ref b8])) c1 = some (.lst [.ref b7, .ref b8]) := upd_same
      generalize upd J17 c1 (.lst [.ref b7, .ref b8]) = J18 at sJ18 wc1 cc1 ⊢
      replace hv := hv.same sJ18
      replace xv := xv.keep ((sJ18.keepsD).rem _)
      replace cv := sJ18 _ _ cv
      replace wa1 := wa1.same sJ18
      replace ca1 := sJ18 _ _ ca1
      replace wa2 := wa2.same sJ18
      replace ca2 := sJ18 _ _ ca2
      replace wa3 := wa3.same sJ18
      replace ca3 := sJ18 _ _ ca3
      replace wa4 := wa4.same sJ18
      replace ca4 := sJ18 _ _ ca4
      replace wb1 := wb1.same sJ18
      replace cb1 := sJ18 _ _ cb1
      replace wb2 := wb2.same sJ18
      replace cb2 := sJ18 _ _ cb2
      replace wb3 := wb3.same sJ18
      replace cb3 := sJ18 _ _ cb3
      replace wb5 := wb5.same sJ18
      replace cb5 := sJ18 _ _ cb5
      replace wb6 := wb6.same sJ18
      replace cb6 := sJ18 _ _ cb6
      replace wb4 := wb4.same sJ18
      replace cb4 := sJ18 _ _ cb4
      replace wb7 := wb7.same sJ18
      replace cb7 := sJ18 _ _ cb7
      replace wb9 := wb9.same sJ18
      replace cb9 := sJ18 _ _ cb9
      replace wb8 := wb8.same sJ18
      replace cb8 := sJ18 _ _ cb8
      replace fL := sJ18 _ _ fL
      replace s1 := s1.trans sJ18
      refine ⟨by show 6 ≤ sizeLine; rw [esz]; decide, fun M hM => ?_⟩
      have sJ19 : Same J18 (upd J18 M (.lst ([.ref b1, .ref b2, .ref b3, .ref b4, v, .ref c1] : List V))) := Same.new hM
      have fM : (upd J18 M (.lst ([.ref b1, .ref b2, .ref b3, .ref b4, v, .ref c1] : List V))) M = some (.lst ([.ref b1, .ref b2, .ref b3, .ref b4, v, .ref c1] : List V)) := upd_same
      generalize upd J18 M (.lst ([.ref b1, .ref b2, .ref b3, .ref b4, v, .ref c1] : List V)) = J19 at sJ19 fM ⊢
      replace hv := hv.same sJ19
      replace xv := xv.keep ((sJ19.keepsD).rem _)
      replace cv := sJ19 _ _ cv
      replace wa1 := wa1.same sJ19
      replace ca1 := sJ19 _ _ ca1
      replace wa2 := wa2.same sJ19
      replace ca2 := sJ19 _ _ ca2
      replace wa3 := wa3.same sJ19
      replace ca3 := sJ19 _ _ ca3
      replace wa4 := wa4.same sJ19
      replace ca4 := sJ19 _ _ ca4
      replace wb1 := wb1.same sJ19
      replace cb1 := sJ19 _ _ cb1
      replace wb2 := wb2.same sJ19
      replace cb2 := sJ19 _ _ cb2
      replace wb3 := wb3.same sJ19
      replace cb3 := sJ19 _ _ cb3
      replace wb5 := wb5.same sJ19
      replace cb5 := sJ19 _ _ cb5
      replace wb6 := wb6.same sJ19
      replace cb6 := sJ19 _ _ cb6
      replace wb4 := wb4.same sJ19
      replace cb4 := sJ19 _ _ cb4
      replace wb7 := wb7.same sJ19
      replace cb7 := sJ19 _ _ cb7
      replace wb9 := wb9.same sJ19
      replace cb9 := sJ19 _ _ cb9
      replace wb8 := wb8.same sJ19
      replace cb8 := sJ19 _ _ cb8
      replace wc1 := wc1.same sJ19
      replace cc1 := sJ19 _ _ cc1
      replace fL := sJ19 _ _ fL
      replace s1 := s1.trans sJ19
      refine ⟨L, M, _, _, rfl, rfl, fL, fM, by show 17 + 6 ≤ sizeLine; rw [esz]; decide, fun N hN => ?_⟩
      have hNs : N ≠ st := by
        obtain ⟨n2, z2, e2, _⟩ := hst.same s1
        intro z
        rw [z, e2] at hN
        cases hN
      have sJ20 : Same J19 (upd J19 N (.lst (([V.non, .bl true, .bl false, .int 0, .int 1, .int (-1), .int 7, .str "", .str "Ann", .str "abcdefghi", .str "an n", .str "ann\n", .str "ann1", .ref a1, .ref a2, .ref a3, .ref a4] : List V) ++ ([.ref b1, .ref b2, .ref b3, .ref b4, v, .ref c1] : List V)))) := Same.new hN
      have fN : (upd J19 N (.lst (([V.non, .bl true, .bl false, .int 0, .int 1, .int (-1), .int 7, .str "", .str "Ann", .str "abcdefghi", .str "an n", .str "ann\n", .str "ann1", .ref a1, .ref a2, .ref a3, .ref a4] : List V) ++ ([.ref b1, .ref b2, .ref b3, .ref b4, v, .ref c1] : List V)))) N = some (.lst (([V.non, .bl true, .bl false, .int 0, .int 1, .int (-1), .int 7, .str "", .str "Ann", .str "abcdefghi", .str "an n", .str "ann\n", .str "ann1", .ref a1, .ref a2, .ref a3, .ref a4] : List V) ++ ([.ref b1, .ref b2, .ref b3, .ref b4, v, .ref c1] : List V))) := upd_same
      generalize upd J19 N (.lst (([V.non, .bl true, .bl false, .int 0, .int 1, .int (-1), .int 7, .str "", .str "Ann", .str "abcdefghi", .str "an n", .str "ann\n", .str "ann1", .ref a1, .ref a2, .ref a3, .ref a4] : List V) ++ ([.ref b1, .ref b2, .ref b3, .ref b4, v, .ref c1] : List V))) = J20 at sJ20 fN ⊢
      replace hv := hv.same sJ20
      replace xv := xv.keep ((sJ20.keepsD).rem _)
      replace cv := sJ20 _ _ cv
      replace wa1 := wa1.same sJ20
      replace ca1 := sJ20 _ _ ca1
      replace wa2 := wa2.same sJ20
      replace ca2 := sJ20 _ _ ca2
      replace wa3 := wa3.same sJ20
      replace ca3 := sJ20 _ _ ca3
      replace wa4 := wa4.same sJ20
      replace ca4 := sJ20 _ _ ca4
      replace wb1 := wb1.same sJ20
      replace cb1 := sJ20 _ _ cb1
      replace wb2 := wb2.same sJ20
      replace cb2 := sJ20 _ _ cb2
      replace wb3 := wb3.same sJ20
      replace cb3 := sJ20 _ _ cb3
      replace wb5 := wb5.same sJ20
      replace cb5 := sJ20 _ _ cb5
      replace wb6 := wb6.same sJ20
      replace cb6 := sJ20 _ _ cb6
      replace wb4 := wb4.same sJ20
      replace cb4 := sJ20 _ _ cb4
      replace wb7 := wb7.same sJ20
      replace cb7 := sJ20 _ _ cb7
      replace wb9 := wb9.same sJ20
      replace cb9 := sJ20 _ _ cb9
      replace wb8 := wb8.same sJ20
      replace cb8 := sJ20 _ _ cb8
      replace wc1 := wc1.same sJ20
      replace cc1 := sJ20 _ _ cc1
      replace fL := sJ20 _ _ fL
      replace fM := sJ20 _ _ fM
      replace s1 := s1.trans sJ20
      have hall : ∀ y ∈ (([V.non, .bl true, .bl false, .int 0, .int 1, .int (-1), .int 7, .str "", .str "Ann", .str "abcdefghi", .str "an n", .str "ann\n", .str "ann1", .ref a1, .ref a2, .ref a3, .ref a4] : List V) ++ ([.ref b1, .ref b2, .ref b3, .ref b4, v, .ref c1] : List V)), AnyV J20 y := by
        intro y hy
        simp only [List.cons_append, List.nil_append, List.mem_cons, List.not_mem_nil, or_false] at hy
        rcases hy with rfl | rfl | rfl | rfl | rfl | rfl | rfl | rfl | rfl | rfl | rfl | rfl | rfl | rfl | rfl | rfl | rfl | rfl | rfl | rfl | rfl | rfl | rfl
        · exact anyV_non
        · exact anyV_bl _
        · exact anyV_bl _
        · exact anyV_int _
        · exact anyV_int _
        · exact anyV_int _
        · exact anyV_int _
        · exact anyV_str _
        · exact anyV_str _
        · exact anyV_str _
        · exact anyV_str _
        · exact anyV_str _
        · exact anyV_str _
        · exact wa1
        · exact wa2
        · exact wa3
        · exact wa4
        · exact wb1
        · exact wb2
        · exact wb3
        · exact wb4
        · exact hv
        · exact wc1
      have hst20 : ∀ r, H r = none → r ≠ st := fun r h e => by
        rw [e, est0] at h
        cases h
      have cl : ∀ {a : Addr} {o : HO}, H a = none → J20 a = some o → rem (fun b => b = st) J20 a = some o := fun {a o} h e => (rem_out (S := fun b => b = st) (hst20 a h)).trans e
      have hX : ∀ y ∈ (([V.non, .bl true, .bl false, .int 0, .int 1, .int (-1), .int 7, .str "", .str "Ann", .str "abcdefghi", .str "an n", .str "ann\n", .str "ann1", .ref a1, .ref a2, .ref a3, .ref a4] : List V) ++ ([.ref b1, .ref b2, .ref b3, .ref b4, v, .ref c1] : List V)), EqX (fun _ => False) 85 (rem (fun b => b = st) J20) y y := by
        intro y hy
        simp only [List.cons_append, List.nil_append, List.mem_cons, List.not_mem_nil, or_false] at hy
        rcases hy with rfl | rfl | rfl | rfl | rfl | rfl | rfl | rfl | rfl | rfl | rfl | rfl | rfl | rfl | rfl | rfl | rfl | rfl | rfl | rfl | rfl | rfl | rfl
        · exact ex_sc rfl
        · exact ex_sc rfl
        · exact ex_sc rfl
        · exact ex_sc rfl
        · exact ex_sc rfl
        · exact ex_sc rfl
        · exact ex_sc rfl
        · exact ex_sc rfl
        · exact ex_sc rfl
        · exact ex_sc rfl
        · exact ex_sc rfl
        · exact ex_sc rfl
        · exact ex_sc rfl
        · exact ex_lst (cl ya1 ca1) (Nat.zero_le _) (fun _ h => by cases h)
        · exact ex_tup (cl ya2 ca2) (Nat.zero_le _) (fun _ h => by cases h)
        · exact ex_dct (cl ya3 ca3) (Nat.zero_le _) List.nodup_nil (fun _ h => by cases h)
        · exact ex_lst (cl ya4 ca4) (by show 1 ≤ 1000; decide) (ex_one (ex_sc rfl))
        · exact ex_tup (cl yb1 cb1) (by show 2 ≤ 1000; decide) (ex_two (ex_sc rfl) (ex_sc rfl))
        · exact ex_tup (cl yb2 cb2) (by show 1 ≤ 1000; decide) (ex_one (ex_sc rfl))
        · exact ex_dct (cl yb3 cb3) (by show 1 ≤ 1000; decide) (by decide +kernel) (fun p h => by
            have e : p = ((Sum.inr ("ann" : Str) : Key), V.int 1) := by
              have h : p ∈ [((Sum.inr ("ann" : Str) : Key), V.int 1)] := h
              simpa using h
            rw [e]
            exact ex_sc rfl)
        · have e4 : mergeK [] ([(Sum.inr "ann", V.ref b5), (Sum.inr "bob", V.ref b6)] : List (Key × V)) = ([(Sum.inr "ann", V.ref b5), (Sum.inr "bob", V.ref b6)] : List (Key × V)) := by
            show putK (putK ([] : List (Key × V)) (Sum.inr "ann") (V.ref b5)) (Sum.inr "bob") (V.ref b6) = _
            rw [show putK ([] : List (Key × V)) (Sum.inr "ann") (V.ref b5) = ([(Sum.inr "ann", V.ref b5)] : List (Key × V)) from rfl, putK_new _ (by rw [valV_neg (by show ¬ (Sum.inr ("ann" : Str) : Key) = Sum.inr ("bob" : Str); decide +kernel)]; rfl)]
            rfl
          rw [e4] at cb4
          have n5 : b5 ≠ b4 := ne_of cb5 cb4 (by intro z; cases z)
          have n6 : b6 ≠ b4 := ne_of cb6 cb4 (by intro z; cases z)
          refine ex_dct (cl yb4 cb4) (by show 2 ≤ 1000; decide) (by show [(Sum.inr "ann" : Key), Sum.inr "bob"].Nodup; decide +kernel) (fun p h => ?_)
          rcases List.mem_cons.mp h with e | h
          · rw [e]
            exact ex_lst ((rem_out (S := fun c => c = b4 ∨ c = b4) (fun z => by rcases z with z | z <;> exact n5 z)).trans (cl yb5 cb5)) (by show 1 ≤ 1000; decide) (ex_one (ex_sc rfl))
          · have e : p = ((Sum.inr ("bob" : Str) : Key), V.ref b6) := by simpa using h
            rw [e]
            exact ex_lst ((rem_out (S := fun c => c = b4 ∨ c = b4) (fun z => by rcases z with z | z <;> exact n6 z)).trans (cl yb6 cb6)) (by show 1 ≤ 1000; decide) (ex_one (ex_sc rfl))
        · exact xv.up (by decide)
        · have e8 : mergeK [] ([(Sum.inr "a", V.ref b9)] : List (Key × V)) = ([(Sum.inr "a", V.ref b9)] : List (Key × V)) := rfl
          rw [e8] at cb8
          have n9 : b9 ≠ b8 := ne_of cb9 cb8 (by intro z; cases z)
          refine ex_lst (cl yc1 cc1) (by show 2 ≤ 1000; decide) (ex_two (ex_lst (cl yb7 cb7) (by show 1 ≤ 1000; decide) (ex_one (ex_sc rfl))) (ex_dct (cl yb8 cb8) (by show 1 ≤ 1000; decide) (by show [(Sum.inr "a" : Key)].Nodup; decide +kernel) (fun p h => ?_)))
          have e : p = ((Sum.inr ("a" : Str) : Key), V.ref b9) := by simpa using h
          rw [e]
          exact ex_lst ((rem_out (S := fun c => c = b8 ∨ c = b8) (fun z => by rcases z with z | z <;> exact n9 z)).trans (cl yb9 cb9)) (Nat.zero_le _) (fun _ h => by cases h)
      have hF : ∀ y ∈ (([V.non, .bl true, .bl false, .int 0, .int 1, .int (-1), .int 7, .str "", .str "Ann", .str "abcdefghi", .str "an n", .str "ann\n", .str "ann1", .ref a1, .ref a2, .ref a3, .ref a4] : List V) ++ ([.ref b1, .ref b2, .ref b3, .ref b4, v, .ref c1] : List V)), ValF J20 y := by
        intro y hy
        simp only [List.cons_append, List.nil_append, List.mem_cons, List.not_mem_nil, or_false] at hy
        rcases hy with rfl | rfl | rfl | rfl | rfl | rfl | rfl | rfl | rfl | rfl | rfl | rfl | rfl | rfl | rfl | rfl | rfl | rfl | rfl | rfl | rfl | rfl | rfl
        · exact valF_sc (fun _ e => by cases e) (fun _ e => by cases e)
        · exact valF_sc (fun _ e => by cases e) (fun _ e => by cases e)
        · exact valF_sc (fun _ e => by cases e) (fun _ e => by cases e)
        · exact valF_sc (fun _ e => by cases e) (fun _ e => by cases e)
        · exact valF_sc (fun _ e => by cases e) (fun _ e => by cases e)
        · exact valF_sc (fun _ e => by cases e) (fun _ e => by cases e)
        · exact valF_sc (fun _ e => by cases e) (fun _ e => by cases e)
        · exact valF_str (by decide +kernel)
        · exact valF_str (by decide +kernel)
        · exact valF_str (by decide +kernel)
        · exact valF_str (by decide +kernel)
        · exact valF_str (by decide +kernel)
        · exact valF_str (by decide +kernel)
        · exact valF_ref ca1
        · exact valF_tup (zs := []) ca2 (by decide) (fun _ h => by cases h)
        · exact valF_dct (ks := []) ca3 List.nodup_nil (by decide)
        · exact valF_ref ca4
        · exact valF_tup (zs := ["ann", "bob"]) cb1 (by decide) (by decide +kernel)
        · exact valF_tup (zs := ["ann"]) cb2 (by decide) (by decide +kernel)
        · exact valF_dct (ks := [("ann", .int 1)]) cb3 (by decide +kernel) (by show 1 ≤ 2; decide)
        · have e4 : mergeK [] ([(Sum.inr "ann", V.ref b5), (Sum.inr "bob", V.ref b6)] : List (Key × V)) = ([(Sum.inr "ann", V.ref b5), (Sum.inr "bob", V.ref b6)] : List (Key × V)) := by
            show putK (putK ([] : List (Key × V)) (Sum.inr "ann") (V.ref b5)) (Sum.inr "bob") (V.ref b6) = _
            rw [show putK ([] : List (Key × V)) (Sum.inr "ann") (V.ref b5) = ([(Sum.inr "ann", V.ref b5)] : List (Key × V)) from rfl, putK_new _ (by rw [valV_neg (by show ¬ (Sum.inr ("ann" : Str) : Key) = Sum.inr ("bob" : Str); decide +kernel)]; rfl)]
            rfl
          exact valF_dct (ks := [("ann", .ref b5), ("bob", .ref b6)]) (by rw [cb4, e4]; rfl) (by show [("ann" : Str), "bob"].Nodup; decide +kernel) (by show 2 ≤ 2; decide)
        · rw [evv]
          exact valF_ref cv
        · exact valF_ref cc1
      have hfresh : ∀ y ∈ (([V.non, .bl true, .bl false, .int 0, .int 1, .int (-1), .int 7, .str "", .str "Ann", .str "abcdefghi", .str "an n", .str "ann\n", .str "ann1", .ref a1, .ref a2, .ref a3, .ref a4] : List V) ++ ([.ref b1, .ref b2, .ref b3, .ref b4, v, .ref c1] : List V)), ∀ r, y = .ref r → H r = none := by
        intro y hy r e
        simp only [List.cons_append, List.nil_append, List.mem_cons, List.not_mem_nil, or_false] at hy
        rcases hy with rfl | rfl | rfl | rfl | rfl | rfl | rfl | rfl | rfl | rfl | rfl | rfl | rfl | rfl | rfl | rfl | rfl | rfl | rfl | rfl | rfl | rfl | rfl
        all_goals first | exact hnv r e | (cases e; assumption) | cases e
      refine ⟨_, rfl, _, rfl, _, rfl, N, _, rfl, .inl (SqL.of fN), st, 23, rfl, by decide, by decide, hst.same s1, fun d n0 z0 hd0 hd1 hn0 hz0 hz1 => ?_⟩
      obtain ⟨n1, z1, est, _⟩ := hst.same s1
      have hlen : (([V.non, .bl true, .bl false, .int 0, .int 1, .int (-1), .int 7, .str "", .str "Ann", .str "abcdefghi", .str "an n", .str "ann\n", .str "ann1", .ref a1, .ref a2, .ref a3, .ref a4] : List V) ++ ([.ref b1, .ref b2, .ref b3, .ref b4, v, .ref c1] : List V)).length = 23 := rfl
      obtain ⟨y, ey⟩ : ∃ y, (([V.non, .bl true, .bl false, .int 0, .int 1, .int (-1), .int 7, .str "", .str "Ann", .str "abcdefghi", .str "an n", .str "ann\n", .str "ann1", .ref a1, .ref a2, .ref a3, .ref a4] : List V) ++ ([.ref b1, .ref b2, .ref b3, .ref b4, v, .ref c1] : List V))[d.toNat]? = some y := ⟨_, List.getElem?_eq_getElem (by rw [hlen]; omega)⟩
      have hy := hall y (List.mem_of_getElem? ey)
      refine ⟨N, _, d, y, rfl, rfl, SqL.of (by rw [upd_ne hNs]; exact fN), ?_, kq y _ ((s1.but st).trans SameBut.set) ⟨n0, z0, upd_same, hn0, hz0, hz1⟩ (hy.but SameBut.set est upd_same) (hfresh y (List.mem_of_getElem? ey)) ((hX y (List.mem_of_getElem? ey)).keep fun b o t e => by
        obtain ⟨nb, e⟩ := rem_some e
        exact (rem_out (S := fun b => b = st) nb).trans (by rw [upd_ne nb]; exact e)) (hF y (List.mem_of_getElem? ey)).set⟩
      have q := atI_nat ey
      rw [show ((d.toNat : Nat) : Int) = d by omega] at q
      exact q
end
end Qp
namespace Qp
open PySem L2
/-- a value that may be no dealing -/
def DV (K : PySem.W.Frag) (H : Hp) (x : V) : Option (List (Key × V)) → Prop
  | none => NotD K H x
  | some kvs => ∃ d, x = .ref d ∧ H d = some (.dK kvs) ∧ ∀ key v, valV kvs key = some v → ∃ k, IsK H v k
theorem DV.same {K : PySem.W.Frag} {H H' : Hp} (s : Same H H') {x : V} {o : Option (List (Key × V))} (h : DV K H x o) : DV K H' x o := by
  cases o with
  | none => exact NotD.same s h
  | some kvs =>
    obtain ⟨a, e, h1, h2⟩ := h
    exact ⟨a, e, s _ _ h1, fun key v hv => (h2 key v hv).imp fun _ q => q.same s⟩
def unV : V → Str
  | .str z => z
  | _ => ""
def okD (kvs : List (Key × V)) (ns : List Str) (ws : Str → List Str) (a : Str) (v : V) : Bool := decide (v = .non) || (inS v ns && inS v (opn ws a) && decide (valV kvs (Sum.inr (unV v)) = some (.str a)))
def okA (kvs : List (Key × V)) (ns : List Str) (ws : Str → List Str) (a : Str) : Bool := match valV kvs (Sum.inr a) with
  | some v => okD kvs ns ws a v
  | none => false
def isD (ns : List Str) (ws : Str → List Str) : Option (List (Key × V)) → Bool
  | none => false
  | some kvs => hasB kvs ns && ns.all (okA kvs ns ws)
theorem has_all {kvs : List (Key × V)} {ns : List Str} (h : hasB kvs ns = true) : ∀ z ∈ ns, (valV kvs (Sum.inr z)).isSome = true := by
  unfold hasB at h
  rw [Bool.and_eq_true] at h
  exact List.all_eq_true.mp h.2
end Qp
namespace Qp
open PySem L2
/-- a dealing's values, as they lie in it -/
structure DlA (kvs : List (Key × V)) (ns : List Str) (ws : Str → List Str) : Prop where
  v : ∀ a ∈ ns, valV kvs (Sum.inr a) = some .non ∨ ∃ h, valV kvs (Sum.inr a) = some (.str h) ∧ h ∈ ns ∧ h ∈ opn ws a
theorem dlA_of {kvs : List (Key × V)} {ns : List Str} {ws : Str → List Str} (h : isD ns ws (some kvs) = true) : DlA kvs ns ws := ⟨fun a ha => by
  have h : (hasB kvs ns && ns.all (okA kvs ns ws)) = true := h
  rw [Bool.and_eq_true, List.all_eq_true] at h
  have q := h.2 a ha
  unfold okA at q
  cases e : valV kvs (Sum.inr a) with
  | none => rw [e] at q; cases q
  | some v =>
    rw [e] at q
    simp only at q
    unfold okD at q
    rw [Bool.or_eq_true] at q
    rcases q with q | q
    · exact .inl (by rw [of_decide_eq_true q])
    · rw [Bool.and_eq_true, Bool.and_eq_true] at q
      obtain ⟨z, hz, rfl⟩ := inS_iff.mp q.1.1
      have q2 := q.1.2
      rw [inS_str] at q2
      exact .inr ⟨z, rfl, hz, of_decide_eq_true q2⟩⟩
end Qp
namespace Qp
open PySem L2
section
variable {P : Program} {w : World} {K : PySem.W.Frag} {mg : Str → Option Value} {base : Heap}
/-- _law_mutual(names, wishes) -/
def spMut : Sp := fun vs H Q _ => ∃ (n d : Addr) (ns ord : List Str) (ws : Str → List Str), vs = [.ref n, .ref d] ∧ H n = some (lstO ns) ∧ RowsG H d ord (fun a => lstO (ws a)) ∧ ns.Nodup ∧ ns.length ≤ 1000 ∧ (∀ a ∈ ns, a ∈ ord ∧ (ws a).length ≤ 1000 ∧ ∀ b ∈ ws a, b ∈ ord) ∧
  ∀ D H', Same H H' → RowsG H' D ns (fun a => lstO (opn ws a)) → Q (.ref D) H'
theorem ok_mut {f : Addr} {fd : FuncData} (F : Fun K "_law_mutual" "_law_mutual" sLmutual f fd) (B : Bl mg) : FnOk P w K mg base CX0 1 f fd ["_law_names_here", "_law_wishes_here"] spMut := by
  refine F.ok scLmutual (fun vs H Q E h => ?_) (fun cdv A outer s H vs Q E hr h => ?_)
  · obtain ⟨n, d, ns, ord, ws, rfl, _⟩ := h
    rfl
  · obtain ⟨n, d, ns, ord, ws, rfl, hn, hR, hnd, hlen, hcl, kq⟩ := h
    have hu := hu_of hr
    have esz : sizeLine = 16777216 := sizeLine_eq
    refine ⟨_, pss_cons (ps_set (i := 2) scLmutual.nd rfl (Or.inl rfl) pe_dnewK)
      (pss_cons (ps_for PassesOwn.never rfl (pi_list (pv 0)) (pg_name (i := 3) scLmutual.nd rfl (Or.inr rfl))
        (pss_one (ps_dput hu (pv 2) (pv 3) (pe_lc (own := [("_law_b", 4)]) (g := gName 4) rfl scLmutual.nd (pi_list (pe_dget hu (pv 1) (pv 3) (fun _ _ => rfl))) (blkOk_by (own := [("_law_b", 4)]) (N := ["_law_names_here", "_law_wishes_here", "_law_mutual_here", "_law_a", "_law_b"]) (sc := defScope sLmutual) (by decide +kernel))
          (fun _ _ _ _ _ => pg_name (i := 4) scLmutual.nd rfl (Or.inl rfl)) (fun _ _ _ _ _ => pts_one (pt_cmpR (op_inSK (K := K) rfl hr.units) (pv 3) (pe_dget hu (pv 1) (pv 4) (fun _ _ => rfl)) (by rfl))) (fun _ _ _ _ _ => pv 4)) rfl)))
      (pss_one (ps_ret (pv 2)))), ?_⟩
    obtain ⟨ad, hd, hrows⟩ := hR
    refine fun D hD => ?_
    have s0 : Same H (upd H D (.dK [])) := Same.new hD
    have R0 : RowsG (upd H D (.dK [])) D [] (fun a => lstO (opn ws a)) := RowsG.nil upd_same
    generalize upd H D (.dK []) = H0 at s0 R0
    refine ⟨_, rfl, n, rfl, ⟨_, SqL.of (s0 _ _ hn)⟩, for_it walk_list (fun i σ H' => ∃ v : Option V, σ = [some (.ref n), some (.ref d), some (.ref D), v, none] ∧ Same H H' ∧ RowsG H' D (ns.take i) (fun a => lstO (opn ws a))) ⟨none, rfl, s0, R0⟩ (fun i σ H' _ ⟨_, _, z, _⟩ => SqL.of (z _ _ hn)) ?_ ?_⟩
    · rintro i x σ Hx H1 hi ⟨v, rfl, s1, R1⟩ ⟨rfl, hx⟩
      rw [List.length_map] at hi
      rw [List.getElem?_map] at hx
      cases ea : ns[i]? with
      | none => rw [ea] at hx; cases hx
      | some a =>
        rw [ea] at hx
        cases hx
        have ha : a ∈ ns := List.mem_of_getElem? ea
        obtain ⟨hao, hl1, hl2⟩ := hcl a ha
        have g2 : H1 (ad a) = some (lstO (ws a)) := s1 _ _ (hrows a hao).1
        have gL : SqL K H1 (ad a) ((ws a).map V.str) := SqL.of g2
        refine ⟨_, rfl, _, rfl, d, _, rfl, by rw [← valV_rows (ad := ad) hao]; exact DGet.k (k := Sum.inr a) (s1 _ _ hd), ad a, rfl, ⟨_, gL⟩, fun L hL2 => lc_it (walk_list (xs := (ws a).map V.str)) (fun j H' => Same H1 H' ∧ H' L = some (.lst ((((ws a).take j).filter fun b => decide (a ∈ ws b)).map V.str))) ⟨Same.new hL2, upd_same⟩ (fun j H' _ z => z.1.seq gL) ?_ ?_⟩
        · rintro j y Hy H2 hj ⟨s2, hL3⟩ ⟨rfl, hy⟩
          rw [List.length_map] at hj
          rw [List.getElem?_map] at hy
          cases eb : (ws a)[j]? with
          | none => rw [eb] at hy; cases hy
          | some b =>
            rw [eb] at hy
            cases hy
            have hb : b ∈ ord := hl2 b (List.mem_of_getElem? eb)
            have g4' : SqL K H2 (ad b) ((ws b).map V.str) := SqL.of (s2 _ _ (s1 _ _ (hrows b hb).1))
            refine ⟨rfl, _, rfl, _, rfl, _, rfl, d, _, rfl, by rw [← valV_rows (ad := ad) hb]; exact DGet.k (k := Sum.inr b) (s2 _ _ (s1 _ _ hd)), ad b, ws b, rfl, .inl g4', .flat rfl, _, rfl, ?_⟩
            have einS : inS (V.str a) (ws b) = decide (a ∈ ws b) := inS_str
            rw [einS]
            have tk : ((ws a).take (j + 1)).filter (fun b => decide (a ∈ ws b)) = ((ws a).take j).filter (fun b => decide (a ∈ ws b)) ++ [b].filter (fun b => decide (a ∈ ws b)) := by
              rw [take_snoc eb, List.filter_append]
            have hlt : ((((ws a).take j).filter fun b => decide (a ∈ ws b)).map V.str).length < sizeLine := by
              have q1 := List.length_filter_le (fun b => decide (a ∈ ws b)) ((ws a).take j)
              rw [List.length_take] at q1
              rw [List.length_map]
              omega
            by_cases em : a ∈ ws b
            · rw [decide_eq_true em]
              refine iteT ⟨_, rfl, _, hL3, hlt, fun b' o' e' => ?_, ?_⟩
              · rw [upd_ne (ne_of_none e' hL2)]
                exact s2 _ _ e'
              · rw [upd_same, tk, List.filter_cons_of_pos (by exact decide_eq_true em), List.filter_nil, List.map_append]
                rfl
            · rw [decide_eq_false em]
              refine iteF ⟨s2, ?_⟩
              rw [hL3, tk, List.filter_cons_of_neg (by rw [decide_eq_false em]; decide), List.filter_nil, List.append_nil]
        · rintro H2 ⟨s2, hL3⟩
          rw [List.length_map, List.take_of_length_le (Nat.le_refl _)] at hL3
          have hDL : L ≠ D := by
            obtain ⟨ad2, e2, _⟩ := R1
            intro z
            rw [z, e2] at hL2
            cases hL2
          obtain ⟨kvs, h1, h2, h3⟩ := R1.snoc s2 (not_mem_take hnd ea) (p := L) hL3 hDL
          refine ⟨_, rfl, _, rfl, D, _, rfl, DPut.k (k := Sum.inr a) h1 (by rw [h2, List.length_take]; omega), _, rfl, fun b o e => ?_, ?_⟩
          · rw [upd_ne (ne_of_none e hD)]
            exact s2 _ _ (s1 _ _ e)
          · rw [take_snoc ea]
            exact h3
    · rintro σ H1 ⟨v, rfl, s1, R1⟩
      rw [List.length_map, List.take_of_length_le (Nat.le_refl _)] at R1
      exact ⟨_, rfl, kq D H1 s1 R1⟩
end
end Qp
namespace Qp
open PySem L2
def leS (a b : Str) : Prop := a.cps.toList ≤ b.cps.toList
theorem rising_pw : ∀ (p : Str) (l : List Str), PyProof.Rows.risingS p l = true → (p :: l).Pairwise leS
  | p, [], _ => List.pairwise_singleton leS p
  | p, x :: r, h => by
    have h' : (!PySem.Spec.ltCps x.cps.toList p.cps.toList && PyProof.Rows.risingS x r) = true := h
    rw [Bool.and_eq_true] at h'
    obtain ⟨h1, h2⟩ := h'
    have ih := rising_pw x r h2
    have hpx : leS p x := by
      rw [PyProof.Rows.ltCps_eq] at h1
      have : ¬ (x.cps.toList < p.cps.toList) := by simpa using h1
      exact List.not_lt.mp this
    refine List.pairwise_cons.mpr ⟨fun y hy => ?_, ih⟩
    rcases List.mem_cons.mp hy with e | hy
    · rw [e]; exact hpx
    · exact List.le_trans hpx ((List.pairwise_cons.mp ih).1 y hy)
theorem sorted_pw {l : List Str} (h : PyProof.Rows.sortedS l = true) : l.Pairwise leS := by
  cases l with
  | nil => exact List.Pairwise.nil
  | cons x r => exact rising_pw x r h
/-! ### nested rows of sorted ones are sorted pairs -/
def pz (g : Str → List Str) (a : Str) : List (Str × Str) := ((g a).filter fun b => decide (a.cps.toList < b.cps.toList)).map fun b => (a, b)
theorem pz_srtd {g : Str → List Str} {a : Str} (h : (g a).Pairwise leS) : SrtO.Srtd ltZ (pz g a) := by
  unfold pz
  refine List.pairwise_map.mpr (List.Pairwise.imp (fun {b c} hbc => ?_) (h.filter _))
  show QP.lexS (a.cps.toList, c.cps.toList) (a.cps.toList, b.cps.toList) = false
  exact QP.lexS_no.mpr (.inl ⟨rfl, hbc⟩)
theorem pzs_srtd {g : Str → List Str} : ∀ {ys : List Str}, ys.Pairwise leS → ys.Nodup → (∀ a ∈ ys, (g a).Pairwise leS) → SrtO.Srtd ltZ (ys.flatMap (pz g))
  | [], _, _, _ => List.Pairwise.nil
  | a :: r, h, hn, hg => by
    obtain ⟨h1, h2⟩ := List.pairwise_cons.mp h
    obtain ⟨n1, n2⟩ := List.nodup_cons.mp hn
    rw [List.flatMap_cons]
    refine SrtO.srtd_app.mpr ⟨pz_srtd (hg a List.mem_cons_self), pzs_srtd h2 n2 fun b hb => hg b (List.mem_cons_of_mem _ hb), fun p hp q hq => ?_⟩
    obtain ⟨b, hb, rfl⟩ := List.mem_map.mp hp
    obtain ⟨c, hc, hq⟩ := List.mem_flatMap.mp hq
    obtain ⟨d, hd, rfl⟩ := List.mem_map.mp hq
    show QP.lexS (c.cps.toList, d.cps.toList) (a.cps.toList, b.cps.toList) = false
    refine QP.lexS_no.mpr (.inr ⟨fun e => ?_, h1 c hc⟩)
    exact n1 (str_ext e ▸ hc)
theorem flat_perm {g k : Str → List (Str × Str)} : ∀ {l : List Str}, (∀ a ∈ l, (g a).Perm (k a)) → (l.flatMap g).Perm (l.flatMap k)
  | [], _ => List.Perm.refl _
  | a :: r, h => by
    rw [List.flatMap_cons, List.flatMap_cons]
    exact (h a List.mem_cons_self).append (flat_perm fun b hb => h b (List.mem_cons_of_mem _ hb))
theorem pzs_perm {g ws : Str → List Str} {ys ps : List Str} (hy : ys.Perm ps) (hg : ∀ a ∈ ys, (g a).Perm (opn ws a)) : (ys.flatMap (pz g)).Perm (prs ps ws) := by
  refine (flat_perm fun a ha => ?_).trans (List.Perm.flatMap_right _ hy)
  exact ((hg a ha).filter _).map _
theorem ltZ_anti {p q : Str × Str} (h1 : ltZ p q = false) (h2 : ltZ q p = false) : p = q := by
  rcases QP.lexS_no.mp h1 with ⟨e1, l1⟩ | ⟨n1, l1⟩
  · rcases QP.lexS_no.mp h2 with ⟨e2, l2⟩ | ⟨n2, l2⟩
    · have a1 : p.1 = q.1 := str_ext e2
      have a2 : p.2 = q.2 := str_ext (List.le_antisymm l2 l1)
      exact Prod.ext a1 a2
    · exact absurd e1.symm n2
  · rcases QP.lexS_no.mp h2 with ⟨e2, l2⟩ | ⟨n2, l2⟩
    · exact absurd e2.symm n1
    · exact absurd (List.le_antisymm l1 l2) n1
theorem srtZ_uniq : ∀ {l m : List (Str × Str)}, SrtO.Srtd ltZ l → SrtO.Srtd ltZ m → l.Perm m → l = m
  | [], m, _, _, p => (List.Perm.eq_nil p.symm).symm
  | x :: l, [], _, _, p => absurd p.length_eq (by simp)
  | x :: l, y :: m, hl, hm, p => by
    have e : x = y := by
      rcases List.mem_cons.mp (p.mem_iff.mp (List.mem_cons_self (a := x) (l := l))) with e | q
      · exact e
      · rcases List.mem_cons.mp (p.mem_iff.mpr (List.mem_cons_self (a := y) (l := m))) with e | q2
        · exact e.symm
        · exact ltZ_anti ((List.pairwise_cons.mp hm).1 x q) ((List.pairwise_cons.mp hl).1 y q2)
    subst e
    rw [srtZ_uniq (List.pairwise_cons.mp hl).2 (List.pairwise_cons.mp hm).2 p.cons_inv]
theorem PairsAt.updL {H : Hp} {l b : Addr} {zs : List (Str × Str)} {xs ys : List V} (h : PairsAt H l zs) (e : H b = some (.lst xs)) (n : l ≠ b) : PairsAt (upd H b (.lst ys)) l zs := by
  obtain ⟨us, k, e1, q, r⟩ := h
  refine ⟨us, k, by rw [upd_ne n]; exact e1, fun y hy => ?_, r⟩
  obtain ⟨t, ey, et⟩ := q y hy
  exact ⟨t, ey, by rw [upd_ne (ne_of et e (by intro z; cases z))]; exact et⟩
end Qp
namespace Qp
open PySem L2
theorem strOk_name {z : Str} (h : nameS z = true) : PyData.strOk z = true := by
  unfold nameS at h
  rw [Bool.and_eq_true] at h
  have h2 := h.2
  rw [List.all_eq_true] at h2
  unfold PyData.strOk
  rw [Array.all_eq_true']
  intro c hc
  have q := h2 c (by simpa using hc)
  unfold lowC at q
  rw [Bool.and_eq_true] at q
  have := of_decide_eq_true q.2
  exact decide_eq_true (by omega)
theorem lay_all : ∀ {ds : List PyData}, (∀ d ∈ ds, PyData.canLay0 d = true) → PyData.canLayAll0 ds = true
  | [], _ => by simp [PyData.canLayAll0]
  | d :: ds, h => by
    have ih := lay_all (ds := ds) fun y hy => h y (List.mem_cons_of_mem _ hy)
    unfold PyData.canLayAll0
    rw [h d List.mem_cons_self, ih]
    rfl
theorem depth_all : ∀ {ds : List PyData} {n : Nat}, (∀ d ∈ ds, PyData.depth d ≤ n) → PyData.depthAll ds ≤ n
  | [], _, _ => by simp [PyData.depthAll]
  | d :: ds, n, h => by
    have ih := depth_all (ds := ds) (n := n) fun y hy => h y (List.mem_cons_of_mem _ hy)
    have h1 := h d List.mem_cons_self
    unfold PyData.depthAll
    omega
theorem shaped_list {ds : List PyData} (h : ∀ d ∈ ds, PyData.canLay0 d = true ∧ PyData.depth d ≤ 9) : SeqAt.shaped (.list ds) = true := by
  unfold SeqAt.shaped
  rw [Bool.and_eq_true]
  refine ⟨?_, decide_eq_true ?_⟩
  · unfold PyData.canLay0
    exact lay_all fun d hd => (h d hd).1
  · have := depth_all (n := 9) fun d hd => (h d hd).2
    simp only [PyData.depth]
    omega
theorem str_data {z : Str} (h : nameS z = true) : PyData.canLay0 (.str z) = true ∧ PyData.depth (.str z) ≤ 9 := by
  constructor
  · unfold PyData.canLay0
    exact strOk_name h
  · simp [PyData.depth]
theorem pair_data {p : Str × Str} (h1 : nameS p.1 = true) (h2 : nameS p.2 = true) : PyData.canLay0 (.tuple [.str p.1, .str p.2]) = true ∧ PyData.depth (.tuple [.str p.1, .str p.2]) ≤ 9 := by
  constructor
  · unfold PyData.canLay0
    exact lay_all fun d hd => by
      rcases List.mem_cons.mp hd with e | hd
      · rw [e]; exact (str_data h1).1
      · have e : d = .str p.2 := by simpa using hd
        rw [e]; exact (str_data h2).1
  · simp [PyData.depth, PyData.depthAll]
theorem dp_strs {K : PySem.W.Frag} {H : Hp} : ∀ zs : List Str, DpAll K H (zs.map V.str) (zs.map PyData.str)
  | [] => .nil
  | z :: zs => .cons (.str z) (dp_strs zs)
theorem dp_pairs {K : PySem.W.Frag} {H : Hp} {k : V → Str × Str} : ∀ {ys : List V}, (∀ y ∈ ys, ∃ t, y = .ref t ∧ H t = some (.tup [.str (k y).1, .str (k y).2])) → DpAll K H ys ((ys.map k).map fun p => PyData.tuple [.str p.1, .str p.2])
  | [], _ => .nil
  | y :: ys, h => by
    obtain ⟨t, e1, e2⟩ := h y List.mem_cons_self
    have ih := dp_pairs (K := K) (k := k) (ys := ys) fun z hz => h z (List.mem_cons_of_mem _ hz)
    refine .cons ?_ ih
    subst e1
    exact .tup (SqT.of e2) (.cons (.str _) (.cons (.str _) .nil))
end Qp
namespace Qp
open PySem L2
def vD (kvs : List (Key × V)) (a : Str) : V := (valV kvs (Sum.inr a)).getD .non
theorem opn_sym {ns : List Str} {ws : Str → List Str} (g : ∀ a ∈ ns, GRow ns a (ws a)) {a b : Str} (ha : a ∈ ns) (h : b ∈ opn ws a) : b ∈ ns ∧ a ∈ opn ws b := by
  have h1 := (List.mem_filter.mp h).1
  have h2 := of_decide_eq_true (List.mem_filter.mp h).2
  exact ⟨((g a ha).2 b h1).1, List.mem_filter.mpr ⟨h2, decide_eq_true h1⟩⟩
end Qp
namespace Qp
open PySem L2
/-- the law's own words for a person's value -/
def okM (kvs : List (Key × V)) (ws : Str → List Str) (a : Str) (v : V) : Bool := decide (v = .non) || (inS v (opn ws a) && decide (valV kvs (Sum.inr (unV v)) = some (.str a)))
theorem okM_okD {kvs : List (Key × V)} {ns : List Str} {ws : Str → List Str} {a : Str} {v : V} (h : ∀ z ∈ opn ws a, z ∈ ns) : okD kvs ns ws a v = okM kvs ws a v := by
  unfold okD okM
  cases e : inS v (opn ws a) with
  | false => rw [Bool.and_false, Bool.false_and]
  | true =>
    obtain ⟨z, hz, rfl⟩ := inS_iff.mp e
    rw [inS_str, decide_eq_true (h z hz), Bool.true_and]
section
variable {P : Program} {w : World} {K : PySem.W.Frag} {mg : Str → Option Value} {base : Heap}
theorem back_lock {H : Hp} {M : Addr} {u v : HO} (e : H M = some u) : upd (upd H M v) M u = H := by
  funext b
  by_cases hb : b = M
  · rw [hb, upd_same, e]
  · rw [upd_ne hb, upd_ne hb]
theorem _root_.L2.IsK.lock {H : Hp} {M : Addr} {u : HO} {v : V} {k : Kd} (ik : IsK H v k) (n : v ≠ .ref M) : IsK (upd H M u) v k := by
  cases ik with
  | non => exact .non
  | bl b => exact .bl b
  | int b => exact .int b
  | str b => exact .str b
  | lst h => exact .lst (by rw [upd_ne (fun z => n (by rw [z]))]; exact h)
  | tup h => exact .tup (by rw [upd_ne (fun z => n (by rw [z]))]; exact h)
  | dct h => exact .dct (by rw [upd_ne (fun z => n (by rw [z]))]; exact h)
end
end Qp
namespace L2
open PySem PySem.Spec PyProof.Rows
theorem rcP_dicts_ne {prog : Program} {w : World} {K : Type} [DecidableEq K] {knd : KeyKind prog w K} {A : Around} {s : Shared} {a b : Addr} {ka kb : List (K × Value)} {r : Bool} (ha : (a == sysModules) = false) (hb : (b == sysModules) = false)
    (da : s.heap.DictOf knd a ka) (db : s.heap.DictOf knd b kb) (hu : A.units < cLine) (hits : ka.length = kb.length → PySem.W.KeqHitsP prog w A.in1 s kb ka r) (E Q : Value → Shared → Prop) (h : Q (.bool (!(ka.length == kb.length && r))) s) : wpAny (model prog w) A (richCompare .NotEq (.ref a) (.ref b)) Q E s := by
  refine wpAny_richCompare_same_room (op := .NotEq) da.typeIs db.typeIs PySem.F.slot_dict_ne (wpAny_call_entry PySem.F.slot_dict_ne da.typeIs PySem.F.entry_dict_ne ?_ (PySem.F.args_dict_ne_2 _ _)) hu
  show wpAny _ _ (Builtin.Dict.dictSlotArgs "__ne__" ⟨[.ref a, .ref b], []⟩ >>= _) _ _ s
  refine wpAny_bind ?_
  unfold Builtin.Dict.dictSlotArgs
  refine wpAny_bind (wpAny_notOrdered_dict da.typeIs ?_)
  show wpAny _ _ (pure (Value.ref a, Value.ref b)) _ _ s
  refine wpAny_pure ?_
  refine wpAny_bind (wpAny_isInstance (T := "dict") db.typeIs PySem.F.sub_dict_dict ?_)
  simp only [Bool.not_true, Bool.false_eq_true, if_false]
  refine wpAny_bind (wpAny_pure (wpAny_bind (wpAny_pure ?_)))
  refine wpAny_bind (PySem.W.samePairsP ha hb da db hits ?_)
  refine wpAny_pure ⟨_, rfl, ?_, ?_⟩
  · exact fun x => nomatch x
  · simpa using h
/-- the keys of a dict of the heap are different -/
theorem valV_nd : ∀ {kvs : List (Key × V)}, (kvs.map (·.1)).Nodup → ∀ p ∈ kvs, valV kvs p.1 = some p.2
  | [], _, p, h => by cases h
  | (k, v) :: r, nd, p, h => by
    rw [List.map_cons, List.nodup_cons] at nd
    rcases List.mem_cons.mp h with e | h
    · subst e
      exact valV_pos rfl
    · have hk : k ≠ p.1 := fun e => nd.1 (by show k ∈ r.map (·.1); rw [e]; exact List.mem_map.mpr ⟨p, h, rfl⟩)
      rw [valV_neg hk]
      exact valV_nd nd.2 p h
section
variable {X : Cx}
/-- != of what is the same, or of two dicts with the same values -/
def rNeW : R2 := fun x y H Q => ((∃ k, IsK H x k ∧ k ≠ .dct ∧ x = y) ∨ ∃ a b ks ls, x = .ref a ∧ y = .ref b ∧ H a = some (.dK ks) ∧ H b = some (.dK ls) ∧ ks.length = ls.length ∧ ∀ key v, valV ks key = some v → valV ls key = some v ∧ ∃ k, IsK H v k) ∧ Q (.bl false) H
theorem op_neW (hu : X.A.units + 64 < cLine) : OpR X (compareOp .NotEq) rNeW := by
  intro pins s σ H x y v u Q I rx ry h
  rcases h with ⟨⟨k, ik, hk, rfl⟩ | ⟨a, b, kvs, ls, rfl, rfl, ha, hb, hln, hk⟩, q⟩
  · have fin : ∀ (r : Bool), r = false → SeqAt.RcNeAt X.A s v u r → wpAny (model X.prog X.w) X.A (compareOp .NotEq v u) (EP X pins σ Q) X.xe s := fun r e key => by
      subst e
      exact key X.prog X.w X.xe _ ⟨.bl false, H, I, rfl, q⟩
    cases ik with
    | non => cases rx; cases ry; exact fin _ rfl SeqAt.RcNeAt.none_none
    | bl b => cases rx; cases ry; exact fin _ (by simp) (SeqAt.RcNeAt.bool_bool _ _)
    | int i =>
      obtain ⟨t1, rfl⟩ := rx
      obtain ⟨t2, rfl⟩ := ry
      exact fin _ (by simp) (SeqAt.RcNeAt.int_int _ _ _ _)
    | str i =>
      obtain ⟨t1, rfl⟩ := rx
      obtain ⟨t2, rfl⟩ := ry
      exact fin _ (by simp) (SeqAt.RcNeAt.str_str _ _ _ _)
    | @lst a xs ha =>
      cases rx; cases ry
      obtain ⟨us, r1, p1, _⟩ := I.list (.inl (.inl ha))
      have e3 : (!(List.range us.toArray.size).all fun _ => true) = false := by
        rw [List.all_eq_true.mpr fun _ _ => rfl]
        rfl
      exact fin _ e3 (SeqAt.RcNeAt.lists (A := X.A) (e := fun _ => true) p1.isList p1.isList rfl (by omega) fun j h1 h2 => SeqAt.EqAt.same _)
    | @tup a xs ha =>
      cases rx; cases ry
      obtain ⟨us, r1, p1, _⟩ := I.tuple (.inl (.inl ha))
      have e3 : (!((List.range (min us.toArray.size us.toArray.size)).all (fun _ => true) && us.toArray.size == us.toArray.size)) = false := by
        rw [List.all_eq_true.mpr fun _ _ => rfl]
        simp
      exact fin _ e3 (SeqAt.RcNeAt.tuples (A := X.A) (e := fun _ => true) p1 p1 (by omega) fun j h1 h2 => SeqAt.EqAt.same _)
    | dct => exact absurd rfl hk
  · obtain rfl : v = Value.ref a := rx
    obtain rfl : u = Value.ref b := ry
    obtain ⟨_, ya, va, ra, da⟩ := (show ObjOk X.prog X.w H s.heap a (.dK _) from I.hok a _ ha)
    obtain ⟨_, yb, vb, rb, db⟩ := (show ObjOk X.prog X.w H s.heap b (.dK _) from I.hok b _ hb)
    have el : va.length = vb.length := by rw [← ra.length, ← rb.length, hln]
    have nd : (kvs.map (·.1)).Nodup := by
      obtain ⟨oa, es, ep, hoa, _, hda, hka, hpa, nd⟩ := id da
      have e := ra.keys
      have e2 : kvs.map (·.1) = va.map (·.1) := e
      rw [e2]
      exact nd
    have ih : ∀ x y v u, (x = y ∧ ∃ k, IsK H x k) → RelV x v → RelV y u → SeqAt.EqP X.prog X.w X.A.in1 s v u true := fun x y v u ⟨e, k, ik⟩ q1 q2 => by
      subst e
      have key : SeqAt.EqAt X.A.in1 s v u true := by
        cases ik with
        | non => exact eqAt_same q1 q2 rfl
        | bl b => exact eqAt_same q1 q2 rfl
        | int i => exact eqAt_same q1 q2 rfl
        | str i => exact eqAt_same q1 q2 rfl
        | lst h => cases q1; cases q2; exact SeqAt.EqAt.same _
        | tup h => cases q1; cases q2; exact SeqAt.EqAt.same _
        | dct h => cases q1; cases q2; exact SeqAt.EqAt.same _
      exact key.eqP
    refine rcP_dicts_ne (knd := mixKind X.prog X.w) ya yb da db (by omega) (fun _ => hits_run (A := X.A.in1) ih rb ra fun p hp => ⟨p.2, (hk _ _ (valV_nd nd p hp)).1, rfl, (hk _ _ (valV_nd nd p hp)).2⟩) _ _ ?_
    refine ⟨.bl false, H, I, ?_, q⟩
    show Value.bool _ = Value.bool _
    rw [el]
    simp
end
end L2
namespace Qp
open PySem L2
theorem perm_of {α : Type} [DecidableEq α] : ∀ {l m : List α}, l.Nodup → (∀ x ∈ l, x ∈ m) → m.length = l.length → m.Perm l
  | [], m, _, _, h => by
    rw [List.length_nil, List.length_eq_zero_iff] at h
    rw [h]
  | x :: l, m, nd, hs, h => by
    rw [List.nodup_cons] at nd
    have hx := hs x List.mem_cons_self
    have p := List.perm_cons_erase hx
    refine p.trans (List.Perm.cons x ?_)
    refine perm_of nd.2 (fun y hy => ?_) ?_
    · have hne : y ≠ x := fun e => nd.1 (e ▸ hy)
      exact (List.mem_erase_of_ne hne).mpr (hs y (List.mem_cons_of_mem _ hy))
    · rw [List.length_erase_of_mem hx, h, List.length_cons]
      omega
theorem key_of_val : ∀ {kvs : List (Key × V)} {key : Key}, (valV kvs key).isSome = true → key ∈ kvs.map (·.1)
  | [], _, h => by cases h
  | (k, v) :: r, key, h => by
    by_cases e : k = key
    · rw [e]; exact List.mem_cons_self
    · rw [valV_neg e] at h
      exact List.mem_cons_of_mem _ (key_of_val h)
theorem has_names {kvs : List (Key × V)} {ns : List Str} (h : hasB kvs ns = true) (nd : ns.Nodup) : ∃ qs : List Str, qs.Perm ns ∧ kvs.map (·.1) = qs.map Sum.inr := by
  have hl : kvs.length = ns.length := by
    unfold hasB at h
    rw [Bool.and_eq_true] at h
    exact of_decide_eq_true h.1
  have p : (kvs.map (·.1)).Perm (ns.map (Sum.inr : Str → Key)) := perm_of (List.Pairwise.map _ (fun a b n e => n (Sum.inr.inj e)) nd) (fun k hk => by
    obtain ⟨z, hz, rfl⟩ := List.mem_map.mp hk
    exact key_of_val (has_all h z hz)) (by rw [List.length_map, List.length_map, hl])
  let g : Key → Str := fun k => match k with
    | .inr z => z
    | .inl _ => ""
  refine ⟨(kvs.map (·.1)).map g, ?_, ?_⟩
  · have q := p.map g
    have e : (ns.map (Sum.inr : Str → Key)).map g = ns := by
      rw [List.map_map]
      exact (List.map_congr_left fun a _ => rfl).trans (List.map_id ns)
    rw [e] at q
    exact q
  · rw [List.map_map]
    refine ((List.map_congr_left fun k hk => ?_).trans (List.map_id _)).symm
    obtain ⟨z, _, rfl⟩ := List.mem_map.mp (p.mem_iff.mp hk)
    rfl
/-- the same dealing, its keys in this order -/
def tkD (kvs : List (Key × V)) (zs : List Str) : List (Key × V) := zs.map fun a => ((Sum.inr a : Key), vD kvs a)
theorem tk_val {kvs : List (Key × V)} : ∀ {zs : List Str} {a : Str}, a ∈ zs → valV (tkD kvs zs) (Sum.inr a) = some (vD kvs a)
  | x :: r, a, h => by
    show valV ((Sum.inr x, vD kvs x) :: tkD kvs r) (Sum.inr a) = _
    by_cases e : x = a
    · rw [e]; exact valV_pos rfl
    · rw [valV_neg (fun q => e (Sum.inr.inj q))]
      refine tk_val ?_
      rcases List.mem_cons.mp h with q | q
      · exact absurd q.symm e
      · exact q
theorem tk_none {kvs : List (Key × V)} : ∀ {zs : List Str} {a : Str}, a ∉ zs → valV (tkD kvs zs) (Sum.inr a) = none
  | [], _, _ => rfl
  | x :: r, a, h => by
    rw [List.mem_cons, not_or] at h
    show valV ((Sum.inr x, vD kvs x) :: tkD kvs r) (Sum.inr a) = _
    rw [valV_neg (fun q => h.1 (Sum.inr.inj q).symm)]
    exact tk_none h.2
theorem tk_sub {kvs : List (Key × V)} : ∀ {zs : List Str} {key : Key} {v : V}, valV (tkD kvs zs) key = some v → ∃ a ∈ zs, key = Sum.inr a ∧ v = vD kvs a
  | [], _, _, h => by cases h
  | x :: r, key, v, h => by
    by_cases e : (Sum.inr x : Key) = key
    · have h : valV ((Sum.inr x, vD kvs x) :: tkD kvs r) key = some v := h
      rw [valV_pos e] at h
      exact ⟨x, List.mem_cons_self, e.symm, (Option.some.inj h).symm⟩
    · have h : valV ((Sum.inr x, vD kvs x) :: tkD kvs r) key = some v := h
      rw [valV_neg e] at h
      obtain ⟨a, ha, q⟩ := tk_sub h
      exact ⟨a, List.mem_cons_of_mem _ ha, q⟩
theorem val_vD {kvs : List (Key × V)} {a : Str} (h : (valV kvs (Sum.inr a)).isSome = true) : valV kvs (Sum.inr a) = some (vD kvs a) := by
  obtain ⟨v, e⟩ := Option.isSome_iff_exists.mp h
  unfold vD
  rw [e]
  rfl
section
variable {kvs : List (Key × V)} {ns zs : List Str} {ws : Str → List Str}
theorem tk_same (h : hasB kvs ns = true) (p : zs.Perm ns) {a : Str} (ha : a ∈ ns) : valV (tkD kvs zs) (Sum.inr a) = valV kvs (Sum.inr a) := by
  rw [tk_val (p.mem_iff.mpr ha), val_vD (has_all h a ha)]
theorem tk_has (p : zs.Perm ns) : hasB (tkD kvs zs) ns = true := by
  unfold hasB
  rw [Bool.and_eq_true, List.all_eq_true]
  refine ⟨decide_eq_true (by unfold tkD; rw [List.length_map]; exact p.length_eq), fun z hz => ?_⟩
  rw [tk_val (p.mem_iff.mpr hz)]
  rfl
theorem all_eq {f g : Str → Bool} (e : ∀ a ∈ ns, f a = g a) : ns.all f = ns.all g := by
  rw [Bool.eq_iff_iff, List.all_eq_true, List.all_eq_true]
  exact ⟨fun h a ha => by rw [← e a ha]; exact h a ha, fun h a ha => by rw [e a ha]; exact h a ha⟩
theorem tk_okA (h : hasB kvs ns = true) (p : zs.Perm ns) {a : Str} (ha : a ∈ ns) : okA (tkD kvs zs) ns ws a = okA kvs ns ws a := by
  unfold okA
  rw [tk_same h p ha]
  cases valV kvs (Sum.inr a) with
  | none => rfl
  | some v =>
    show okD (tkD kvs zs) ns ws a v = okD kvs ns ws a v
    unfold okD
    cases e : inS v ns with
    | false => rw [Bool.false_and, Bool.false_and, Bool.false_and]
    | true =>
      obtain ⟨z, hz, rfl⟩ := inS_iff.mp e
      have e2 : valV (tkD kvs zs) (Sum.inr (unV (V.str z))) = valV kvs (Sum.inr (unV (V.str z))) := tk_same h p hz
      rw [e2]
theorem tk_isD (h : hasB kvs ns = true) (p : zs.Perm ns) : isD ns ws (some (tkD kvs zs)) = isD ns ws (some kvs) := by
  show (hasB (tkD kvs zs) ns && ns.all (okA (tkD kvs zs) ns ws)) = (hasB kvs ns && ns.all (okA kvs ns ws))
  rw [h, tk_has p, Bool.true_and, Bool.true_and]
  exact all_eq fun a ha => tk_okA h p ha
end
end Qp
namespace Qp
open PySem L2
theorem valV_put_or {kvs : List (Key × V)} {k key : Key} {v x : V} (h : valV (putK kvs k v) key = some x) : x = v ∨ valV kvs key = some x := by
  rw [valV_put] at h
  split at h
  · exact .inl (Option.some.inj h).symm
  · exact .inr h
/-- the values of a drawn dealing -/
def NV (v : V) : Prop := v = .non ∨ ∃ z, v = .str z ∧ nameS z = true
/-- a part of a dealing -/
structure PD (kvs : List (Key × V)) (ns : List Str) (ws : Str → List Str) : Prop where
  nd : (kvs.map (·.1)).Nodup
  ks : ∀ k ∈ kvs.map (·.1), ∃ a ∈ ns, k = Sum.inr a
  v : ∀ a v, valV kvs (Sum.inr a) = some v → v = .non ∨ ∃ b, v = .str b ∧ b ∈ opn ws a ∧ valV kvs (Sum.inr b) = some (.str a)
theorem keys_put {kvs : List (Key × V)} {k : Key} {v : V} (h : valV kvs k = none) : (putK kvs k v).map (·.1) = kvs.map (·.1) ++ [k] := by
  rw [putK_new v h, List.map_append]
  rfl
theorem keys_old {kvs : List (Key × V)} {k : Key} {v : V} (h : (valV kvs k).isSome = true) : (putK kvs k v).map (·.1) = kvs.map (·.1) := by
  unfold putK
  have a : (kvs.any fun kv => decide (kv.1 = k)) = true := by
    rw [List.any_eq_true]
    obtain ⟨p, hp, e⟩ := List.mem_map.mp (key_of_val h)
    exact ⟨p, hp, decide_eq_true e⟩
  rw [if_pos a, List.map_map]
  refine List.map_congr_left fun p _ => ?_
  show (if p.1 = k then (p.1, v) else p).1 = p.1
  split <;> rfl
theorem not_key {kvs : List (Key × V)} {k : Key} (h : valV kvs k = none) : k ∉ kvs.map (·.1) := by
  induction kvs with
  | nil => intro z; cases z
  | cons p r ih =>
    obtain ⟨k0, v0⟩ := p
    by_cases e : k0 = k
    · rw [valV_pos e] at h
      cases h
    · rw [valV_neg e] at h
      rw [List.map_cons, List.mem_cons]
      rintro (q | q)
      · exact e q.symm
      · exact ih h q
theorem PD.nil {ns : List Str} {ws : Str → List Str} : PD [] ns ws := ⟨List.nodup_nil, (fun _ h => by cases h), fun _ _ h => by cases h⟩
theorem nd_snoc {α : Type} {l : List α} {x : α} (h : l.Nodup) (hx : x ∉ l) : (l ++ [x]).Nodup := by
  rw [List.nodup_append]
  refine ⟨h, by simp, fun a ha b hb e => ?_⟩
  have : b = x := by simpa using hb
  subst this
  subst e
  exact hx ha
theorem PD.non {kvs : List (Key × V)} {ns : List Str} {ws : Str → List Str} (h : PD kvs ns ws) {a : Str} (ha : a ∈ ns) (hn : valV kvs (Sum.inr a) = none) : PD (putK kvs (Sum.inr a) .non) ns ws := by
  refine ⟨?_, fun k hk => ?_, fun c v hv => ?_⟩
  · rw [keys_put hn]
    exact nd_snoc h.nd (not_key hn)
  · rw [keys_put hn] at hk
    rcases List.mem_append.mp hk with q | q
    · exact h.ks k q
    · exact ⟨a, ha, by simpa using q⟩
  · rw [valV_put] at hv
    by_cases e : (Sum.inr c : Key) = Sum.inr a
    · rw [if_pos e] at hv
      exact .inl (Option.some.inj hv).symm
    · rw [if_neg e] at hv
      rcases h.v c v hv with q | ⟨b, q1, q2, q3⟩
      · exact .inl q
      · refine .inr ⟨b, q1, q2, ?_⟩
        rw [valV_put, if_neg (fun e2 => by rw [e2, hn] at q3; cases q3)]
        exact q3
theorem PD.pair {kvs : List (Key × V)} {ns : List Str} {ws : Str → List Str} (h : PD kvs ns ws) (g : ∀ a ∈ ns, GRow ns a (ws a)) {a z : Str} (ha : a ∈ ns) (hn : valV kvs (Sum.inr a) = none) (hz : z ∈ opn ws a) (hzn : valV kvs (Sum.inr z) = none) :
    PD (putK (putK (putK kvs (Sum.inr a) .non) (Sum.inr a) (.str z)) (Sum.inr z) (.str a)) ns ws := by
  have hza : z ≠ a := ((g a ha).2 z (List.mem_filter.mp hz).1).2
  have hsy := opn_sym g ha hz
  have e1 : valV (putK kvs (Sum.inr a) V.non) (Sum.inr a) = some .non := by rw [valV_put, if_pos rfl]
  have nz : ∀ {y z' : Str}, y ≠ z' → (Sum.inr y : Key) ≠ Sum.inr z' := fun h e => h (Sum.inr.inj e)
  have e2 : valV (putK (putK kvs (Sum.inr a) V.non) (Sum.inr a) (.str z)) (Sum.inr z) = none := by rw [valV_put, if_neg (nz hza), valV_put, if_neg (nz hza)]; exact hzn
  have ek : (putK (putK (putK kvs (Sum.inr a) .non) (Sum.inr a) (.str z)) (Sum.inr z) (.str a)).map (·.1) = kvs.map (·.1) ++ [Sum.inr a] ++ [Sum.inr z] := by
    rw [keys_put e2, keys_old (by rw [e1]; rfl), keys_put hn]
  have val : ∀ c, valV (putK (putK (putK kvs (Sum.inr a) .non) (Sum.inr a) (.str z)) (Sum.inr z) (.str a)) (Sum.inr c) = if c = z then some (.str a) else if c = a then some (.str z) else valV kvs (Sum.inr c) := fun c => by
    rw [valV_put, valV_put, valV_put]
    by_cases h1 : c = z
    · rw [if_pos (by rw [h1]), if_pos h1]
    · rw [if_neg (nz h1), if_neg h1]
      by_cases h2 : c = a
      · rw [if_pos (by rw [h2]), if_pos h2]
      · rw [if_neg (nz h2), if_neg (nz h2), if_neg h2]
  refine ⟨?_, fun k hk => ?_, fun c v hv => ?_⟩
  · rw [ek]
    refine nd_snoc (nd_snoc h.nd (not_key hn)) fun q => ?_
    rcases List.mem_append.mp q with q | q
    · exact not_key hzn q
    · exact nz hza (by simpa using q)
  · rw [ek] at hk
    rcases List.mem_append.mp hk with q | q
    · rcases List.mem_append.mp q with q | q
      · exact h.ks k q
      · exact ⟨a, ha, by simpa using q⟩
    · exact ⟨z, hsy.1, by simpa using q⟩
  · rw [val] at hv
    by_cases h1 : c = z
    · rw [if_pos h1] at hv
      refine .inr ⟨a, (Option.some.inj hv).symm, by rw [h1]; exact hsy.2, ?_⟩
      rw [val, if_neg (Ne.symm hza), if_pos rfl, h1]
    · rw [if_neg h1] at hv
      by_cases h2 : c = a
      · rw [if_pos h2] at hv
        refine .inr ⟨z, (Option.some.inj hv).symm, by rw [h2]; exact hz, ?_⟩
        rw [val, if_pos rfl, h2]
      · rw [if_neg h2] at hv
        rcases h.v c v hv with q | ⟨b, q1, q2, q3⟩
        · exact .inl q
        · refine .inr ⟨b, q1, q2, ?_⟩
          rw [val, if_neg (fun e => by rw [e, hzn] at q3; cases q3), if_neg (fun e => by rw [e, hn] at q3; cases q3)]
          exact q3
theorem PD.isD {kvs : List (Key × V)} {ns : List Str} {ws : Str → List Str} (h : PD kvs ns ws) (g : ∀ a ∈ ns, GRow ns a (ws a)) (hnd : ns.Nodup) (all : ∀ a ∈ ns, (valV kvs (Sum.inr a)).isSome = true) : isD ns ws (some kvs) = true := by
  show (hasB kvs ns && ns.all (okA kvs ns ws)) = true
  rw [Bool.and_eq_true]
  refine ⟨?_, List.all_eq_true.mpr fun a ha => ?_⟩
  · unfold hasB
    rw [Bool.and_eq_true]
    refine ⟨decide_eq_true (Nat.le_antisymm ?_ ?_), List.all_eq_true.mpr all⟩
    · have := nodup_sub_length (l := kvs.map (·.1)) (m := ns.map Sum.inr) h.nd fun k hk => by
        obtain ⟨a, ha, e⟩ := h.ks k hk
        rw [e]
        exact List.mem_map.mpr ⟨a, ha, rfl⟩
      rw [List.length_map, List.length_map] at this
      exact this
    · have := nodup_sub_length (l := ns.map (Sum.inr : Str → Key)) (m := kvs.map (·.1)) (List.Pairwise.map _ (fun _ _ n e => n (Sum.inr.inj e)) hnd) fun k hk => by
        obtain ⟨a, ha, e⟩ := List.mem_map.mp hk
        subst e
        exact key_of_val (all a ha)
      rw [List.length_map, List.length_map] at this
      exact this
  · obtain ⟨v, ev⟩ := Option.isSome_iff_exists.mp (all a ha)
    unfold okA
    rw [ev]
    show okD kvs ns ws a v = true
    unfold okD
    rcases h.v a v ev with q | ⟨b, rfl, q2, q3⟩
    · rw [decide_eq_true q, Bool.true_or]
    · have e1 : inS (V.str b) ns = true := by rw [inS_str, decide_eq_true (opn_sym g ha q2).1]
      have e2 : inS (V.str b) (opn ws a) = true := by rw [inS_str, decide_eq_true q2]
      have e3 : decide (valV kvs (Sum.inr (unV (V.str b))) = some (V.str a)) = true := decide_eq_true q3
      rw [e1, e2, e3]
      simp
abbrev nAny : List Str := ["_law_state", "_law_mutual_here", "_law_x", "_law_a", "_law_free", "_law_at", "_law_b"]
section
variable {P : Program} {w : World} {K : PySem.W.Frag} {mg : Str → Option Value} {base : Heap}
/-- _law_any_dealing(state, mutual) -/
def spAny : Sp := fun vs H Q _ => ∃ (st M : Addr) (ns : List Str) (ws : Str → List Str), vs = [.ref st, .ref M] ∧ StAt H st ∧ RowsG H M ns (fun z => lstO (opn ws z)) ∧ Nm ns ∧ (∀ a ∈ ns, GRow ns a (ws a)) ∧
  ∀ D H' kvs, SameBut st H H' → StAt H' st → H D = none → H' D = some (.dK kvs) → kvs.length ≤ 64 → (∀ key v, valV kvs key = some v → NV v) → isD ns ws (some kvs) = true → Q (.ref D) H'
structure AnI (H H' : Hp) (st D p : Addr) (ps : List Str) (kvs : List (Key × V)) (b : Nat) : Prop where
  sb : SameBut st H H'
  s : StAt H' st
  d : H' D = some (.dK kvs)
  p : H' p = some (lstO ps)
  l : kvs.length ≤ b
  v : ∀ key v, valV kvs key = some v → NV v
theorem AnI.put {H H' : Hp} {st D p : Addr} {ps : List Str} {kvs : List (Key × V)} {b : Nat} (m : AnI H H' st D p ps kvs b) (hD : H D = none) {k : Key} {v : V} (hv : NV v) : AnI H (upd H' D (.dK (putK kvs k v))) st D p ps (putK kvs k v) (b + 1) := by
  obtain ⟨n, z, e, r⟩ := m.s
  have nd : ∀ b o, H' b = some o → (∀ kv, o ≠ .dK kv) → (upd H' D (.dK (putK kvs k v))) b = some o := fun b o e n => by
    rw [upd_ne (fun q => by rw [q, m.d] at e; exact n _ (Option.some.inj e).symm)]
    exact e
  refine ⟨fun b o nb e => ?_, ⟨n, z, nd _ _ e (fun _ q => by cases q), r⟩, upd_same, nd _ _ m.p (fun _ q => by cases q), Nat.le_trans (length_putK _ _ _) (Nat.add_le_add_right m.l 1), fun key x hx => ?_⟩
  · rw [upd_ne (ne_of_none e hD)]
    exact m.sb _ _ nb e
  · rcases valV_put_or hx with q | q
    · rw [q]; exact hv
    · exact m.v key x q
theorem AnI.but {H H' H2 : Hp} {st D p : Addr} {ps : List Str} {kvs : List (Key × V)} {b : Nat} (m : AnI H H' st D p ps kvs b) (sb : SameBut st H' H2) (hs : StAt H2 st) : AnI H H2 st D p ps kvs b := by
  obtain ⟨n, z, e, r⟩ := m.s
  exact ⟨m.sb.trans sb, hs, sb _ _ (ne_of m.d e (by intro z; cases z)) m.d, sb _ _ (ne_st m.s m.p) m.p, m.l, m.v⟩
theorem AnI.up {H H' : Hp} {st D p : Addr} {ps : List Str} {kvs : List (Key × V)} {b c : Nat} (m : AnI H H' st D p ps kvs b) (h : b ≤ c) : AnI H H' st D p ps kvs c := ⟨m.sb, m.s, m.d, m.p, Nat.le_trans m.l h, m.v⟩
theorem ok_any {f : Addr} {fd : FuncData} (F : Fun K "_law_any_dealing" "_law_any_dealing" sLanydealing f fd) (B : Bl mg) (cT : CF P w K mg base CX0 1 "_law_take" ["_law_state", "_law_many"] spTake) (cM : CF P w K mg base CX0 2 "_law_mixed" ["_law_state", "_law_items"] spMixed) : FnOk P w K mg base CX0 3 f fd ["_law_state", "_law_mutual_here"] spAny := by
  refine F.ok scLanydealing (fun vs H Q E h => ?_) (fun cdv A outer s H vs Q E hr h => ?_)
  · obtain ⟨st, M, ns, ws, rfl, _⟩ := h
    rfl
  · obtain ⟨st, M, ns, ws, rfl, hst, ⟨adM, eM, rM⟩, nn, g1, kq⟩ := h
    have hu := hu_of hr
    have hr1 : Room 1 _ := hr.mono (by decide)
    have hnl := nn.len
    have esz : sizeLine = 16777216 := sizeLine_eq
    refine ⟨_, pss_cons (ps_set (i := 2) scLanydealing.nd rfl (Or.inr rfl) pe_dnewK)
      (pss_cons (ps_for PassesOwn.never rfl (pi_list (pe_cf cM hr pass0 (pa_cons (pv 0) (pa_cons (pe_callB cr_sortedS (by rfl) B.srt (by decide +kernel) (pa_cons (pe_callTy (call_listD rfl) (by rfl) B.lst (by decide +kernel) (pa_cons (pv 1) pa_nil)) pa_nil)) pa_nil)))) (pg_name (i := 3) scLanydealing.nd rfl (Or.inl rfl))
        (pss_one (ps_if (pt_cmp (pc_dnotin hu (pv 3) (pv 2)) rfl)
          (pss_cons (ps_setLc (i := 4) (own := [("_law_b", 6)]) (g := gName 6) (by rfl) scLanydealing.nd rfl rfl (sw_true rfl rfl rfl (by decide +kernel)) (pi_list (pe_dget hu (pv 1) (pv 3) (fun _ _ => rfl))) (blkOk_by (own := [("_law_b", 6)]) (N := nAny) (sc := defScope sLanydealing) (by decide +kernel))
            (fun _ _ _ _ _ => pg_name (i := 6) scLanydealing.nd rfl (Or.inl rfl)) (fun _ _ _ _ _ => pts_one (pt_cmp (pc_dnotin hu (pv 6) (pv 2)) rfl)) (fun _ _ _ _ _ => pv 6))
          (pss_cons (ps_set (i := 5) scLanydealing.nd rfl (Or.inl rfl) (pe_cf cT hr1 pass0 (pa_cons (pv 0) (pa_cons (pe_op op_add (pe_callB call_len_seq (by rfl) B.len PySem.boot_len (pa_cons (pv 4) pa_nil)) pe_int) pa_nil))))
          (pss_cons (ps_dput hu (pv 2) (pv 3) pe_non rfl)
          (pss_one (ps_if (pt_cmpR op_lt (pv 5) (pe_callB call_len_seq (by rfl) B.len PySem.boot_len (pa_cons (pv 4) pa_nil)) (nomark _))
            (pss_cons (ps_dput hu (pv 2) (pv 3) (pe_ix ix_list (pv 4) (pv 5) (fun _ _ => rfl)) rfl)
            (pss_one (ps_dput hu (pv 2) (pe_ix ix_list (pv 4) (pv 5) (fun _ _ => rfl)) (pv 3) rfl))) pss_nil))))) pss_nil)))
      (pss_one (ps_ret (pv 2)))), ?_⟩
    refine fun D hD => ?_
    have s0 : Same H (upd H D (.dK [])) := Same.new hD
    have eD : (upd H D (.dK [])) D = some (.dK []) := upd_same
    generalize upd H D (.dK []) = H0 at s0 eD
    refine ⟨_, rfl, _, rfl, M, _, rfl, .inl (s0 _ _ eM), fun p hp => ?_⟩
    have ek : ((ns.map fun a => ((Sum.inr a : Key), V.ref (adM a))).map fun kv => kV kv.1) = ns.map V.str := by
      rw [List.map_map]
      rfl
    have s1 : Same H0 (upd H0 p (.lst ((ns.map fun a => ((Sum.inr a : Key), V.ref (adM a))).map fun kv => kV kv.1))) := Same.new hp
    have ep : (upd H0 p (.lst ((ns.map fun a => ((Sum.inr a : Key), V.ref (adM a))).map fun kv => kV kv.1))) p = some (.lst (ns.map V.str)) := by rw [upd_same, ek]
    generalize upd H0 p (.lst ((ns.map fun a => ((Sum.inr a : Key), V.ref (adM a))).map fun kv => kV kv.1)) = H1 at s1 ep
    refine ⟨p, ns, rfl, SqL.of ep, by omega, fun ys q hys _ hq => ?_⟩
    have s2 : Same H1 (upd H1 q (.lst (ys.map V.str))) := Same.new hq
    have eq : (upd H1 q (.lst (ys.map V.str))) q = some (.lst (ys.map V.str)) := upd_same
    have eD2 := s2 _ _ (s1 _ _ eD)
    generalize upd H1 q (.lst (ys.map V.str)) = H2 at s2 eq eD2
    have s02 : Same H H2 := (s0.trans s1).trans s2
    refine ⟨st, q, ys, rfl, hst.same s02, eq, by rw [hys.length_eq]; omega, fun L ps H3 hps sb3 hs3 _ eL => ?_⟩
    obtain ⟨n0, z0, est, _⟩ := hst.same s02
    have m0 : AnI H H3 st D L ps [] 0 := ⟨(s02.but st).trans sb3, hs3, sb3 _ _ (ne_of eD2 est (by intro z; cases z)) eD2, eL, Nat.le_refl _, fun _ _ h => by cases h⟩
    have hpn : ∀ a ∈ ps, a ∈ ns := fun a h => hys.mem_iff.mp (hps.mem_iff.mp h)
    have hpl : ps.length ≤ 16 := by rw [hps.length_eq, hys.length_eq]; exact hnl
    obtain ⟨n9, z9, est0, _⟩ := id hst
    have nMs : M ≠ st := ne_of eM est0 (by intro z; cases z)
    have nAs : ∀ a ∈ ns, adM a ≠ st := fun a ha => ne_of (rM a ha).1 est0 (lst_int _ _ _)
    refine ⟨L, rfl, ⟨_, SqL.of eL⟩, for_it walk_list (fun i σ H' => ∃ (v3 v4 v5 : Option V) (kvs : List (Key × V)), σ = [some (.ref st), some (.ref M), some (.ref D), v3, v4, v5, none] ∧ AnI H H' st D L ps kvs (3 * i) ∧ PD kvs ns ws ∧ ∀ b ∈ ps.take i, (valV kvs (Sum.inr b)).isSome = true) ⟨none, none, none, [], rfl, m0, PD.nil, fun b hb => by simp at hb⟩ (fun i σ H' _ ⟨_, _, _, _, _, z, _⟩ => SqL.of z.p) ?_ ?_⟩
    · rintro i x σ Hx H4 hi ⟨v3, v4, v5, kvs, rfl, m, pd, pall⟩ ⟨rfl, hx⟩
      rw [List.length_map] at hi
      rw [List.getElem?_map] at hx
      cases ea : ps[i]? with
      | none => rw [ea] at hx; cases hx
      | some a =>
        rw [ea] at hx
        cases hx
        have han : a ∈ ns := hpn a (List.mem_of_getElem? ea)
        refine ⟨_, rfl, _, rfl, D, _, rfl, DGet.k (k := Sum.inr a) m.d, _, rfl, ?_⟩
        cases eA : (valV kvs (Sum.inr a)).isSome with
        | true => exact iteF ⟨_, _, _, kvs, rfl, m.up (by omega), pd, fun b hb => by
            rw [take_snoc ea] at hb
            rcases List.mem_append.mp hb with q | q
            · exact pall b q
            · have : b = a := by simpa using q
              rw [this]; exact eA⟩
        | false =>
          have hnA : valV kvs (Sum.inr a) = none := Option.not_isSome_iff_eq_none.mp (by rw [eA]; decide)
          have grow : ∀ k2 : List (Key × V), (∀ b, b = a ∨ (valV kvs (Sum.inr b)).isSome = true → (valV k2 (Sum.inr b)).isSome = true) → ∀ b ∈ ps.take (i + 1), (valV k2 (Sum.inr b)).isSome = true := fun k2 h b hb => by
            rw [take_snoc ea] at hb
            rcases List.mem_append.mp hb with q | q
            · exact h b (.inr (pall b q))
            · exact h b (.inl (by simpa using q))
          have putS : ∀ (k2 : List (Key × V)) (k : Key) (v : V) (b : Str), (valV k2 (Sum.inr b)).isSome = true → (valV (putK k2 k v) (Sum.inr b)).isSome = true := fun k2 k v b h => by
            rw [valV_put]
            split
            · rfl
            · exact h
          refine iteT ?_
          have g2 : H4 M = some (.dK (ns.map fun a => ((Sum.inr a : Key), V.ref (adM a)))) := m.sb _ _ nMs eM
          have gR : H4 (adM a) = some (lstO (opn ws a)) := m.sb _ _ (nAs a han) (rM a han).1
          have hol : (opn ws a).length ≤ 16 := by
            have q1 : (opn ws a).length ≤ (ws a).length := List.length_filter_le _ _
            have q2 := (g1 a han).len
            omega
          have hml := m.l
          refine ⟨_, rfl, _, rfl, M, _, rfl, by rw [← valV_rows (ad := adM) han]; exact DGet.k (k := Sum.inr a) g2, adM a, rfl, ⟨_, SqL.of gR⟩,
            fun Fr hFr => lc_it (walk_list (xs := (opn ws a).map V.str)) (fun j H' => Same H4 H' ∧ H' Fr = some (lstO (((opn ws a).take j).filter fun b => !(valV kvs (Sum.inr b)).isSome))) ⟨Same.new hFr, upd_same⟩ (fun j H' _ z => z.1.seq (SqL.of gR)) ?_ ?_⟩
          · rintro j y Hz H5 hj ⟨s5, hF5⟩ ⟨rfl, hy⟩
            rw [List.length_map] at hj
            rw [List.getElem?_map] at hy
            cases eb : (opn ws a)[j]? with
            | none => rw [eb] at hy; cases hy
            | some b =>
              rw [eb] at hy
              cases hy
              refine ⟨rfl, _, rfl, _, rfl, D, _, rfl, DGet.k (k := Sum.inr b) (s5 _ _ m.d), _, rfl, ?_⟩
              have hlt : ((((opn ws a).take j).filter fun b => !(valV kvs (Sum.inr b)).isSome).map V.str).length < sizeLine := by
                have q1 := List.length_filter_le (fun b => !(valV kvs (Sum.inr b)).isSome) ((opn ws a).take j)
                rw [List.length_take] at q1
                rw [List.length_map]
                omega
              cases ec : (valV kvs (Sum.inr b)).isSome with
              | true =>
                refine iteF ⟨s5, ?_⟩
                rw [take_snoc eb, List.filter_append, List.filter_cons_of_neg (by rw [ec]; decide), List.filter_nil, List.append_nil]
                exact hF5
              | false =>
                refine iteT ⟨_, rfl, _, hF5, hlt, fun b' o e => ?_, ?_⟩
                · rw [upd_ne (ne_of_none e hFr)]
                  exact s5 _ _ e
                · rw [upd_same, take_snoc eb, List.filter_append, List.filter_cons_of_pos (by rw [ec]; rfl), List.filter_nil]
                  unfold lstO
                  rw [List.map_append]
                  rfl
          · rintro H5 ⟨s5, hF5⟩
            rw [List.length_map, List.take_of_length_le (Nat.le_refl _)] at hF5
            have hfl : ((opn ws a).filter fun b => !(valV kvs (Sum.inr b)).isSome).length ≤ 16 := Nat.le_trans (List.length_filter_le _ _) hol
            have hfn : ∀ z ∈ (opn ws a).filter (fun b => !(valV kvs (Sum.inr b)).isSome), nameS z = true := fun z hz => nn.nm z (opn_sym g1 han (List.mem_filter.mp hz).1).1
            have hfm : ∀ z ∈ (opn ws a).filter (fun b => !(valV kvs (Sum.inr b)).isSome), z ∈ opn ws a ∧ valV kvs (Sum.inr z) = none := fun z hz => by
              obtain ⟨q1, q2⟩ := List.mem_filter.mp hz
              refine ⟨q1, Option.not_isSome_iff_eq_none.mp ?_⟩
              intro q3
              rw [q3] at q2
              cases q2
            generalize (opn ws a).filter (fun b => !(valV kvs (Sum.inr b)).isSome) = fs at hF5 hfl hfn hfm
            have m5 := m.but (s5.but st) (m.s.same s5)
            refine ⟨_, rfl, _, rfl, Fr, _, rfl, .inl (SqL.of hF5), _, _, rfl, rfl, st, (fs.length : Int) + 1, by rw [List.length_map]; rfl, by omega, by omega, m5.s, fun dd n1 z1 hd0 hd1 a1 a2 a3 => ?_⟩
            have sb6 : SameBut st H5 (upd H5 st (.lst [.int n1, .int z1])) := SameBut.set
            have m6 := m5.but sb6 ⟨n1, z1, upd_same, a1, a2, a3⟩
            have nFs : Fr ≠ st := new_ne_st m.s hFr
            have hF6 := sb6 _ _ nFs hF5
            generalize upd H5 st (.lst [.int n1, .int z1]) = H6 at m6 hF6
            refine ⟨_, rfl, _, rfl, D, _, rfl, DPut.k (k := Sum.inr a) m6.d (by omega), ?_⟩
            have m7 := m6.put hD (k := Sum.inr a) (v := .non) (.inl rfl)
            have nFD : Fr ≠ D := ne_of hF6 m6.d (by intro z; cases z)
            have hF7 : (upd H6 D (.dK (putK kvs (Sum.inr a) .non))) Fr = some (lstO fs) := by rw [upd_ne nFD]; exact hF6
            have ml7 := m7.l
            generalize upd H6 D (.dK (putK kvs (Sum.inr a) .non)) = H7 at m7 hF7
            generalize ek7 : putK kvs (Sum.inr a) V.non = k7 at m7 ml7
            have al7 : ∀ b, b = a ∨ (valV kvs (Sum.inr b)).isSome = true → (valV k7 (Sum.inr b)).isSome = true := fun b h => by
              rw [← ek7]
              rcases h with rfl | h
              · rw [valV_put, if_pos rfl]; rfl
              · exact putS _ _ _ _ h
            refine ⟨_, rfl, _, rfl, Fr, _, rfl, .inl (SqL.of hF7), _, _, rfl, rfl, _, rfl, ite2 (fun hc => ?_) (fun _ => ⟨_, _, _, k7, rfl, m7.up (by omega), by rw [← ek7]; exact pd.non han hnA, grow k7 al7⟩)⟩
            have hlt : dd < (fs.length : Int) := by
              have := of_decide_eq_true hc
              rw [List.length_map] at this
              exact this
            obtain ⟨z, ez, ezt⟩ : ∃ z, fs[dd.toNat]? = some z ∧ atI (fs.map V.str) dd = some (.str z) := by
              obtain ⟨z, ez⟩ : ∃ z, fs[dd.toNat]? = some z := ⟨_, List.getElem?_eq_getElem (by omega)⟩
              refine ⟨z, ez, ?_⟩
              have q := atI_str ez
              rw [show ((dd.toNat : Nat) : Int) = dd by omega] at q
              exact q
            have hzn := hfn z (List.mem_of_getElem? ez)
            refine ⟨_, rfl, _, rfl, Fr, _, dd, .str z, rfl, rfl, SqL.of hF7, ezt, _, rfl, _, rfl, D, _, rfl, DPut.k (k := Sum.inr a) m7.d (by omega), ?_⟩
            have m8 := m7.put hD (k := Sum.inr a) (v := .str z) (.inr ⟨z, rfl, hzn⟩)
            have hF8 : (upd H7 D (.dK (putK k7 (Sum.inr a) (.str z)))) Fr = some (lstO fs) := by rw [upd_ne nFD]; exact hF7
            have ml8 := m8.l
            generalize upd H7 D (.dK (putK k7 (Sum.inr a) (.str z))) = H8 at m8 hF8
            generalize ek8 : putK k7 (Sum.inr a) (V.str z) = k8 at m8 ml8
            refine ⟨_, rfl, _, rfl, _, rfl, _, rfl, Fr, _, dd, .str z, rfl, rfl, SqL.of hF8, ezt, D, _, rfl, DPut.k (k := Sum.inr z) m8.d (by omega), ?_⟩
            exact ⟨_, _, _, _, rfl, (m8.put hD (k := Sum.inr z) (v := .str a) (.inr ⟨a, rfl, nn.nm a han⟩)).up (by omega), by rw [← ek8, ← ek7]; exact pd.pair g1 han hnA (hfm z (List.mem_of_getElem? ez)).1 (hfm z (List.mem_of_getElem? ez)).2, grow _ fun b h => putS _ _ _ _ (by rw [← ek8]; exact putS _ _ _ _ (al7 b h))⟩
    · rintro σ H4 ⟨v3, v4, v5, kvs, rfl, m, pd, pall⟩
      have ml := m.l
      rw [List.length_map] at ml
      rw [List.length_map, List.take_of_length_le (Nat.le_refl _)] at pall
      exact ⟨_, rfl, kq D H4 kvs m.sb m.s hD m.d (by omega) m.v (pd.isD g1 nn.nd fun a ha => pall a (hps.mem_iff.mpr (hys.mem_iff.mpr ha)))⟩
end
end Qp
/-! name = {k: v for ..} on one line, the name a local -/
namespace L2
open PySem PySem.Spec PyProof.Rows
section
variable {X : Cx}
theorem swD_true {kx vx : Expr} {cs : List Comprehension} {sco : Scope} {po pn : Pos} {nm : Str} {ln : Nat} {en : Env} (kf : en.scope.kind = .function) (lo : en.scope.names.lookup nm = some .local) (eq1 : (pn.line == po.line) = true)
    (no : (sco.names.any fun (z, q) => z == nm && (q == .local || q == .cell)) = false) : swapsWith (.DictComp kx vx cs sco po) (some (.Name nm pn)) ln en = pure true := by
  have h1 : en.kindOf nm = some .local := lo
  have h2 : en.blockKind = .function := by
    unfold Env.blockKind
    rw [kf]
    rfl
  unfold swapsWith
  simp only [h2, h1, no, Expr.pos, eq1]
  rfl
theorem ps_setDc {j : Nat} {nm : Str} {pn : Pos} {kx vx tgt src : Expr} {cond : List Expr} {sco : Scope} {mine : List (Str × Nat)} {po sp : Pos} {rw1 : TI} {gg : TG} {tc : TT} {rk rv : TE} (calm : X.calm = true) (nd : X.N.Nodup) (at_ : X.N[j]? = some nm) (lo : X.env.scope.names.lookup nm = some .local)
    (sw : swapsWith (.DictComp kx vx [⟨tgt, src, cond, 0⟩] sco po) (some (.Name nm pn)) sp.line X.env = pure true) (walk : PI X tgt src rw1) (bo : BlkOk X.N X.env.scope sco mine)
    (p1 : ∀ (z : Shared) (G : Hp) (B : Addr) (cc : List (Str × Addr)) (ff : List Addr), PG (X.blk z G sco (compEnvC sco cc B X.env) ff) tgt gg) (p2 : ∀ (z : Shared) (G : Hp) (B : Addr) (cc : List (Str × Addr)) (ff : List Addr), PTs (X.blk z G sco (compEnvC sco cc B X.env) ff) cond tc)
    (p3 : ∀ (z : Shared) (G : Hp) (B : Addr) (cc : List (Str × Addr)) (ff : List Addr), PE (X.blk z G sco (compEnvC sco cc B X.env) ff) kx rk)
    (p4 : ∀ (z : Shared) (G : Hp) (B : Addr) (cc : List (Str × Addr)) (ff : List Addr), PE (X.blk z G sco (compEnvC sco cc B X.env) ff) vx rv) (fo : ∀ x, foldedSetIterable src X.env x = pure x := by intro _; rfl) :
    PS X (.Assign [.Name nm pn] (.DictComp kx vx [⟨tgt, src, cond, 0⟩] sco po) sp) (tAsg (tDc rw1 gg tc rk rv (mine.map (·.2))) (gName j)) := by
  refine ⟨fun ps0 st0 q0 G0 E0 J0 h0 => ?_⟩
  rw [exec_Assign_Name_used _ _ _ _ sw]
  refine wpAny_bind (wpAny_standAt (wpAny_bind ?_))
  have h1 : tDc rw1 gg tc rk rv (mine.map (·.2)) q0 G0 (fun v G1 => gName j v q0 G1 E0.nx) := h0
  show wpAny _ X.A (do let _ ← comprehension (.DictComp kx vx [⟨tgt, src, cond, 0⟩] sco po) sco X.env (firstIterPos [⟨tgt, src, cond, 0⟩] po) newDict false (eval src X.env) (some (assign (.Name nm pn) X.env))) _ _ st0
  refine wpAny_bind (thn (dc_core (Qf := fun _ st1 => SP X ps0 E0 .next st1) calm nd J0 walk bo p1 p2 p3 p4 fo h1 fun D B st1 m1 G1 J1 q1 ns1 f1 => ?_) fun _ st1 hq => wpAny_pure (wpAny_pure hq))
  show wpAny _ _ (assign (.Name nm pn) X.env (.ref D)) _ _ _
  refine wpAny_assign_Name (store_ok2 (v := V.ref D) J1 nd at_ (.inl lo) rfl (fun st2 J2 ⟨a, sb, ha⟩ => ?_) (.inr lo))
  obtain ⟨c0, c1, c2, c3, c4, c5⟩ := f1
  have nBa : B ≠ a := by
    rcases ha with e | e
    · rw [e]
      exact c1
    · exact fun y => c4 nm a e y.symm
  refine ⟨m1, ns1.sameBut sb nBa, fun st3 sb3 => ?_⟩
  exact ⟨_, G1, J2.turned (t' := st2.toks) (fun b o hb e => (sb3.2 b hb).trans e) c0 c1 c3 c4 c5, q1⟩
end
end L2
/-! several clauses, each 'except T as n', all with one name n -/
namespace L2
open PySem PySem.Spec PyProof.Rows
abbrev Sui := Addr → Value → Option Addr → TS
/-- behind a suite its name is gone -/
def without (i : Nat) (D : Ends) : Ends :=
  { nx := fun q H => D.nx (q.set i none) H, rt := D.rt, bk := fun q H => D.bk (q.set i none) H, ct := fun q H => D.ct (q.set i none) H }
/-- the clauses' wishes, from the first -/
def wNamed (K : PySem.W.Frag) (i : Nat) (Wo : WX) (D : Ends) : List (Value × Sui) → WX
  | [] => Wo
  | p :: more => fun T d q H => ∃ yes, PySem.W.exmOne K T p.1 = some yes ∧
      (yes = true → ∀ e, H e = none → p.2 e T d (without i D) (q.set i (some (.ref e))) H) ∧ (yes = false → wNamed K i Wo D more T d q H)
/-- the clauses as they are written, their suites as rules -/
inductive NamedHds (X : Cx) (n : Str) : List ExceptHandler → List (Value × Sui) → Prop
  | nil : NamedHds X n [] []
  | cons {x : Str} {c : Value} {ts : Sui} {st : Stmt} {sts : List Stmt} {px ph : Pos} {hs : List ExceptHandler} {l : List (Value × Sui)} (hc : Names X x c)
      (su : ∀ (e : Addr) (oe : Obj) (T : Value) (d : Option Addr) (pn : List (Addr × Obj)), Zc T d oe → (∃ vs, oe.data = .fields vs) → PSs (X.suite e ((e, oe) :: pn)) (st :: sts) (ts e T d))
      (tl : NamedHds X n hs l) : NamedHds X n (.ExceptHandler (some (.Name x px)) (some n) (st :: sts) ph :: hs) ((c, ts) :: l)
section
variable {X : Cx} {body : List Stmt} {h0 : ExceptHandler} {hs : List ExceptHandler} {l : List (Value × Sui)} {pos : Pos} {tb : WX → TS} {Wo : WX} {i : Nat} {n : Str}
theorem ps_try_named (hst : X.stack = X.env :: X.outer) (hfr0 : X.env.frame = some X.env.locals) (hN : X.N.Nodup) (hi : X.N[i]? = some n) (hln : X.env.kindOf n = some .local) (tk : Takes X Wo)
    (hb : ∀ (W : WX) (pn : List (Addr × Obj)) (xe : Value → Shared → Prop), Takes (X.tr pn xe) W → PassesOwn (model X.prog X.w) X.A X.env xe → PSs (X.tr pn xe) body (tb W))
    (hh : NamedHds X n (h0 :: hs) l) : PS X (.Try body (h0 :: hs) [] [] pos) (fun D q H => tb (wNamed X.K i Wo D l) D q H) := by
  constructor
  intro pins s q H D I hw
  have ok := I.ok
  have stk : X.A.frames = some (X.env :: X.outer) := ok.frames.trans (by rw [hst])
  let late : Value → Shared → Prop := fun e a1 => wpAny (model X.prog X.w) X.A (noteFrame e X.env)
    (fun _ a2 => wpAny (model X.prog X.w) X.A (setFlight e none) (fun _ a3 => wpAny (model X.prog X.w) X.A (handleBy e X.env (h0 :: hs)) (SP X pins D) X.xe a3) X.xe a2) X.xe a1
  have catches : Takes (X.tr (X.pn ++ pins) late) (wNamed X.K i Wo D l) := by
    rintro u sB ⟨e0, B0, sIn, pin2, q2, H2, T, d, rfl, JT, nob, upB, skyB, free, sameOs, bareB, wish⟩
    have JI : Inv X pins q2 H2 sIn := JT.ofTry ok
    have skyE : Sky B0 (X.env :: X.outer) e0 (Zc T d) X.env.locals sB.heap := by
      rw [← hst]
      exact skyB
    show wpAny (model X.prog X.w) X.A (noteFrame (.ref e0) X.env) _ _ _
    apply Sky.land Zc.steady stk hfr0 skyE
    intro hA landed upA
    have JA : Inv X pins q2 H2 { sB with heap := hA } := JI.landed nob landed.1 (upB.trans upA) sameOs bareB
    obtain ⟨oA, flds, atA, zA, datA⟩ := landed.there
    have noFrame : e0 ∉ frs (X.env :: X.outer) := by
      intro inFr
      obtain ⟨_, o2, at2, noFl⟩ := landed.2.2.1.mem inFr
      obtain rfl : oA = o2 := Option.some.inj (atA.symm.trans at2)
      exact noFl _ datA
    have notL : e0 ≠ X.env.locals := by
      rintro rfl
      exact noFrame (List.mem_filterMap.mpr ⟨X.env, List.mem_cons_self, by rw [hfr0]⟩)
    have notF : e0 ∉ X.fs := by
      intro inF
      obtain ⟨en, hen, eq2⟩ := List.mem_filterMap.mp inF
      exact noFrame (List.mem_filterMap.mpr ⟨en, List.mem_cons_of_mem _ hen, eq2⟩)
    have JS := JA.suite atA datA free notL notF
    have clauses : ∀ (ks : List ExceptHandler) (m : List (Value × Sui)), NamedHds X n ks m → wNamed X.K i Wo D m T d q2 H2 → wpAny (model X.prog X.w) X.A (handleBy (.ref e0) X.env ks) (SP X pins D) X.xe { sB with heap := hA } := by
      intro ks m hk
      induction hk with
      | nil =>
        intro out
        apply wpAny_handleBy_nil
        obtain ⟨_, _, _, oC, fC, trb, oT, tsT, atC, zC, datC, oneC, _⟩ := id landed
        unfold PySem.passOn
        refine wpAny_bind (wpAny_field atC datC oneC ?_)
        have nn : ¬ ((Value.ref trb == Value.none) = true) := by simp
        rw [if_neg nn]
        have leave : wpAny (model X.prog X.w) X.A (setFlight (.ref e0) X.env.frame) (fun _ s4 => wpAny (model X.prog X.w) X.A (throw (.ref e0) : Sem Flow) (SP X pins D) X.xe s4) X.xe { sB with heap := hA } := by
          rw [hfr0]
          apply HandSPX.setFlight_upZ landed
          intro hC inC upC
          refine wpAny_throw (tk _ _ ⟨e0, B0, sIn, pins, q2, H2, T, d, rfl, JI, nob, (upB.trans upA).trans upC, ?_, free, sameOs, bareB, out⟩)
          exact .inr (.inr (by rw [hst]; exact inC))
        first
          | exact wpAny_bind leave
          | exact wpAny_bind (wpAny_pure (wpAny_bind leave))
      | @cons x c ts st sts px ph more rest named su tl ih =>
        rintro ⟨yes, isIt, onYes, onNo⟩
        have tyE : PySem.W.Looks (model X.prog X.w) hA (typeOf (.ref e0)) T := fun A2 Q2 E2 s2 kp q3 => wpAny_typeOf_ref (kp _ _ atA) (by rw [zA.1]; exact q3)
        have look := PySem.W.exm_one (M := model X.prog X.w) JA.kIn tyE isIt
        have nameIs : ∀ {Q2 : Value → Shared → Prop} {E2 : Value → Shared → Prop}, Q2 c { sB with heap := hA } → wpAny (model X.prog X.w) (X.A.mark (some (.ref e0))) (eval (.Name x px) X.env) Q2 E2 { sB with heap := hA } := by
          intro Q2 E2 q3
          rcases named with ⟨gl, nd, own | ⟨no, blt, nn⟩⟩
          · exact ld_glob (X := X.suite e0 ((e0, oA) :: (X.pn ++ pins))) JS gl own q3 nd
          · exact ld_blt (X := X.suite e0 ((e0, oA) :: (X.pn ++ pins))) JS gl no blt q3 nn nd
        refine wpAny_handleBy_cons (codeAny_handlers_test (nameIs (look.here ?_))) (by intro z; cases z)
        cases yes with
        | false =>
          show wpAny _ X.A (handleBy (.ref e0) X.env more) _ _ _
          exact ih (onNo rfl)
        | true =>
          apply codeAny_handlers_suite_as
          apply HandSPX.lands_againZ landed
          intro hD landD upD
          have JD : Inv X pins q2 H2 { sB with heap := hD } := JI.landed nob landD.1 ((upB.trans upA).trans upD) sameOs bareB
          obtain ⟨oD, fD, atD, zD, datD⟩ := landD.there
          have JDS := JD.suite atD datD free notL notF
          refine store_ok (X := X.suite e0 ((e0, oD) :: (X.pn ++ pins))) (v := .ref e0) JDS hN hi (.inl hln) rfl (fun sE JE => ?_) (.inr hln)
          have runs := (su e0 oD T d (X.pn ++ pins) zD ⟨_, datD⟩).run [] sE _ H2 _ JE (onYes rfl e0 free)
          refine wpAny_mono runs (fun fl sF ends => ?_) (fun _ _ z => z.elim)
          have bye : ∀ {qF : St} {HF : Hp} {QF : Shared → Prop}, Inv (X.suite e0 ((e0, oD) :: (X.pn ++ pins))) [] qF HF sF → (∀ sG, Inv X pins (qF.set i none) HF sG → QF sG) →
              wpAny (model X.prog X.w) X.A (do bindName X.env n .none; unbindBehindTheSuite X.env n ph) (fun _ sG => QF sG) X.xe sF := by
            intro qF HF QF JF after
            exact gone_ok (JF.unsuite ok) hN hi hln after
          cases fl with
          | ret u =>
            obtain ⟨vF, qF, HF, JF, rF, got⟩ := ends
            exact bye JF fun sG JG => ⟨_, _, _, JG, rF, got⟩
          | next =>
            obtain ⟨qF, HF, JF, got⟩ := ends
            exact bye JF fun sG JG => ⟨_, _, JG, got⟩
          | brk =>
            obtain ⟨qF, HF, JF, got⟩ := ends
            exact bye JF fun sG JG => ⟨_, _, JG, got⟩
          | cont =>
            obtain ⟨qF, HF, JF, got⟩ := ends
            exact bye JF fun sG JG => ⟨_, _, JG, got⟩
    exact clauses _ _ hh wish
  have ran := (hb (wNamed X.K i Wo D l) (X.pn ++ pins) late catches PassesOwn.looking).run [] s q H D (I.toTry _) hw
  refine wpAny_Try_except (wpAny_mono ran (fun fl sZ ends => ?_) fun _ _ z => z)
  cases fl with
  | next =>
    obtain ⟨qZ, HZ, JZ, got⟩ := ends
    exact wpAny_execs_nil ⟨qZ, HZ, JZ.ofTry ok, got⟩
  | ret u =>
    obtain ⟨vZ, qZ, HZ, JZ, rZ, got⟩ := ends
    exact ⟨vZ, qZ, HZ, JZ.ofTry ok, rZ, got⟩
  | brk =>
    obtain ⟨qZ, HZ, JZ, got⟩ := ends
    exact ⟨qZ, HZ, JZ.ofTry ok, got⟩
  | cont =>
    obtain ⟨qZ, HZ, JZ, got⟩ := ends
    exact ⟨qZ, HZ, JZ.ofTry ok, got⟩
end
end L2
namespace Qp
open PySem L2
def oV : Option Str → V
  | none => .non
  | some b => .str b
theorem oV_inj {a b : Option Str} (h : oV a = oV b) : a = b := by
  cases a with
  | none =>
    cases b with
    | none => rfl
    | some y => cases h
  | some x =>
    cases b with
    | none => cases h
    | some y =>
      cases h
      rfl
/-- the pairs of a dict of texts and partners -/
def okv (qs : List Str) (f : Str → Option Str) : List (Key × V) := qs.map fun a => ((Sum.inr a : Key), oV (f a))
theorem okv_len {qs : List Str} {f : Str → Option Str} : (okv qs f).length = qs.length := List.length_map ..
theorem okv_val {f : Str → Option Str} : ∀ {qs : List Str} {a : Str}, a ∈ qs → valV (okv qs f) (Sum.inr a) = some (oV (f a))
  | [], _, h => by cases h
  | b :: r, a, h => by
    by_cases e : b = a
    · exact valV_pos (by show (Sum.inr b : Key) = Sum.inr a; rw [e]) |>.trans (by rw [e])
    · show valV (((Sum.inr b : Key), oV (f b)) :: okv r f) (Sum.inr a) = _
      rw [valV_neg (fun z => e (Sum.inr.inj z))]
      rcases List.mem_cons.mp h with q | q
      · exact absurd q.symm e
      · exact okv_val q
theorem okv_none {f : Str → Option Str} : ∀ {qs : List Str} {a : Str}, a ∉ qs → valV (okv qs f) (Sum.inr a) = none
  | [], _, _ => rfl
  | b :: r, a, h => by
    show valV (((Sum.inr b : Key), oV (f b)) :: okv r f) (Sum.inr a) = _
    rw [valV_neg (fun z => h (by
      have e : b = a := Sum.inr.inj z
      rw [e]
      exact List.mem_cons_self))]
    exact okv_none fun q => h (List.mem_cons_of_mem _ q)
theorem okv_sub {f : Str → Option Str} {key : Key} {v : V} : ∀ {qs : List Str}, valV (okv qs f) key = some v → ∃ a ∈ qs, key = Sum.inr a ∧ v = oV (f a)
  | [], h => by cases h
  | b :: r, h => by
    by_cases e : (Sum.inr b : Key) = key
    · rw [show okv (b :: r) f = ((Sum.inr b : Key), oV (f b)) :: okv r f from rfl, valV_pos e] at h
      exact ⟨b, List.mem_cons_self, e.symm, (Option.some.inj h).symm⟩
    · rw [show okv (b :: r) f = ((Sum.inr b : Key), oV (f b)) :: okv r f from rfl, valV_neg e] at h
      obtain ⟨a, h1, h2⟩ := okv_sub h
      exact ⟨a, List.mem_cons_of_mem _ h1, h2⟩
theorem oV_kd {H : Hp} (o : Option Str) : ∃ k, IsK H (oV o) k := by
  cases o with
  | none => exact ⟨_, .non⟩
  | some b => exact ⟨_, .str b⟩
theorem okv_kd {H : Hp} {qs : List Str} {f : Str → Option Str} (key : Key) (v : V) (h : valV (okv qs f) key = some v) : ∃ k, IsK H v k := by
  obtain ⟨a, _, _, rfl⟩ := okv_sub h
  exact oV_kd _
theorem okv_keys {qs : List Str} {f : Str → Option Str} : (okv qs f).map (·.1) = qs.map Sum.inr := by
  unfold okv
  rw [List.map_map]
  rfl
def setO (f : Str → Option Str) (a : Str) (o : Option Str) : Str → Option Str := fun z => if z = a then o else f z
theorem okv_congr {f g : Str → Option Str} {qs : List Str} (h : ∀ a ∈ qs, f a = g a) : okv qs f = okv qs g := by
  unfold okv
  exact List.map_congr_left fun a ha => by rw [h a ha]
theorem okv_put {f : Str → Option Str} {qs : List Str} {a : Str} {o : Option Str} (h : a ∈ qs) : putK (okv qs f) (Sum.inr a) (oV o) = okv qs (setO f a o) := by
  have hm : ((okv qs f).any fun kv => decide (kv.1 = Sum.inr a)) = true := by
    rw [List.any_eq_true]
    exact ⟨(Sum.inr a, oV (f a)), List.mem_map.mpr ⟨a, h, rfl⟩, by simp⟩
  unfold putK
  rw [if_pos hm]
  unfold okv
  rw [List.map_map]
  refine List.map_congr_left fun z hz => ?_
  show (if (Sum.inr z : Key) = Sum.inr a then _ else _) = _
  unfold setO
  by_cases e : z = a
  · rw [if_pos (by rw [e]), if_pos e]
  · rw [if_neg (fun q => e (Sum.inr.inj q)), if_neg e]
theorem okv_snoc {f : Str → Option Str} {qs : List Str} {a : Str} (h : a ∉ qs) : putK (okv qs f) (Sum.inr a) (oV (f a)) = okv (qs ++ [a]) f := by
  rw [putK_new _ (okv_none h)]
  unfold okv
  rw [List.map_append]
  rfl
/-- a dict whose values are partners -/
theorem kv_okv {kvs : List (Key × V)} {qs : List Str} (hk : kvs.map (·.1) = qs.map Sum.inr) (nd : qs.Nodup) (hv : ∀ a ∈ qs, ∃ o, valV kvs (Sum.inr a) = some (oV o)) : ∃ f, kvs = okv qs f := by
  have ndk : (kvs.map (·.1)).Nodup := by
    rw [hk]
    exact List.Pairwise.map _ (fun _ _ n e => n (Sum.inr.inj e)) nd
  refine ⟨fun a => match valV kvs (Sum.inr a) with
    | some (.str b) => some b
    | _ => none, ?_⟩
  have e1 : kvs = kvs.map fun p => (p.1, (valV kvs p.1).getD .non) := by
    conv => lhs; rw [← List.map_id kvs]
    refine List.map_congr_left fun p hp => ?_
    rw [valV_nd ndk p hp]
    rfl
  have e2 : (kvs.map fun p => (p.1, (valV kvs p.1).getD .non)) = (kvs.map (·.1)).map fun k => (k, (valV kvs k).getD .non) := by
    rw [List.map_map]
    rfl
  rw [hk, List.map_map] at e2
  conv => lhs; rw [e1, e2]
  unfold okv
  refine List.map_congr_left fun a ha => ?_
  obtain ⟨o, ho⟩ := hv a ha
  show ((Sum.inr a : Key), (valV kvs (Sum.inr a)).getD .non) = _
  have e9 : (match valV kvs (Sum.inr a) with
    | some (.str b) => some b
    | _ => none) = o := by
    rw [ho]
    cases o <;> rfl
  show _ = ((Sum.inr a : Key), oV (match valV kvs (Sum.inr a) with
    | some (.str b) => some b
    | _ => none))
  rw [e9, ho]
  rfl
/-- f is a dealing of ns -/
def Dl (ns : List Str) (ws : Str → List Str) (f : Str → Option Str) : Prop := ∀ a ∈ ns, ∀ b, f a = some b → b ∈ opn ws a ∧ f b = some a
theorem isD_okv {ns qs : List Str} {ws : Str → List Str} {f : Str → Option Str} (hp : qs.Perm ns) (nd : ns.Nodup) (g : ∀ a ∈ ns, GRow ns a (ws a)) : isD ns ws (some (okv qs f)) = true ↔ Dl ns ws f := by
  have mem : ∀ a, a ∈ qs ↔ a ∈ ns := fun a => hp.mem_iff
  constructor
  · intro h a ha b hb
    have h' : (hasB (okv qs f) ns && ns.all (okA (okv qs f) ns ws)) = true := h
    rw [Bool.and_eq_true, List.all_eq_true] at h'
    have q := h'.2 a ha
    unfold okA at q
    rw [okv_val ((mem a).mpr ha), hb] at q
    have q : okD (okv qs f) ns ws a (.str b) = true := q
    unfold okD at q
    rw [decide_eq_false (by intro z; cases z), Bool.false_or, Bool.and_eq_true, Bool.and_eq_true, inS_str, inS_str] at q
    have hbn := of_decide_eq_true q.1.1
    have q2 := of_decide_eq_true q.2
    rw [show unV (V.str b) = b from rfl, okv_val ((mem b).mpr hbn)] at q2
    exact ⟨of_decide_eq_true q.1.2, oV_inj (Option.some.inj q2)⟩
  · intro h
    refine PD.isD ⟨?_, fun k hk => ?_, fun a v hv => ?_⟩ g nd fun a ha => ?_
    · rw [okv_keys]
      exact List.Pairwise.map _ (fun _ _ n e => n (Sum.inr.inj e)) (hp.nodup_iff.mpr nd)
    · rw [okv_keys] at hk
      obtain ⟨a, ha, rfl⟩ := List.mem_map.mp hk
      exact ⟨a, (mem a).mp ha, rfl⟩
    · obtain ⟨a', ha', e, rfl⟩ := okv_sub hv
      cases Sum.inr.inj e
      cases hf : f a with
      | none => exact .inl rfl
      | some b =>
        obtain ⟨h1, h2⟩ := h a ((mem a).mp ha') b hf
        have hb := (opn_sym g ((mem a).mp ha') h1).1
        exact .inr ⟨b, rfl, h1, by rw [okv_val ((mem b).mpr hb), h2]; rfl⟩
    · rw [okv_val ((mem a).mpr ha)]
      rfl
/-- a dealing that lies in a dict -/
theorem of_isD {ns : List Str} {ws : Str → List Str} {kvs : List (Key × V)} (h : isD ns ws (some kvs) = true) (nd : ns.Nodup) : ∃ qs f, qs.Perm ns ∧ kvs = okv qs f := by
  have h' : (hasB kvs ns && ns.all (okA kvs ns ws)) = true := h
  rw [Bool.and_eq_true] at h'
  obtain ⟨qs, hp, hk⟩ := has_names h'.1 nd
  have D := dlA_of h
  obtain ⟨f, e⟩ := kv_okv hk (hp.nodup_iff.mpr nd) fun a ha => by
    rcases D.v a (hp.mem_iff.mp ha) with q | ⟨b, q, _⟩
    · exact ⟨none, q⟩
    · exact ⟨some b, q⟩
  exact ⟨qs, f, hp, e⟩
/-! ### written as pairs -/
def gO (f : Str → Option Str) (a : Str) : List Str := match f a with
  | some b => [b]
  | none => []
theorem gO_pw {f : Str → Option Str} {a : Str} : (gO f a).Pairwise leS := by
  unfold gO
  cases f a with
  | none => exact List.Pairwise.nil
  | some b => exact List.pairwise_singleton _ _
def wr0 (f : Str → Option Str) (qs : List Str) : List (Str × Str) := qs.flatMap (pz (gO f))
theorem mem_wr0 {f : Str → Option Str} {qs : List Str} {p : Str × Str} : p ∈ wr0 f qs ↔ p.1 ∈ qs ∧ f p.1 = some p.2 ∧ p.1.cps.toList < p.2.cps.toList := by
  unfold wr0
  rw [List.mem_flatMap]
  constructor
  · rintro ⟨a, ha, hp⟩
    unfold pz at hp
    obtain ⟨b, hb, rfl⟩ := List.mem_map.mp hp
    obtain ⟨h1, h2⟩ := List.mem_filter.mp hb
    unfold gO at h1
    cases hf : f a with
    | none => rw [hf] at h1; cases h1
    | some c =>
      rw [hf] at h1
      have : b = c := by simpa using h1
      subst this
      exact ⟨ha, rfl, of_decide_eq_true h2⟩
  · rintro ⟨h1, h2, h3⟩
    refine ⟨p.1, h1, ?_⟩
    unfold pz gO
    rw [h2]
    exact List.mem_map.mpr ⟨p.2, List.mem_filter.mpr ⟨List.mem_singleton.mpr rfl, decide_eq_true h3⟩, rfl⟩
/-- zs is f written as pairs -/
structure Wr (qs : List Str) (f : Str → Option Str) (zs : List (Str × Str)) : Prop where
  p : zs.Perm (wr0 f qs)
  s : SrtO.Srtd ltZ zs
theorem Wr.uniq {qs rs : List Str} {f g : Str → Option Str} {zs us : List (Str × Str)} (h : Wr qs f zs) (k : Wr rs g us) (hp : qs.Perm rs) (e : ∀ a ∈ qs, f a = g a) : zs = us := by
  refine srtZ_uniq h.s k.s (h.p.trans (List.Perm.trans ?_ k.p.symm))
  refine List.Perm.trans (List.Perm.of_eq ?_) (List.Perm.flatMap_right _ hp)
  unfold wr0
  rw [List.flatMap_def, List.flatMap_def]
  congr 1
  refine List.map_congr_left fun a ha => ?_
  unfold pz gO
  rw [e a ha]
theorem wr0_cong {f g : Str → Option Str} {qs : List Str} (e : ∀ a ∈ qs, f a = g a) : wr0 f qs = wr0 g qs := by
  unfold wr0
  rw [List.flatMap_def, List.flatMap_def]
  congr 1
  refine List.map_congr_left fun a ha => ?_
  unfold pz gO
  rw [e a ha]
theorem Wr.move {qs rs : List Str} {f g : Str → Option Str} {zs : List (Str × Str)} (h : Wr qs f zs) (hp : qs.Perm rs) (e : ∀ a ∈ qs, f a = g a) : Wr rs g zs :=
  ⟨h.p.trans ((List.Perm.of_eq (wr0_cong e)).trans (List.Perm.flatMap_right _ hp)), h.s⟩
theorem wr0_nd {f : Str → Option Str} : ∀ {qs : List Str}, qs.Nodup → (wr0 f qs).Pairwise fun p q => p.1 ≠ q.1
  | [], _ => List.Pairwise.nil
  | a :: r, h => by
    obtain ⟨h1, h2⟩ := List.nodup_cons.mp h
    unfold wr0
    rw [List.flatMap_cons]
    refine List.pairwise_append.mpr ⟨?_, wr0_nd h2, fun p hp q hq e => ?_⟩
    · unfold pz gO
      cases f a with
      | none => exact List.Pairwise.nil
      | some b =>
        by_cases c : a.cps.toList < b.cps.toList
        · rw [List.filter_cons_of_pos (by simp [c])]
          exact List.pairwise_singleton _ _
        · rw [List.filter_cons_of_neg (by simp [c])]
          exact List.Pairwise.nil
    · have hp1 : p.1 = a := by
        unfold pz at hp
        obtain ⟨b, _, rfl⟩ := List.mem_map.mp hp
        rfl
      have hq1 := (mem_wr0.mp hq).1
      rw [← e, hp1] at hq1
      exact h1 hq1
/-! ### the walk over the pairs -/
def set2 (f : Str → Option Str) (p : Str × Str) : Str → Option Str := setO (setO f p.1 (some p.2)) p.2 (some p.1)
def run2 (f : Str → Option Str) (zs : List (Str × Str)) : Str → Option Str := zs.foldl set2 f
def f0 : Str → Option Str := fun _ => none
/-- every step finds both free and open -/
def Good (ns : List Str) (ws : Str → List Str) : (Str → Option Str) → List (Str × Str) → Prop
  | _, [] => True
  | f, p :: r => p.1 ∈ ns ∧ p.2 ∈ opn ws p.1 ∧ f p.1 = none ∧ f p.2 = none ∧ Good ns ws (set2 f p) r
theorem good_app {ns : List Str} {ws : Str → List Str} : ∀ {zs us : List (Str × Str)} {f : Str → Option Str}, Good ns ws f (zs ++ us) ↔ Good ns ws f zs ∧ Good ns ws (run2 f zs) us
  | [], us, f => by simp [Good, run2]
  | p :: r, us, f => by
    show _ ∧ _ ∧ _ ∧ _ ∧ Good ns ws (set2 f p) (r ++ us) ↔ (_ ∧ _ ∧ _ ∧ _ ∧ Good ns ws (set2 f p) r) ∧ Good ns ws (run2 (set2 f p) r) us
    rw [good_app]
    constructor
    · rintro ⟨a, b, c, d, e, g⟩
      exact ⟨⟨a, b, c, d, e⟩, g⟩
    · rintro ⟨⟨a, b, c, d, e⟩, g⟩
      exact ⟨a, b, c, d, e, g⟩
theorem run2_snoc {f : Str → Option Str} {zs : List (Str × Str)} {p : Str × Str} : run2 f (zs ++ [p]) = set2 (run2 f zs) p := by
  unfold run2
  rw [List.foldl_append]
  rfl
theorem dl_set2 {ns : List Str} {ws : Str → List Str} (g : ∀ a ∈ ns, GRow ns a (ws a)) {f : Str → Option Str} {a b : Str} (h : Dl ns ws f) (ha : a ∈ ns) (hb : b ∈ opn ws a) (fa : f a = none) (fb : f b = none) : Dl ns ws (set2 f (a, b)) := by
  obtain ⟨hbn, hab⟩ := opn_sym g ha hb
  have nab : a ≠ b := fun e => by
    have q := (g a ha).2 b (List.mem_filter.mp hb).1
    exact q.2 e.symm
  intro c hc d hd
  unfold set2 setO at hd ⊢
  dsimp only at hd ⊢
  by_cases c1 : c = b
  · rw [if_pos c1] at hd
    cases hd
    rw [c1, if_neg nab, if_pos rfl]
    exact ⟨hab, rfl⟩
  · rw [if_neg c1] at hd
    by_cases c2 : c = a
    · rw [if_pos c2] at hd
      cases hd
      rw [if_pos rfl, c2]
      exact ⟨hb, rfl⟩
    · rw [if_neg c2] at hd
      obtain ⟨h1, h2⟩ := h c hc d hd
      have n1 : d ≠ b := fun e => by rw [e, fb] at h2; cases h2
      have n2 : d ≠ a := fun e => by rw [e, fa] at h2; cases h2
      rw [if_neg n1, if_neg n2]
      exact ⟨h1, h2⟩
theorem good_dl {ns : List Str} {ws : Str → List Str} (g : ∀ a ∈ ns, GRow ns a (ws a)) : ∀ {zs : List (Str × Str)} {f : Str → Option Str}, Dl ns ws f → Good ns ws f zs → Dl ns ws (run2 f zs)
  | [], _, h, _ => h
  | p :: r, f, h, ⟨a, b, c, d, e⟩ => good_dl g (zs := r) (dl_set2 g h a b c d) e
theorem dl_f0 {ns : List Str} {ws : Str → List Str} : Dl ns ws f0 := fun a _ b h => by cases h
/-- pairs without a common person -/
def Apart (p q : Str × Str) : Prop := p.1 ≠ q.1 ∧ p.1 ≠ q.2 ∧ p.2 ≠ q.1 ∧ p.2 ≠ q.2
theorem apart_good {ns : List Str} {ws : Str → List Str} : ∀ {zs : List (Str × Str)} {f : Str → Option Str}, zs.Pairwise Apart → (∀ p ∈ zs, p.1 ∈ ns ∧ p.2 ∈ opn ws p.1 ∧ f p.1 = none ∧ f p.2 = none) → Good ns ws f zs
  | [], _, _, _ => True.intro
  | p :: r, f, hw, h => by
    obtain ⟨h1, h2⟩ := List.pairwise_cons.mp hw
    obtain ⟨a, b, c, d⟩ := h p List.mem_cons_self
    refine ⟨a, b, c, d, apart_good h2 fun q hq => ?_⟩
    obtain ⟨x1, x2, x3, x4⟩ := h q (List.mem_cons_of_mem _ hq)
    obtain ⟨y1, y2, y3, y4⟩ := h1 q hq
    refine ⟨x1, x2, ?_, ?_⟩
    · unfold set2 setO
      rw [if_neg (Ne.symm y3), if_neg (Ne.symm y1)]
      exact x3
    · unfold set2 setO
      rw [if_neg (Ne.symm y4), if_neg (Ne.symm y2)]
      exact x4
theorem wr_good {ns : List Str} {ws : Str → List Str} (nd : ns.Nodup) {f : Str → Option Str} {zs : List (Str × Str)} (D : Dl ns ws f) (W : Wr ns f zs) : Good ns ws f0 zs := by
  have mm : ∀ p ∈ zs, p.1 ∈ ns ∧ f p.1 = some p.2 ∧ p.1.cps.toList < p.2.cps.toList := fun p hp => mem_wr0.mp (W.p.mem_iff.mp hp)
  have pw : zs.Pairwise fun p q => p.1 ≠ q.1 := (List.Perm.pairwise_iff (fun {p q} h e => h e.symm) W.p).mpr (wr0_nd nd)
  refine apart_good ((List.pairwise_iff_forall_sublist.mpr fun {p q} hs => ?_)) fun p hp => ?_
  · have hp : p ∈ zs := hs.subset List.mem_cons_self
    have hq : q ∈ zs := hs.subset (List.mem_cons_of_mem _ List.mem_cons_self)
    have n1 : p.1 ≠ q.1 := List.pairwise_iff_forall_sublist.mp pw hs
    obtain ⟨p1, p2, p3⟩ := mm p hp
    obtain ⟨q1, q2, q3⟩ := mm q hq
    have bp := (D _ p1 _ p2).2
    have bq := (D _ q1 _ q2).2
    refine ⟨n1, fun e => ?_, fun e => ?_, fun e => ?_⟩
    · -- p.1 = q.2
      rw [← e, p2] at bq
      have e2 : p.2 = q.1 := Option.some.inj bq
      rw [e, e2] at p3
      exact absurd q3 (List.lt_asymm p3)
    · rw [e, q2] at bp
      have e2 : q.2 = p.1 := Option.some.inj bp
      rw [e2, ← e] at q3
      exact absurd p3 (List.lt_asymm q3)
    · rw [e, bq] at bp
      exact n1 (Option.some.inj bp).symm
  · obtain ⟨p1, p2, _⟩ := mm p hp
    exact ⟨p1, (D _ p1 _ p2).1, rfl, rfl⟩
end Qp
namespace L2
open PySem PySem.Spec PyProof.Rows
/-- no list, whatever it is -/
def NotL (K : PySem.W.Frag) (H : Hp) (x : V) : Prop := ∀ H', Same H H' → ∃ t, TyX K H' x t ∧ PySem.W.kitOne K t (.type "list") = some false
theorem NotL.same {K : PySem.W.Frag} {H H' : Hp} (s : Same H H') {x : V} (h : NotL K H x) : NotL K H' x := fun H2 s2 => h H2 (s.trans s2)
theorem _root_.L2.IsK.notL {K : PySem.W.Frag} {H : Hp} {x : V} {k : Kd} (h : IsK H x k) (n : k ≠ .lst) : NotL K H x := fun H' s => ⟨_, (h.same s).tyX, by
  have e : isaB k "list" = false := by cases k <;> first | rfl | exact absurd rfl n
  have q := kit_ty (K := K) (kit_list k)
  rw [e] at q
  exact q⟩
def rNotL (K : PySem.W.Frag) : List V → Hp → VK → Prop := fun xs H Q => ∃ x : V, xs = [x, .ty "list"] ∧ NotL K H x ∧ Q (.bl false) H
section
variable {X : Cx} {p p2 pos : Pos} {e : Expr} {te : TE}
theorem call_notL : CallR X (.builtin "isinstance") (rNotL X.K) := fun pins s σ H xs us Q I r ⟨x, ex, hx, q⟩ => by
  obtain ⟨t, h1, h2⟩ := hx H (Same.refl H)
  exact call_isi pins s σ H xs us Q I r ⟨x, .ty "list", t, .type "list", false, ex, .ty "list", h1, h2, q⟩
/-- isinstance(e, list), e of a kind or no list at all -/
theorem pe_isiL (hm : X.mg "isinstance" = none) (hT : X.mg "list" = none) (he : PE X e te) (hg : Gl X "isinstance" := by rfl) (hgT : Gl X "list" := by rfl)
    (hs : starEach [e, .Name "list" p2] X.env = (false, eval e X.env) :: starEach [.Name "list" p2] X.env := by rfl) (hs2 : starEach [.Name "list" p2] X.env = (false, eval (.Name "list" p2) X.env) :: starEach [] X.env := by rfl) (hpl : (backTo pos (starEach [.Name "list" p2] X.env)).any (·.1) = false := by rfl) :
    PE X (.Call (.Name "isinstance" p) [e, .Name "list" p2] [] pos) (tCB (fun xs H Q => rIs "list" xs H Q ∨ rNotL X.K xs H Q) (tCons te (tCons (tC (.ty "list")) tNil))) :=
  pe_callB (X := X) (p := p) (pos := pos) ((call_is kit_list).or call_notL) hg hm (by decide +kernel) (pa_cons he (pa_cons (pe_bltn (v := .ty "list") hgT hT (by decide +kernel) rfl (by decide +kernel) (by decide +kernel)) pa_nil hs2) hs) (by decide) (by decide) hs hpl
end
end L2
/-! enumerate(list, start=k) -/
namespace L2
open PySem PySem.Spec PyProof.Rows
/-- a built-in class called with keywords -/
theorem cw_typeKw {M : Model} {A : Around} {EE : Value → Shared → Prop} {s0 : Shared} {en : Env} {p : Pos} {T : String} {e0 : Expr} {more : List Expr} {kws : List Keyword} {QQ : Value → Shared → Prop}
    (h : wpAny M A (spliced (backTo p (starEach (e0 :: more) en))) (fun us s1 => wpAny M A (evalAll ((backToKw p (keywordEach kws en)).map (·.2)))
      (fun ks s2 => wpAny M A (call (.type T) us (((backToKw p (keywordEach kws en)).filterMap (·.1)).zip ks)) QQ EE s2) EE s1) EE s0)
    (h1 : backTo p (starEach (e0 :: more) en) = (false, eval e0 en) :: backTo p (starEach more en) := by rfl) (h2 : (backTo p (starEach (e0 :: more) en)).any (·.1) = false := by rfl)
    (h3 : (backToKw p (keywordEach kws en)).all (·.1.isSome) = true := by rfl) (h4 : (backToKw p (keywordEach kws en)).any (·.1.isNone) = false := by rfl) :
    wpAny M A (callWith p (.type T) [] (backTo p (starEach (e0 :: more) en)) (backToKw p (keywordEach kws en))) QQ EE s0 := by
  have key : wpAny M A (evalArgs (.type T) true (backTo p (starEach (e0 :: more) en)) (backToKw p (keywordEach kws en))) (fun ar s1 => wpAny M A (call (.type T) ([] ++ ar.pos) ar.kw) QQ EE s1) EE s0 := by
    rw [h1] at h ⊢
    exact evalArgs_kwB h3 h
  unfold callWith
  refine wpAny_bind (wpAny_holding (wpAny_mono key (fun ar s1 q => wpAny_bind (wpAny_standAt ?_)) fun _ _ z => z))
  simp only [h2, h4, Bool.or_false]
  refine wpAny_bind (wpAny_pure ?_)
  exact wpAny_bind (wpAny_mono q (fun r s2 q2 => wpAny_bind (wpAny_holding (wpAny_point (wpAny_pure q2)))) fun _ _ z => z)
def IteS (K : PySem.W.Frag) (a : Addr) (c : Int) : It :=
  ⟨fun i H => ∃ (xs : List V) (x : V), SqL K H a xs ∧ xs[i]? = some x, fun i H v H' => ∃ T x, v = .ref T ∧ H T = none ∧ H' = upd H T (.tup [.int (c + (i : Int)), x]) ∧ ∀ xs, SqL K H a xs → xs[i]? = some x, fun i H => ∃ xs : List V, SqL K H a xs ∧ xs.length ≤ i⟩
theorem turn_enumS {P : Program} {w : World} {K : PySem.W.Frag} {elts : List Expr} {kk : Nat} {tpos : Pos} (a e it : Addr) (c : Int) :
    Turn P w K (.Tuple elts kk tpos) (IteS K a c) [e, it] e (fun i h => (∃ old, IsEnum h e it (c + (i : Int)) old) ∧ h.IsListIter it a i ∧ e ≠ it) where
  mem := by simp
  obj := fun i h st b hb => by
    obtain ⟨⟨old, he⟩, ⟨o, ho, hc, hd⟩, _⟩ := st
    have e' : b = e ∨ b = it := by simpa using hb
    rcases e' with z | z
    · subst z; exact ⟨_, he, fun v q => nomatch q⟩
    · subst z; exact ⟨o, ho, fun v q => by rw [hd] at q; cases q⟩
  keep := fun i h h' st kp => let ⟨⟨old, he⟩, hi, hn⟩ := st; ⟨⟨old, kp e (by simp) _ he⟩, hi.at fun o q => kp it (by simp) o q, hn⟩
  item := by
    intro X hP hw hK hc i pins s σ H E I hf st hg
    subst hP hw hK
    obtain ⟨⟨old, he⟩, hit, hne⟩ := st
    obtain ⟨xs, x, hq, hx⟩ := hg
    obtain ⟨its, rv, p, hz⟩ := I.list hq
    obtain ⟨u, hu, ru⟩ := rv.get hx
    have sz1 : e < s.heap.objs.size := Heap.lt_size he
    have sz2 : it < s.heap.objs.size := by obtain ⟨_, q, _⟩ := hit; exact Heap.lt_size q
    have lt1 : i < its.toArray.size := by
      have := (List.getElem?_eq_some_iff.mp hu).1
      simpa using this
    have na : a ≠ it := by
      obtain ⟨o1, _, e1, _, _, d1⟩ := p
      obtain ⟨o2, e2, _, d2⟩ := hit
      intro z
      rw [z, e2] at e1
      cases e1
      rw [d2] at d1
      cases d1
    have ne : a ≠ e := by
      obtain ⟨o1, _, e1, _, _, d1⟩ := p
      intro z
      rw [z, he] at e1
      cases e1
      cases d1
    have D := Draws.list (prog := X.prog) (w := X.w) (A := X.A.in1) (by rw [show X.A.in1.handled = none from I.ok.hd hc]) it a na its.toArray
    refine wpAny_pyNext_enum_itemC D he ⟨hit, p.isList⟩ lt1 hne (by
      intro z
      have z' : e = it ∨ e = a := by simpa using z
      rcases z' with z | z
      · exact hne z
      · exact ne z.symm) fun y h1 tk hy ho hst hT hsz hk => ?_
    have eyu : y = u := by
      have e1 : its.toArray[i]? = some u := by simpa using hu
      rw [e1] at hy
      exact (Option.some.inj hy).symm
    subst eyu
    obtain ⟨hit2, _⟩ := hst
    refine ⟨_, rfl, wpAny_letOwnedTupleGo_enum (s := { s with heap := h1, toks := tk + 1 }) ho fun h2 he2 sb => ?_⟩
    have hT2 : h2.get? s.heap.objs.size = some { cls := .type "tuple", data := .seq #[.int (c + (i : Int)) tk, y] } := (sb.2 _ (Nat.ne_of_gt sz1)).trans hT
    have fresh : ObjOk X.prog X.w (upd H s.heap.objs.size (.tup [.int (c + (i : Int)), x])) h2 s.heap.objs.size (.tup [.int (c + (i : Int)), x]) :=
      ⟨by show 2 ≤ sizeLine; decide, [.int (c + (i : Int)) tk, y], .cons ⟨_, rfl⟩ (.cons ru .nil), ⟨_, hT2, rfl, _, rfl⟩⟩
    have I2 : Inv X pins σ (upd H s.heap.objs.size (.tup [.int (c + (i : Int)), x])) { s with heap := h2, toks := tk + 1 } :=
      I.turnedNew (ch := [e, it]) (fun b ob hb q => (sb.2 b (fun z => hb (by simp [z]))).trans (hk b ob (fun z => hb (by simp [z])) (fun z => hb (by simp [z])) q)) hf (Nat.le_refl _) fresh
    refine ⟨.ref s.heap.objs.size, _, I2, rfl, ⟨_, x, rfl, I.hok.fresh (Nat.le_refl _), rfl, fun ys hy => by rw [I.list_inj hy hq]; exact hx⟩, ⟨⟨y, ?_⟩, hit2.at fun o q => (sb.2 it (Ne.symm hne)).trans q, hne⟩, fun b hb => ?_⟩
    · have e1 : c + ((i + 1 : Nat) : Int) = c + (i : Int) + 1 := by omega
      rw [e1]
      exact he2
    · have hb' : b < s.heap.objs.size := by
        have e' : b = e ∨ b = it := by simpa using hb
        rcases e' with z | z
        · subst z; exact sz1
        · subst z; exact sz2
      rw [upd_ne (Nat.ne_of_lt hb')]
      exact (hf b hb).1
  done := by
    intro X hP hw hK hc i pins s σ H E I hf st hg
    subst hP hw hK
    obtain ⟨⟨old, he⟩, hit, hne⟩ := st
    obtain ⟨xs, hq, hx⟩ := hg
    obtain ⟨its, rv, p, hz⟩ := I.list hq
    obtain ⟨f0, f1, f2, f3, f4, f5⟩ := hf it (by simp)
    have hl := rv.length
    have none1 : its.toArray[i]? = none := by simp; omega
    have hT : s.TypeIs (.ref e) "enumerate" := ⟨_, he, rfl⟩
    unfold pyNext
    refine wpAny_bind (wpAny_attempt (wpAny_callSpecial?_slot (name := Str.ofString "__next__") hT F.slot_enumerate_next
      (wpAny_call_entry F.slot_enumerate_next hT F.entry_enumerate_next ?_ (F.args_enumerate_next_1 _))))
    show wpAny _ _ (field (.ref e) 2 >>= _) _ _ _
    refine wpAny_bind (wpAny_field he rfl (x := .ref it) rfl ?_)
    refine wpAny_bind (wpAny_nextOf_list_end (by rw [show X.A.in1.handled = none from I.ok.hd hc]) hit p.isList none1 fun h1 x he1 hx1 => ?_)
    obtain ⟨o, ho, hc1⟩ := hx1
    refine wpAny_bind (wpAny_isInstance (T := "StopIteration") (b := true) ⟨o, ho, hc1⟩ isSubtype_stop ?_)
    exact wpAny_pure ⟨rfl, I.turned (t' := s.toks) (fun b o hb q => he1 b o hb q) f0 f1 f3 f4 f5⟩
  self := fun A i s Q E st h => let ⟨⟨_, he⟩, _⟩ := st; wpAny_pyIter_enum he h
end L2
namespace L2
open PySem PySem.Spec PyProof.Rows
theorem walk_enumS {K : PySem.W.Frag} {a : Addr} {c : Int} {xs : List V} : Walk (IteS K a c) xs.length (fun H => SqL K H a xs) (YPair (fun i => some (.int (c + (i : Int)))) (fun i => xs[i]?)) := by
  refine ⟨fun i _ hi q => ⟨xs, xs[i], q, by simp [hi]⟩, fun _ q => ⟨xs, q, Nat.le_refl _⟩, fun i H v H' _ q y => ?_⟩
  obtain ⟨T, x, h1, h2, h3, h4⟩ := y
  exact ⟨T, _, x, h1, h2, h3, rfl, h4 xs q⟩
def iEnumS (K : PySem.W.Frag) (c : Int) (ta : TA) : TI := fun σ H R => ta σ H fun vs H1 => ∃ a xs, vs = [.ref a] ∧ SqL K H1 a xs ∧ R (IteS K a c) H1
theorem pi_enumS {X : Cx} {e0 : Expr} {ta : TA} {p pos tpos kp cp : Pos} {j : Nat} {elts : List Expr} {kk : Nat} {c : Int} (hg : Gl X "enumerate") (hm : X.mg "enumerate" = none) (hc0 : 0 ≤ c) (hc1 : c < 2 ^ 62) (ha : PA X [e0] ta)
    (h1 : backTo pos (starEach [e0] X.env) = (false, eval e0 X.env) :: backTo pos (starEach [] X.env) := by rfl) (h2 : (backTo pos (starEach [e0] X.env)).any (·.1) = false := by rfl)
    (h3 : (backToKw pos (keywordEach [⟨some "start", .Constant (.int c) j cp, kp⟩] X.env)).all (·.1.isSome) = true := by rfl) (h4 : (backToKw pos (keywordEach [⟨some "start", .Constant (.int c) j cp, kp⟩] X.env)).any (·.1.isNone) = false := by rfl)
    (h5 : (backToKw pos (keywordEach [⟨some "start", .Constant (.int c) j cp, kp⟩] X.env)).filterMap (·.1) = [Str.ofString "start"] := by rfl) :
    PI X (.Tuple elts kk tpos) (.Call (.Name "enumerate" p) [e0] [⟨some "start", .Constant (.int c) j cp, kp⟩] pos) (iEnumS X.K c ta) := by
  refine ⟨fun pins s σ H R I h => ?_⟩
  refine wpAny_Call_Name_kw (ld_blt I hg hm boot_enumerate (cw_typeKw (kws := [⟨some "start", .Constant (.int c) j cp, kp⟩]) (thn (ha.run pos pins s σ H _ I h) fun us s1 ⟨vs, H1, I1, r1, q1⟩ => ?_) h1 h2 h3 h4))
  obtain ⟨a, xs, ex, hq, q⟩ := q1
  subst ex
  cases r1 with
  | cons r rr =>
    cases rr
    cases r
    have hk := (pe_int (X := X) (i := c) (j := j) (pos := cp)).run pins s1 σ H1 (fun x H2 => x = .int c ∧ H2 = H1) I1 ⟨rfl, rfl⟩
    refine kws_cons (thn hk fun v s2 hv => kws_nil ?_)
    obtain ⟨x, H2, I2, rx, rfl, rfl⟩ := hv
    obtain ⟨tk, rfl⟩ : ∃ t, v = Value.int c t := rx
    rw [h5]
    obtain ⟨its, rv, p', hz⟩ := I2.list hq
    show wpAny _ _ (call (.type "enumerate") [.ref a] [(Str.ofString "start", .int c tk)]) _ _ _
    refine enum_begins_start (begins_list a its.toArray) p'.isList (by omega) (by omega) fun h' he hit hsz hkp => wpAny_pyIter_enum he ?_
    have I3 : Inv X pins σ H2 { s2 with heap := h' } := I2.kept (t' := s2.toks) hkp
    refine ⟨s2.heap.objs.size + 1, [s2.heap.objs.size + 1, s2.heap.objs.size], _, _, H2, rfl, I3, turn_enumS a (s2.heap.objs.size + 1) s2.heap.objs.size c, ⟨⟨.none, by rw [Int.natCast_zero, Int.add_zero]; exact he⟩, ⟨_, hit, rfl, rfl⟩, Nat.succ_ne_self _⟩, fun b hb => ?_, q⟩
    have e' : b = s2.heap.objs.size + 1 ∨ b = s2.heap.objs.size := by simpa using hb
    have hle : s2.heap.objs.size ≤ b := by
      rcases e' with z | z
      · subst z; exact Nat.le_add_right _ _
      · subst z; exact Nat.le_refl _
    exact I2.fpOk hle (I2.hok.fresh hle)
end L2
/-! o.m(..), what is raised wished for at the caller's slots; isinstance(x, list) of what is no list, whatever it is -/
namespace L2
open PySem PySem.Spec PyProof.Rows
section
variable {X : Cx} {CX : CXT} {k : Nat} {f C : Addr} {fd : FuncData} {ps : List Str} {sp : Sp} {E : St → XK} {m : Str} {apos pos : Pos} {o e : Expr} {es : List Expr} {ta : TE} {t : TA}
theorem run_fnSl {pins : List (Addr × Obj)} {σ : St} {H : Hp} {s : Shared} {Q : VK} {us : List Value} {vs : List V} (F : FnOk X.prog X.w X.K X.mg X.base CX k f fd ps sp) (hr : Room k X.A) (hb : Binds X.K fd ps []) (hx : ∀ σ, PassesAt CX X σ (E σ))
    (I : Inv X pins σ H s) (r : Vals vs us) (h : sp vs H Q (E σ)) : wpAny (model X.prog X.w) X.A (call (.ref f) us) (EP X pins σ Q) X.xe s := by
  have hl : (us ++ []).length = ps.length := by rw [List.append_nil, ← r.length]; exact F.len _ _ _ _ h
  have hb' := hb s us I.kIn hl
  rw [List.append_nil] at hb'
  refine wpAny_call (codeAny_mono (F.run X.A X.stack s H ⟨us, []⟩ us vs Q (E σ) hr I.env0 hb' r h) fun z s' hq => ?_)
  cases z with
  | error e => exact hx σ pins _ _ e s' I hq
  | ok fl =>
    cases fl with
    | ret u => exact I.after hq
    | next => exact False.elim hq
    | brk => exact False.elim hq
    | cont => exact False.elim hq
def tMethAt (C : Addr) (m : Str) (sp : Sp) (E : St → XK) (ta : TE) (t : TA) : TE := fun σ H Q => ta σ H fun x H1 => ∃ a dx fs, x = .ref a ∧ H1 a = some (.ins C dx fs) ∧ fs.lookup m = none ∧ t σ H1 fun vs H2 => sp (.ref a :: vs) H2 Q (E σ)
theorem pe_methAt {pl : Sem Bool} (he : PE X o ta) (c : Cls X.K C) (hm : Meth X.K C m f) (F : FnOk X.prog X.w X.K X.mg X.base CX k f fd ps sp) (hr : Room k X.A) (hb : Binds X.K fd ps []) (hx : ∀ σ, PassesAt CX X σ (E σ)) (ha : PA X (e :: es) t)
    (hst : starEach (e :: es) X.env = (false, eval e X.env) :: starEach es X.env := by rfl) (hpl : (backTo pos (starEach es X.env)).any (·.1) = false := by rfl)
    (ht : eval (.Call (.Attribute o m apos) (e :: es) [] pos) X.env = (eval o X.env >>= fun ov => standAt apos.atName >>= fun _ => holding [ov] (getMethod ov m pl) >>= fun (f, first) => callWith pos f first (backTo pos (starEach (e :: es) X.env)) (backToKw pos (keywordEach [] X.env))) := by rfl) :
    PE X (.Call (.Attribute o m apos) (e :: es) [] pos) (tMethAt C m sp E ta t) := by
  refine ⟨fun pins s σ H Q I h => ?_⟩
  refine PySem.W.methodCall_KW (pl := pl) (thn (he.run pins s σ H _ I h) fun u s1 hu => ?_) ht
  obtain ⟨x, H1, I1, rx, a, dx, fs, rfl, ea, l, q⟩ := hu
  obtain rfl : u = Value.ref a := rx
  refine getmeth_ok I1 ea c hm l ?_
  refine PySem.W.callWith_K (first := [.ref a]) (h₀ := X.base) I.ok.mod.kin hm.kp (thn (ha.run pos pins s1 σ H1 _ I1 q) fun us s2 hu => ?_) hst hpl
  obtain ⟨vs, H2, I2, r, q2⟩ := hu
  exact ⟨I2.kIn, run_fnSl (us := .ref a :: us) (vs := .ref a :: vs) F hr hb hx I2 (.cons rfl r) q2⟩
end
end L2
namespace Qp
open PySem L2 TL
/-! ### lines of words -/
def lineOf (r : List Str) : Str := Txt.join " " r
def textOf (rows : List (List Str)) : Str := Txt.join "" (rows.map fun r => lineOf r ++ "\n")
def parse (z : Str) : List (List Str) := (Txt.split z "\n").dropLast.map fun l => Txt.split l " "
/-- a word without blanks and ends of lines -/
def Wf (w : Str) : Prop := 10 ∉ tl w ∧ 32 ∉ tl w
theorem tl_nl : tl ("\n" : Str) = [10] := by decide +kernel
theorem tl_sp : tl (" " : Str) = [32] := by decide +kernel
theorem tl_col : tl (":" : Str) = [58] := by decide +kernel
theorem tl_em : tl ("" : Str) = [] := by decide +kernel
theorem tl_joinS (y : Str) (ps : List Str) : tl (Txt.join y ps) = joinL (tl y) (ps.map tl) := by rw [join_eq, tl_join]
theorem mem_joinL {S : List Nat} {c : Nat} : ∀ {ps : List (List Nat)}, c ∈ joinL S ps → c ∈ S ∨ ∃ p ∈ ps, c ∈ p
  | [], h => by cases h
  | [p], h => .inr ⟨p, List.mem_singleton.mpr rfl, h⟩
  | p :: q :: r, h => by
    have h : c ∈ p ++ (S ++ joinL S (q :: r)) := h
    rcases List.mem_append.mp h with h | h
    · exact .inr ⟨p, List.mem_cons_self, h⟩
    · rcases List.mem_append.mp h with h | h
      · exact .inl h
      · rcases mem_joinL h with h | ⟨u, hu, h⟩
        · exact .inl h
        · exact .inr ⟨u, List.mem_cons_of_mem _ hu, h⟩
theorem joinL_nl : ∀ ls : List (List Nat), joinL [] (ls.map fun l => l ++ [10]) = joinL [10] (ls ++ [[]])
  | [] => rfl
  | [l] => by
    show l ++ [10] = l ++ ([10] ++ [])
    rw [List.append_nil]
  | l :: m :: r => by
    have ih := joinL_nl (m :: r)
    show (l ++ [10]) ++ ([] ++ joinL [] ((m :: r).map fun l => l ++ [10])) = l ++ ([10] ++ joinL [10] ((m :: r) ++ [[]]))
    rw [ih, List.nil_append, List.append_assoc]
theorem textOf_eq (rows : List (List Str)) : textOf rows = Txt.join "\n" (rows.map lineOf ++ [("" : Str)]) := by
  apply ext_tl
  unfold textOf
  rw [tl_joinS, tl_joinS, tl_em, tl_nl, List.map_append, List.map_map, List.map_map]
  have e := joinL_nl (rows.map fun r => tl (lineOf r))
  rw [List.map_map] at e
  have e1 : (rows.map (tl ∘ fun r => lineOf r ++ "\n")) = rows.map ((fun l => l ++ [10]) ∘ fun r => tl (lineOf r)) := by
    refine List.map_congr_left fun r _ => ?_
    show tl (lineOf r ++ "\n") = tl (lineOf r) ++ [10]
    rw [tl_append, tl_nl]
  rw [e1, e]
  show joinL [10] (rows.map (fun r => tl (lineOf r)) ++ [[]]) = joinL [10] (rows.map (tl ∘ lineOf) ++ [tl ""])
  rw [tl_em]
  rfl
theorem joinL_snoc (S : List Nat) : ∀ (ls : List (List Nat)) (l : List Nat), ls ≠ [] → joinL S (ls ++ [l]) = joinL S ls ++ (S ++ l)
  | [], _, h => absurd rfl h
  | [a], l, _ => rfl
  | a :: b :: r, l, _ => by
    have ih := joinL_snoc S (b :: r) l (by simp)
    show a ++ (S ++ joinL S ((b :: r) ++ [l])) = (a ++ (S ++ joinL S (b :: r))) ++ (S ++ l)
    rw [ih]
    simp
/-- the text without its last end of line -/
def bodyOf (rows : List (List Str)) : Str := Txt.join "\n" (rows.map lineOf)
theorem textOf_body {rows : List (List Str)} (h : rows ≠ []) : textOf rows = bodyOf rows ++ "\n" := by
  apply ext_tl
  rw [textOf_eq, tl_append]
  unfold bodyOf
  rw [tl_joinS, tl_joinS, tl_nl, List.map_append]
  show joinL [10] (_ ++ [tl ""]) = _
  rw [joinL_snoc [10] _ _ (by simpa using h), tl_em]
  rfl
theorem line_nl {r : List Str} (h : ∀ w ∈ r, Wf w) : 10 ∉ tl (lineOf r) := fun m => by
  unfold lineOf at m
  rw [tl_joinS, tl_sp] at m
  rcases mem_joinL m with m | ⟨p, hp, m⟩
  · exact absurd m (by decide)
  · obtain ⟨w, hw, rfl⟩ := List.mem_map.mp hp
    exact (h w hw).1 m
theorem parse_text {rows : List (List Str)} (h1 : ∀ r ∈ rows, r ≠ []) (h2 : ∀ r ∈ rows, ∀ w ∈ r, Wf w) : parse (textOf rows) = rows := by
  unfold parse
  rw [textOf_eq, split_join (s := 10) (S := []) tl_nl (by decide +kernel) (by simp) fun p hp => ?_, List.dropLast_concat, List.map_map]
  · conv => rhs; rw [← List.map_id rows]
    refine List.map_congr_left fun r hr => ?_
    show Txt.split (lineOf r) " " = r
    exact split_join (s := 32) (S := []) tl_sp (by decide +kernel) (h1 r hr) fun w hw => (h2 r hr w hw).2
  · rcases List.mem_append.mp hp with hp | hp
    · obtain ⟨r, hr, rfl⟩ := List.mem_map.mp hp
      exact line_nl (h2 r hr)
    · have e : p = "" := by simpa using hp
      rw [e, tl_em]
      exact fun h => by cases h
/-- endswith('\\n') -/
def endB (z : Str) : Bool := decide ((tl z).getLast? = some 10)
theorem ends_nl (z : Str) : Txt.endswith z "\n" = endB z := by
  unfold Txt.endswith endB
  have ln : ("\n" : Str).length = 1 := by decide +kernel
  rw [ln]
  have hl := len_tl z
  cases q : (tl z).reverse with
  | nil =>
    have e : tl z = [] := List.reverse_eq_nil_iff.mp q
    have h : z.length = 0 := by rw [hl, e]; rfl
    rw [h, e]
    rfl
  | cons c r =>
    have e : tl z = r.reverse ++ [c] := by rw [← List.reverse_reverse (tl z), q, List.reverse_cons]
    have h : z.length = r.length + 1 := by rw [hl, e]; simp
    have hz : 0 + 1 ≤ z.length := by omega
    rw [decide_eq_true hz, Bool.true_and]
    unfold Builtin.Str.subAt
    rw [ln, h]
    have e1 : (z.cps.extract (r.length + 1 - 1) (r.length + 1 - 1 + 1)) = #[c] := by
      apply Array.toList_inj.mp
      rw [Array.toList_extract]
      show ((tl z).drop (r.length + 1 - 1)).take (r.length + 1 - 1 + 1 - (r.length + 1 - 1)) = _
      rw [e, show r.length + 1 - 1 = r.reverse.length by simp, List.drop_left]
      rw [show r.reverse.length + 1 - r.reverse.length = 1 by omega]
      rfl
    have e2 : ("\n" : Str).cps = #[10] := by decide +kernel
    rw [e1, e2, e]
    by_cases c10 : c = 10
    · rw [c10]
      simp
    · simp [c10]
theorem end_text {rows : List (List Str)} (h : rows ≠ []) : endB (textOf rows) = true := by
  unfold endB
  rw [textOf_body h, tl_append, tl_nl]
  simp
theorem last_ne {l : List Nat} (h : 10 ∉ l) : l.getLast? ≠ some 10 := fun e => h (List.mem_of_getLast? e)
theorem last_app (a : List Nat) {b : List Nat} (h : b ≠ []) : (a ++ b).getLast? = b.getLast? := by
  rw [List.getLast?_append]
  cases q : b.getLast? with
  | none => exact absurd (List.getLast?_eq_none_iff.mp q) h
  | some x => rfl
theorem end_body {rows : List (List Str)} {r : List Str} (h : ∀ w ∈ r, Wf w) (hr : lineOf r ≠ "") : endB (bodyOf (rows ++ [r])) = false := by
  unfold endB
  refine decide_eq_false ?_
  unfold bodyOf
  rw [tl_joinS, List.map_append, List.map_append, tl_nl]
  have ne : tl (lineOf r) ≠ [] := fun e => hr (ext_tl (by rw [e, tl_em]))
  have q : ∀ ls : List (List Nat), (joinL [10] (ls ++ [tl (lineOf r)])).getLast? = (tl (lineOf r)).getLast? := fun ls => by
    by_cases c : ls = []
    · rw [c]; rfl
    · rw [joinL_snoc [10] _ _ c, last_app _ (by simp), last_app _ ne]
  rw [show (List.map tl (List.map lineOf [r])) = [tl (lineOf r)] from rfl, q]
  exact last_ne (line_nl h)
theorem cut_body (x : Str) : cutS (x ++ "\n") none (some (-1)) = x := by
  apply ext_tl
  have hl : (x ++ "\n").length = x.length + 1 := by
    rw [len_tl, tl_append, tl_nl, List.length_append, ← len_tl]
    rfl
  show (((tl (x ++ "\n")).drop 0).take (HT.sIx (x ++ "\n").length (x ++ "\n").length (some (-1)) - 0)) = tl x
  have e : HT.sIx (x ++ "\n").length (x ++ "\n").length (some (-1)) = x.length := by
    rw [hl]
    show (if (-1 : Int) < 0 then ((-1 : Int) + ((x.length + 1 : Nat) : Int)).toNat else (min (x.length + 1) ((-1 : Int)).toNat)) = _
    rw [if_pos (by decide)]
    omega
  rw [e, List.drop_zero, Nat.sub_zero, tl_append, len_tl, List.take_left]
/-- a blank behind the last line -/
theorem body_blank (rows : List (List Str)) {r : List Str} (h : r ≠ []) : bodyOf (rows ++ [r]) ++ " \n" = textOf (rows ++ [r ++ [("" : Str)]]) := by
  have hr : lineOf (r ++ [("" : Str)]) = lineOf r ++ " " := by
    apply ext_tl
    unfold lineOf
    rw [tl_joinS, tl_append, tl_joinS, List.map_append, tl_sp]
    show joinL [32] (_ ++ [tl ""]) = _
    rw [joinL_snoc [32] _ _ (by simpa using h), tl_em]
    rfl
  rw [textOf_body (by simp)]
  apply ext_tl
  have e2 : tl (" \n" : Str) = [32, 10] := by decide +kernel
  rw [tl_append, tl_append, e2, tl_nl]
  unfold bodyOf
  rw [tl_joinS, tl_joinS, List.map_append, List.map_append, List.map_append, List.map_append]
  show joinL _ (_ ++ [tl (lineOf r)]) ++ [32, 10] = joinL _ (_ ++ [tl (lineOf (r ++ [("" : Str)]))]) ++ [10]
  rw [hr, tl_append, tl_sp]
  by_cases c : rows = []
  · rw [c]
    show tl (lineOf r) ++ [32, 10] = (tl (lineOf r) ++ [32]) ++ [10]
    rw [List.append_assoc]
    rfl
  · rw [joinL_snoc _ _ _ (by simpa using c), joinL_snoc _ _ _ (by simpa using c)]
    simp
theorem text_more (rows : List (List Str)) : textOf rows ++ "\n" = textOf (rows ++ [[("" : Str)]]) := by
  apply ext_tl
  have e : lineOf [("" : Str)] = "" := by decide +kernel
  rw [tl_append]
  unfold textOf
  rw [tl_joinS, tl_joinS, List.map_append, List.map_append, tl_em]
  show joinL [] _ ++ tl "\n" = joinL [] (_ ++ [tl (lineOf [("" : Str)] ++ "\n")])
  rw [e, tl_append, tl_em, List.nil_append]
  by_cases c : rows = []
  · rw [c]
    rfl
  · rw [joinL_snoc [] _ _ (by simpa using c)]
    rfl
/-! ### sizes -/
theorem joinL_len (S : List Nat) : ∀ ps : List (List Nat), (joinL S ps).length ≤ (ps.map List.length).sum + ps.length * S.length
  | [] => Nat.zero_le _
  | [p] => by
    show p.length ≤ _
    simp
  | p :: q :: r => by
    have ih := joinL_len S (q :: r)
    show (p ++ (S ++ joinL S (q :: r))).length ≤ _
    rw [List.length_append, List.length_append, List.map_cons, List.sum_cons, List.length_cons, Nat.add_mul, Nat.one_mul]
    omega
theorem sum_le {l : List Nat} {b : Nat} (h : ∀ x ∈ l, x ≤ b) : l.sum ≤ l.length * b := by
  induction l with
  | nil => exact Nat.zero_le _
  | cons x r ih =>
    have h1 := h x List.mem_cons_self
    have h2 := ih fun y hy => h y (List.mem_cons_of_mem _ hy)
    rw [List.sum_cons, List.length_cons, Nat.add_mul, Nat.one_mul]
    omega
/-- few rows of few short words -/
structure WB (rows : List (List Str)) : Prop where
  n : rows.length ≤ 100
  r : ∀ r ∈ rows, r.length ≤ 100
  w : ∀ r ∈ rows, ∀ w ∈ r, w.length ≤ 100
theorem row_sum {r : List Str} (h1 : r.length ≤ 100) (h2 : ∀ w ∈ r, w.length ≤ 100) : (r.map (·.length)).sum ≤ 10000 := by
  have q := sum_le (l := r.map (·.length)) (b := 100) fun x hx => by
    obtain ⟨w, hw, rfl⟩ := List.mem_map.mp hx
    exact h2 w hw
  rw [List.length_map] at q
  have := Nat.mul_le_mul_right 100 h1
  omega
theorem line_len {r : List Str} (h1 : r.length ≤ 100) (h2 : ∀ w ∈ r, w.length ≤ 100) : (lineOf r).length ≤ 10100 := by
  rw [len_tl]
  unfold lineOf
  rw [tl_joinS, tl_sp]
  have q := joinL_len [32] (r.map tl)
  have e : (r.map tl).map List.length = r.map (·.length) := by
    rw [List.map_map]
    exact List.map_congr_left fun w _ => (len_tl w).symm
  rw [e, List.length_map] at q
  have := row_sum h1 h2
  have e3 : ([32] : List Nat).length = 1 := rfl
  rw [e3] at q
  omega
theorem text_len {rows : List (List Str)} (h : WB rows) : (textOf rows).length ≤ 1010100 := by
  rw [len_tl]
  unfold textOf
  rw [tl_joinS, tl_em]
  have q := joinL_len [] ((rows.map fun r => lineOf r ++ "\n").map tl)
  have q2 := sum_le (l := ((rows.map fun r => lineOf r ++ "\n").map tl).map List.length) (b := 10101) fun x hx => by
    obtain ⟨y, hy, rfl⟩ := List.mem_map.mp hx
    obtain ⟨u, hu, rfl⟩ := List.mem_map.mp hy
    obtain ⟨r, hr, rfl⟩ := List.mem_map.mp hu
    rw [tl_append, tl_nl, List.length_append, ← len_tl]
    have := line_len (h.r r hr) (h.w r hr)
    show _ + 1 ≤ _
    omega
  rw [List.length_map, List.length_map, List.length_map] at q2
  have := Nat.mul_le_mul_right 10101 h.n
  have e0 : ([] : List Nat).length = 0 := rfl
  rw [e0, Nat.mul_zero] at q
  omega
/-! ### what read_group asks of the rows -/
def lotB (xs ss : List Str) : Bool := decide (vOpt (badFrom (fun x => inS x ss) [] (xs.map V.str)) = .non)
theorem lotB_iff {xs ss : List Str} : lotB xs ss = true ↔ xs.Nodup ∧ ∀ x ∈ xs, x ∈ ss := by
  unfold lotB
  constructor
  · intro h
    have e : badFrom (fun x => inS x ss) [] (xs.map V.str) = none := by
      cases q : badFrom (fun x => inS x ss) [] (xs.map V.str) with
      | none => rfl
      | some k => rw [q] at h; exact absurd (of_decide_eq_true h) (by intro z; cases z)
    obtain ⟨h1, h2⟩ := badFrom_none List.nodup_nil e
    refine ⟨?_, fun x hx => ?_⟩
    · rw [List.nil_append] at h2
      exact List.Pairwise.of_map V.str (fun a b (h : V.str a ≠ V.str b) e => h (by rw [e])) h2
    · have q := h1 (.str x) (List.mem_map.mpr ⟨x, hx, rfl⟩)
      rw [inS_str] at q
      exact of_decide_eq_true q
  · rintro ⟨h1, h2⟩
    rw [badFrom_ok (fun x hx => by
      obtain ⟨z, hz, rfl⟩ := List.mem_map.mp hx
      rw [inS_str]
      exact decide_eq_true (h2 z hz)) (by rw [List.nil_append]; exact List.Pairwise.map V.str (fun a b h e => h (V.str.inj e)) h1)]
    exact decide_eq_true rfl
def firstB (r : List Str) : Bool := decide (r.head? = some ("people" : Str)) && decide (r.tail.length ≤ 16) && lotB r.tail (r.tail.filter nameS)
def rowB (r : List Str) (a : Str) (ps : List Str) : Bool := decide (r.head? = some (a ++ ":")) && lotB r.tail (ps.filter fun b => !decide (b = a))
def RowOk (rs : List (List Str)) (ps : List Str) (i : Nat) (a : Str) : Prop := ∃ r, rs[i]? = some r ∧ rowB r a ps = true
end Qp
namespace Qp
open PySem L2 TL
/-- lists of texts, each its own object -/
inductive RL (H : Hp) : List V → List (List Str) → Prop
  | nil : RL H [] []
  | cons {r : Addr} {row : List Str} {ys : List V} {rows : List (List Str)} : H r = some (lstO row) → RL H ys rows → RL H (.ref r :: ys) (row :: rows)
theorem RL.same {H H' : Hp} (s : Same H H') {ys : List V} {rows : List (List Str)} (h : RL H ys rows) : RL H' ys rows := by
  induction h with
  | nil => exact .nil
  | cons e _ ih => exact .cons (s _ _ e) ih
theorem RL.len {H : Hp} {ys : List V} {rows : List (List Str)} (h : RL H ys rows) : ys.length = rows.length := by
  induction h with
  | nil => rfl
  | cons _ _ ih => rw [List.length_cons, List.length_cons, ih]
theorem RL.at {H : Hp} {ys : List V} {rows : List (List Str)} (h : RL H ys rows) : ∀ {i : Nat} {y : V}, ys[i]? = some y → ∃ r row, y = .ref r ∧ rows[i]? = some row ∧ H r = some (lstO row) := by
  induction h with
  | nil => intro i y e; simp at e
  | @cons r row ys rows e _ ih =>
    intro i y q
    cases i with
    | zero =>
      simp only [List.getElem?_cons_zero, Option.some.injEq] at q
      subst q
      exact ⟨r, row, rfl, rfl, e⟩
    | succ j =>
      simp only [List.getElem?_cons_succ] at q ⊢
      exact ih q
theorem RL.snoc {H : Hp} {ys : List V} {rows : List (List Str)} (h : RL H ys rows) {r : Addr} {row : List Str} (e : H r = some (lstO row)) : RL H (ys ++ [.ref r]) (rows ++ [row]) := by
  induction h with
  | nil => exact .cons e .nil
  | cons e2 _ ih => exact .cons e2 ih
theorem RL.app {H : Hp} {ys zs : List V} {rows rows2 : List (List Str)} (h : RL H ys rows) (k : RL H zs rows2) : RL H (ys ++ zs) (rows ++ rows2) := by
  induction h with
  | nil => exact k
  | cons e2 _ ih => exact .cons e2 ih
theorem RL.mem {H : Hp} {ys : List V} {rows : List (List Str)} (h : RL H ys rows) {y : V} (hy : y ∈ ys) : ∃ r row, y = .ref r ∧ row ∈ rows ∧ H r = some (lstO row) := by
  obtain ⟨i, e⟩ := List.mem_iff_getElem?.mp hy
  obtain ⟨r, row, h1, h2, h3⟩ := h.at e
  exact ⟨r, row, h1, List.mem_of_getElem? h2, h3⟩
theorem RL.put {H : Hp} {ys : List V} {rows : List (List Str)} {D : Addr} {o : HO} (h : RL H ys rows) (n : ∀ r, V.ref r ∈ ys → r ≠ D) : RL (upd H D o) ys rows := by
  induction h with
  | nil => exact .nil
  | @cons r row ys rows e _ ih => exact .cons (by rw [upd_ne (n r List.mem_cons_self)]; exact e) (ih fun r2 h2 => n r2 (List.mem_cons_of_mem _ h2))
theorem RL.drop {H : Hp} {ys : List V} {rows : List (List Str)} (h : RL H ys rows) : ∀ k, RL H (ys.drop k) (rows.drop k) := by
  induction h with
  | nil => intro k; rw [List.drop_nil, List.drop_nil]; exact .nil
  | cons e h2 ih =>
    intro k
    cases k with
    | zero => exact .cons e h2
    | succ j => exact ih j
section
variable {X : Cx} {K : PySem.W.Frag} {o e : Expr} {to te : TE}
/-- join inside a block -/
theorem pe_joinK {apos pos : Pos} (hK : X.K = K) (ho : PE X o to) (he : PE X e te) (hs : starEach [e] X.env = [(false, eval e X.env)] := by rfl) (hbase : attributeBase o "join" X.env (eval o X.env) = eval o X.env := by rfl) (hline : (apos.endLine == pos.line) = true := by rfl) :
    PE X (.Call (.Attribute o "join" apos) [e] [] pos) (tM1 (fun x xs H Q => ∃ a p, ∃ ys : List Str, x = .str a ∧ xs = [.ref p] ∧ (SqL K H p (ys.map V.str) ∨ SqT K H p (ys.map V.str)) ∧
      (ys.map (·.length)).sum + ys.length * a.length ≤ 16777216 ∧ Q (.str (Txt.join a ys)) H) to te) := by
  subst hK
  exact pe_join ho he hs hbase hline
theorem same_put {H H' : Hp} (s : Same H H') {D : Addr} (hD : H D = none) {o : HO} : Same H (upd H' D o) := fun b u e => by
  rw [upd_ne (ne_of_none e hD)]
  exact s _ _ e
end
section
variable {P : Program} {w : World} {K : PySem.W.Frag} {mg : Str → Option Value} {base : Heap}
theorem cut_last (xs : List V) : cutV xs none (some (-1)) = xs.dropLast := by
  have e : HT.sIx xs.length xs.length (some (-1)) = xs.length - 1 := by
    show (if (-1 : Int) < 0 then ((-1 : Int) + (xs.length : Int)).toNat else min ((-1 : Int)).toNat xs.length) = _
    rw [if_pos (by decide)]
    omega
  unfold cutV
  rw [e, HT.sIx_none, List.drop_zero, Nat.sub_zero, ← List.dropLast_eq_take]
theorem mem_le_sum {l : List Nat} {x : Nat} (h : x ∈ l) : x ≤ l.sum := by
  induction l with
  | nil => cases h
  | cons y r ih =>
    rw [List.sum_cons]
    rcases List.mem_cons.mp h with e | h
    · rw [e]; exact Nat.le_add_right _ _
    · exact Nat.le_trans (ih h) (Nat.le_add_left _ _)
/-- _as_rows(text) -/
def spAR : Sp := fun vs H Q _ => ∃ z : Str, vs = [.str z] ∧ z.length ≤ 2000000 ∧ ∀ D ys H', Same H H' → H D = none → H' D = some (.lst ys) → RL H' ys (parse z) → Q (.ref D) H'
theorem ok_asrows {f : Addr} {fd : FuncData} (F : Fun K "_as_rows" "_as_rows" sasrows f fd) (B : Bl mg) : FnOk P w K mg base CX0 1 f fd ["text"] spAR := by
  refine F.ok scasrows (fun vs H Q E h => ?_) (fun cdv A outer s H vs Q E hr h => ?_)
  · obtain ⟨z, rfl, _⟩ := h
    rfl
  · obtain ⟨z, rfl, hz, kq⟩ := h
    have esz : sizeLine = 16777216 := sizeLine_eq
    refine ⟨_, pss_one (ps_ret (pe_lc (own := [("line", 1)]) (g := gName 1) (tt := tYes) rfl scasrows.nd (pi_list (pe_slice sl_list (pe_split (pv 0) pe_str) po_none (po_some (pe_un un_neg pe_int)))) (blkOk_by (own := [("line", 1)]) (N := ["text", "line"]) (sc := defScope sasrows) (by decide +kernel))
      (fun _ _ _ _ _ => pg_name (i := 1) scasrows.nd rfl (Or.inl rfl)) (fun _ _ _ _ _ => pts_nil)
      (fun _ _ _ _ _ => pe_split (pv 1) pe_str))), ?_⟩
    have w1 := PyProof.Rows.split_weight z "\n" (by decide +kernel)
    refine ⟨_, rfl, ⟨_, rfl⟩, z, "\n", rfl, rfl, by decide +kernel, by rw [esz]; omega, fun p hp => ?_⟩
    refine ⟨_, rfl, _, rfl, p, _, rfl, SqL.of upd_same, fun q hq => ?_⟩
    have ec : cutV ((Txt.split z "\n").map V.str) none (some (-1)) = ((Txt.split z "\n").dropLast).map V.str := by
      rw [cut_last, List.map_dropLast]
    have s1 : Same H (upd (upd H p (.lst ((Txt.split z "\n").map V.str))) q (.lst (cutV ((Txt.split z "\n").map V.str) none (some (-1))))) := (Same.new hp).trans (Same.new hq)
    have hq1 : (upd (upd H p (.lst ((Txt.split z "\n").map V.str))) q (.lst (cutV ((Txt.split z "\n").map V.str) none (some (-1))))) q = some (lstO ((Txt.split z "\n").dropLast)) := by
      rw [upd_same, ec]
      rfl
    have eI : (some (-1 : Int)) = some (-1) := rfl
    revert s1 hq1
    generalize (upd (upd H p (.lst ((Txt.split z "\n").map V.str))) q (.lst (cutV ((Txt.split z "\n").map V.str) none (some (-1))))) = H1
    intro s1 hq1
    refine ⟨_, rfl, ⟨_, SqL.of hq1⟩, fun D hD => lc_it (walk_list (xs := ((Txt.split z "\n").dropLast).map V.str)) (fun i H' => Same H1 H' ∧ ∃ ys, H' D = some (.lst ys) ∧ RL H' ys (((Txt.split z "\n").dropLast.take i).map fun l => Txt.split l " ") ∧ ∀ r, V.ref r ∈ ys → r ≠ D) ⟨Same.new hD, [], upd_same, .nil, fun _ h => by cases h⟩ (fun i H' _ h => SqL.of (h.1 _ _ hq1)) ?_ ?_⟩
    · rintro i x Hx H2 hi ⟨s2, ys, hD1, hR, hN⟩ ⟨rfl, hx⟩
      rw [List.getElem?_map] at hx
      cases el : (Txt.split z "\n").dropLast[i]? with
      | none => rw [el] at hx; cases hx
      | some l =>
        rw [el] at hx
        cases hx
        have hl : l ∈ Txt.split z "\n" := (List.dropLast_sublist _).subset (List.mem_of_getElem? el)
        have hl2 := mem_le_sum (List.mem_map.mpr ⟨l, hl, rfl⟩ : l.length ∈ (Txt.split z "\n").map (·.length))
        refine ⟨rfl, lcTurn ⟨_, rfl, ⟨_, rfl⟩, l, " ", rfl, rfl, by decide +kernel, by rw [esz]; omega, fun r hr => ?_⟩⟩
        have nrD : D ≠ r := ne_of_none hD1 hr
        have hl3 := hR.len
        rw [List.length_map, List.length_take] at hl3
        have hl4 : (Txt.split z "\n").dropLast.length ≤ 2000001 := by rw [List.length_dropLast]; omega
        have sA : Same H2 (upd H2 r (.lst ((Txt.split l " ").map V.str))) := Same.new hr
        have hNr : ∀ r2, V.ref r2 ∈ ys ++ [V.ref r] → r2 ≠ D := fun r2 hr2 => by
          rcases List.mem_append.mp hr2 with q | q
          · exact hN r2 q
          · have e : V.ref r2 = V.ref r := by simpa using q
            cases e
            exact Ne.symm nrD
        refine ⟨ys, sA _ _ hD1, by rw [esz]; omega, fun b o e => ?_, _, upd_same, ?_, hNr⟩
        · rw [upd_ne (ne_of_none e hD)]
          exact sA _ _ (s2 _ _ e)
        · rw [take_snoc el, List.map_append]
          have hR2 := (hR.same sA).snoc (r := r) (row := Txt.split l " ") upd_same
          exact hR2.put (hNr)
    · rintro H2 ⟨s2, ys, hD1, hR, hN⟩
      rw [List.length_map, List.take_of_length_le (Nat.le_refl _)] at hR
      refine kq D ys H2 (fun b o e => s2 _ _ (s1 _ _ e)) ?_ hD1 hR
      cases e : H D with
      | none => rfl
      | some o => rw [s1 _ _ e] at hD; cases hD
end
end Qp
namespace Qp
open PySem L2 TL
def ltS (a b : Str) : Bool := decide (a.cps.toList < b.cps.toList)
/-- the row of a person -/
def drow (f : Str → Option Str) (a : Str) : List Str := match f a with
  | none => [a]
  | some b => [a, b]
def dkeep (f : Str → Option Str) (a : Str) : Bool := match f a with
  | none => true
  | some b => ltS a b
/-- the rows of a dealing, ys its people in sorted order -/
def drows (f : Str → Option Str) (ys : List Str) : List (List Str) := (ys.filter (dkeep f)).map (drow f)
/-- one person, or two that are open to each other, the lesser one first -/
def rowK (ns : List Str) (ws : Str → List Str) : List Str → Bool
  | [a] => decide (a ∈ ns)
  | [a, b] => decide (a ∈ ns) && decide (b ∈ ns) && decide (b ∈ opn ws a) && ltS a b
  | _ => false
def stQ (qs : List Str) : List Str → List Str
  | [a] => qs ++ [a]
  | [a, b] => qs ++ [a] ++ [b]
  | _ => qs
def stG (g : Str → Option Str) : List Str → Str → Option Str
  | [a] => setO g a none
  | [a, b] => setO (setO g a (some b)) b (some a)
  | _ => g
def prB (prev : Option Str) (row : List Str) : Bool := match prev with
  | none => true
  | some p => !ltS (row.headD "") p
def okRow (ns : List Str) (ws : Str → List Str) (prev : Option Str) (qs : List Str) (row : List Str) : Bool := rowK ns ws row && !(row.any fun w => decide (w ∈ qs)) && prB prev row
/-- what reading rows of a dealing ends in -/
def RDl (ns : List Str) (ws : Str → List Str) (K0 : Int → Prop) (G : List Str → (Str → Option Str) → Prop) : Nat → Option Str → List Str → (Str → Option Str) → List (List Str) → Prop
  | i, _, qs, g, [] => if qs.length < ns.length then K0 ((i : Int) + 1) else G qs g
  | i, prev, qs, g, row :: rest => if okRow ns ws prev qs row = true then RDl ns ws K0 G (i + 1) (some (row.headD "")) (stQ qs row) (stG g row) rest else K0 (1 + (i : Int))
section
variable {P : Program} {w : World} {K : PySem.W.Frag} {mg : Str → Option Value} {base : Heap}
/-- Group.__contains__(self, x), x any value -/
def spConX (K : PySem.W.Frag) (C : Addr) : Sp := fun vs H Q _ => ∃ (p : Addr) (x : V) (ps : List Str) (ws : Str → List Str), vs = [.ref p, x] ∧ GroupAt C H p ps ws ∧
  ((NotU K H x ∧ NotS K H x ∧ Q (.bl false) H) ∨ (∃ k, IsK H x k ∧ k ≠ .tup ∧ Q (.bl (inS x ps)) H) ∨ (∃ t xs, x = .ref t ∧ H t = some (.tup xs) ∧ xs.length ≠ 2 ∧ Q (.bl false) H) ∨
    ∃ t u v, x = .ref t ∧ H t = some (.tup [u, v]) ∧ (∃ k, IsK H u k) ∧ (∃ k, IsK H v k) ∧ ((inS u ps = false ∧ Q (.bl false) H) ∨ ∃ y, u = .str y ∧ y ∈ ps ∧ Q (.bl (inS v ps && inS v (opn ws y))) H))
theorem ok_conX {f C : Addr} {fd : FuncData} (F : Fun K "__contains__" "Group.__contains__" sGroupcontains f fd) (B : Bl mg) (T : GTxt K mg C) (mH : MF P w K mg base 1 C "_has" ["self", "value"] (spHasG K C)) : FnOk P w K mg base CX0 2 f fd ["self", "x"] (spConX K C) := by
  obtain ⟨fH, fdH, FH, MH, bH⟩ := mH.ex
  refine F.ok scGroupcontains (fun vs H Q E h => ?_) (fun cdv A outer s H vs Q E hr h => ?_)
  · obtain ⟨p, x, ps, ws, rfl, _⟩ := h
    rfl
  · obtain ⟨p, x, ps, ws, rfl, hG, kq⟩ := h
    have hu := hu_of hr
    refine ⟨_, pss_cons (ps_if (PW.pt (pw_and (pt_val (pe_isiU B.isi B.tup (pv 1))) (pw_and1 (pt_cmpR op_eq (pe_callB call_len_seq (by rfl) B.len PySem.boot_len (pa_cons (pv 1) pa_nil)) pe_int (nomark _)))))
        (pss_one (ps_ret (pe_and (pe_meth (pv 0) T.cl MH FH hr bH .nil pass0 (pa_cons (pe_ix ix_tup (pv 1) pe_int (fun _ _ => rfl)) pa_nil)) (pe_and (pe_meth (pv 0) T.cl MH FH hr bH .nil pass0 (pa_cons (pe_ix ix_tup (pv 1) pe_int (fun _ _ => rfl)) pa_nil))
          (pe_one (pe_cmp (pc_din hu (pe_ix ix_tup (pv 1) pe_int (fun _ _ => rfl)) (pe_dget hu (pe_fld (pv 0) rfl) (pe_ix ix_tup (pv 1) pe_int (fun _ _ => rfl)) (fun _ _ => rfl))) rfl)))))) pss_nil)
      (pss_one (ps_ret (pe_meth (pv 0) T.cl MH FH hr bH .nil pass0 (pa_cons (pv 1) pa_nil)))), ?_⟩
    have hG2 := hG
    obtain ⟨dx, a, d1, d2, d3, hp, ha, r1, r2, ⟨ad, e3, r3⟩⟩ := hG2
    have nm : (gF a d1 d2 d3).lookup ("_has" : Str) = none := gF_no _ _ _ _ (by decide +kernel) (by decide +kernel) (by decide +kernel) (by decide +kernel)
    rcases kq with ⟨hU, hS, kq⟩ | ⟨k, ik, nk, kq⟩ | ⟨t, xs, rfl, ht, hxl, kq⟩ | ⟨t, u, v, rfl, ht, hu', hv, kq⟩
    · refine ⟨_, rfl, .inr ⟨x, rfl, hU, _, rfl, iteF (iteF ?_)⟩⟩
      exact ⟨_, rfl, p, dx, _, rfl, hp, nm, _, rfl, p, x, ps, ws, rfl, hG, .inr ⟨hS, kq⟩⟩
    · refine ⟨_, rfl, .inr ⟨x, rfl, ik.notU nk, _, rfl, iteF (iteF ?_)⟩⟩
      exact ⟨_, rfl, p, dx, _, rfl, hp, nm, _, rfl, p, x, ps, ws, rfl, hG, .inl ⟨⟨k, ik⟩, kq⟩⟩
    · refine ⟨_, rfl, .inl ⟨_, .tup, rfl, .tup ht, _, rfl, iteT ⟨_, rfl, t, _, rfl, .inr (SqT.of ht), rfl, _, rfl, ?_⟩⟩⟩
      have e2 : decide (V.int (xs.length : Int) = V.int 2) = false := decide_eq_false fun z => hxl (by have := V.int.inj z; omega)
      refine (if_neg (by show ¬ (decide (V.int (xs.length : Int) = V.int 2) = true); rw [e2]; decide)).mpr ?_
      exact ⟨_, rfl, p, dx, _, rfl, hp, nm, _, rfl, p, .ref t, ps, ws, rfl, hG, .inl ⟨⟨_, .tup ht⟩, by rw [inS_no (by intro z h; cases h)]; exact kq⟩⟩
    · refine ⟨_, rfl, .inl ⟨_, .tup, rfl, .tup ht, _, rfl, iteT ⟨_, rfl, t, _, rfl, .inr (SqT.of ht), rfl, _, rfl, ?_⟩⟩⟩
      refine (if_pos (by show decide (V.int (([u, v] : List V).length : Int) = V.int 2) = true; exact decide_eq_true rfl)).mpr ?_
      refine ⟨_, rfl, p, dx, _, rfl, hp, nm, _, rfl, t, _, 0, u, rfl, rfl, SqT.of ht, rfl, p, u, ps, ws, rfl, hG, .inl ⟨hu', _, rfl, ?_⟩⟩
      rcases kq with ⟨hn, kq⟩ | ⟨y, rfl, hy, kq⟩
      · rw [hn]
        exact iteF kq
      rw [inS_str, decide_eq_true hy]
      refine iteT ⟨_, rfl, p, dx, _, rfl, hp, nm, _, rfl, t, _, 1, v, rfl, rfl, SqT.of ht, rfl, p, v, ps, ws, rfl, hG, .inl ⟨hv, _, rfl, ?_⟩⟩
      cases ev : inS v ps with
      | false =>
        rw [ev, Bool.false_and] at kq
        exact iteF kq
      | true =>
        rw [ev, Bool.true_and] at kq
        obtain ⟨z, hz, rfl⟩ := inS_iff.mp ev
        refine iteT ⟨_, rfl, t, _, 1, .str z, rfl, rfl, SqT.of ht, rfl, _, rfl, p, C, dx, _, _, rfl, hp, T.cl, T.n4, gF_ranks _ _ _ _, _, rfl, t, _, 0, .str y, rfl, rfl, SqT.of ht, rfl, d3, _, rfl, by rw [← valV_rows (ad := ad) hy]; exact DGet.k (k := Sum.inr y) e3, ad y, _, rfl, DGet.k (k := Sum.inr z) (r3 y hy).1, ?_⟩
        rw [valV_rnk_some, ← inS_str]
        exact kq
/-- Group.__len__(self) -/
def spLenM (C : Addr) : Sp := fun vs H Q _ => ∃ (p : Addr) (ps : List Str) (ws : Str → List Str), vs = [.ref p] ∧ GroupAt C H p ps ws ∧ Q (.int ps.length) H
theorem ok_lenM {f C : Addr} {fd : FuncData} (F : Fun K "__len__" "Group.__len__" sGrouplen f fd) (B : Bl mg) (T : GTxt K mg C) : FnOk P w K mg base CX0 1 f fd ["self"] (spLenM C) := by
  refine F.ok scGrouplen (fun vs H Q E h => ?_) (fun cdv A outer s H vs Q E hr h => ?_)
  · obtain ⟨p, ps, ws, rfl, _⟩ := h
    rfl
  · obtain ⟨p, ps, ws, rfl, ⟨dx, a, d1, d2, d3, hp, ha, _⟩, kq⟩ := h
    refine ⟨_, pss_one (ps_ret (pe_callB call_len_seq (by rfl) B.len PySem.boot_len (pa_cons (pe_fld (pv 0) rfl) pa_nil))), ?_⟩
    refine ⟨_, rfl, p, C, dx, _, _, rfl, hp, T.cl, T.n1, gF_people _ _ _ _, a, _, rfl, .inr (SqT.of ha), ?_⟩
    rw [List.length_map]
    exact kq
/-- dealt(x, a, b) -/
def spDealt : Sp := fun vs H Q _ => ∃ (d : Addr) (a : Str) (o : Option Str) (qs : List Str) (g : Str → Option Str), vs = [.ref d, .str a, oV o] ∧ H d = some (.dK (okv qs g)) ∧ qs.length ≤ 100 ∧ a ∉ qs ∧ (∀ b, o = some b → b ∉ qs ∧ b ≠ a) ∧
  ∀ D H', Same H H' → H D = none → H' D = some (.dK (okv (stQ qs (match o with | none => [a] | some b => [a, b])) (stG g (match o with | none => [a] | some b => [a, b])))) → Q (.ref D) H'
theorem ok_dealt {f : Addr} {fd : FuncData} (F : Fun K "dealt" "dealt" sdealt f fd) (B : Bl mg) : FnOk P w K mg base CX0 1 f fd ["x", "a", "b"] spDealt := by
  refine F.ok scdealt (fun vs H Q E h => ?_) (fun cdv A outer s H vs Q E hr h => ?_)
  · obtain ⟨d, a, o, qs, g, rfl, _⟩ := h
    rfl
  · obtain ⟨d, a, o, qs, g, rfl, hd, hl, ha, hb, kq⟩ := h
    have hu := hu_of hr
    have esz : sizeLine = 16777216 := sizeLine_eq
    refine ⟨_, pss_cons (ps_set (i := 3) scdealt.nd rfl (Or.inl rfl) (pe_callTy call_dictD (by rfl) B.dct (by decide +kernel) (pa_cons (pv 0) pa_nil)))
      (pss_cons (ps_dput hu (pv 3) (pv 1) (pv 2) rfl)
      (pss_cons (ps_if (pt_cmp (pc_notN (pv 2))) (pss_one (ps_dput hu (pv 3) (pv 2) (pv 1) rfl)) pss_nil)
      (pss_one (ps_ret (pv 3))))), ?_⟩
    refine ⟨_, rfl, d, _, rfl, .inl hd, fun D hD => ?_⟩
    have s1 : Same H (upd H D (.dK (okv qs g))) := Same.new hD
    have e1 : (upd H D (.dK (okv qs g))) D = some (.dK (okv qs g)) := upd_same
    generalize upd H D (.dK (okv qs g)) = H1 at s1 e1
    refine ⟨_, rfl, _, rfl, _, rfl, D, _, rfl, DPut.k (k := Sum.inr a) e1 (by rw [okv_len]; omega), ?_⟩
    have p1 : putK (okv qs g) (Sum.inr a) (oV o) = okv (qs ++ [a]) (setO g a o) := by
      have e := okv_snoc (f := setO g a o) ha
      have e2 : setO g a o a = o := if_pos rfl
      rw [e2] at e
      rw [← e, okv_congr (f := g) (g := setO g a o) fun z hz => (if_neg (fun (q : z = a) => ha (q ▸ hz))).symm]
    rw [p1]
    have s2 : Same H (upd H1 D (.dK (okv (qs ++ [a]) (setO g a o)))) := same_put s1 hD
    have e2 : (upd H1 D (.dK (okv (qs ++ [a]) (setO g a o)))) D = some (.dK (okv (qs ++ [a]) (setO g a o))) := upd_same
    generalize upd H1 D (.dK (okv (qs ++ [a]) (setO g a o))) = H2 at s2 e2
    refine ⟨_, rfl, _, rfl, ?_⟩
    cases o with
    | none => exact iteF ⟨_, rfl, kq D H2 s2 hD e2⟩
    | some b =>
      obtain ⟨hb1, hb2⟩ := hb b rfl
      refine iteT ⟨_, rfl, _, rfl, _, rfl, D, _, rfl, DPut.k (k := Sum.inr b) e2 (by rw [okv_len, List.length_append]; show _ + 1 < _; omega), _, rfl, ?_⟩
      have hbq : b ∉ qs ++ [a] := fun m => by
        rcases List.mem_append.mp m with m | m
        · exact hb1 m
        · exact hb2 (List.mem_singleton.mp m)
      have p2 : putK (okv (qs ++ [a]) (setO g a (some b))) (Sum.inr b) (V.str a) = okv (qs ++ [a] ++ [b]) (setO (setO g a (some b)) b (some a)) := by
        have e := okv_snoc (f := setO (setO g a (some b)) b (some a)) hbq
        have e2 : setO (setO g a (some b)) b (some a) b = some a := if_pos rfl
        rw [e2] at e
        rw [← e, okv_congr (f := setO g a (some b)) (g := setO (setO g a (some b)) b (some a)) fun z hz => (if_neg (fun (q : z = b) => hbq (q ▸ hz))).symm]
        rfl
      rw [p2]
      exact kq D _ (same_put s2 hD) hD upd_same
end
end Qp
namespace Qp
open PySem L2 TL
section
variable {P : Program} {w : World} {K : PySem.W.Frag} {mg : Str → Option Value} {base : Heap}
/-- _is_row_of_dealing(group, row) -/
def spRK (C : Addr) : Sp := fun vs H Q _ => ∃ (p r : Addr) (ns : List Str) (ws : Str → List Str) (row : List Str), vs = [.ref p, .ref r] ∧ GroupAt C H p ns ws ∧ H r = some (lstO row) ∧ row ≠ [] ∧ ∀ H', Same H H' → Q (.bl (rowK ns ws row)) H'
theorem rowK2 {ns : List Str} {ws : Str → List Str} {a b : Str} : rowK ns ws [a, b] = (decide (a ∈ ns) && decide (b ∈ ns) && decide (b ∈ opn ws a) && ltS a b) := rfl
theorem ok_rk {f C : Addr} {fd : FuncData} (F : Fun K "_is_row_of_dealing" "_is_row_of_dealing" sisrowofdealing f fd) (B : Bl mg) (mE : MF P w K mg base 2 C "__contains__" ["self", "x"] (spConX K C)) : FnOk P w K mg base CX0 3 f fd ["group", "row"] (spRK C) := by
  obtain ⟨fE, fdE, FE, ME, bE⟩ := mE.ex
  refine F.ok scisrowofdealing (fun vs H Q E h => ?_) (fun cdv A outer s H vs Q E hr h => ?_)
  · obtain ⟨p, r, ns, ws, row, rfl, _⟩ := h
    rfl
  · obtain ⟨p, r, ns, ws, row, rfl, hG, hR, hne, kq⟩ := h
    refine ⟨_, pss_cons (ps_if (pt_cmpR op_eq (pe_callB call_len_seq (by rfl) B.len PySem.boot_len (pa_cons (pv 1) pa_nil)) pe_int (nomark _)) (pss_one (ps_ret (pe_cmpR (op_inO ME FE hr bE) (pe_ix ix_list (pv 1) pe_int (fun _ _ => rfl)) (pv 0) (by rfl)))) pss_nil)
      (pss_one (ps_ret (pe_and (pe_cmpR (op_inO ME FE hr bE) (pe_callTy call_tuple_of (by rfl) B.tup (by decide +kernel) (pa_cons (pv 1) pa_nil)) (pv 0) (by rfl)) (pe_one (pe_cmpR op_lt_str (pe_ix ix_list (pv 1) pe_int (fun _ _ => rfl)) (pe_ix ix_list (pv 1) pe_int (fun _ _ => rfl)) (nomark _)))))), ?_⟩
    obtain ⟨dx, a0, d1, d2, d3, hp, _⟩ := id hG
    have at0' : ∀ {z : Str} {t : List Str}, atI ((z :: t).map V.str) 0 = some (.str z) := fun {z t} => atI_nat (j := 0) rfl
    have at1' : ∀ {z y : Str} {t : List Str}, atI ((z :: y :: t).map V.str) 1 = some (.str y) := fun {z y t} => atI_nat (j := 1) rfl
    cases row with
    | nil => exact absurd rfl hne
    | cons a t =>
      cases t with
      | nil =>
        refine ⟨_, rfl, r, _, rfl, .inl (SqL.of hR), rfl, _, rfl, iteT ?_⟩
        refine ⟨_, rfl, r, _, _, _, rfl, rfl, SqL.of hR, at0', _, rfl, p, dx, _, rfl, hp, p, .str a, ns, ws, rfl, hG, .inr (.inl ⟨.str, .str a, by decide, _, rfl, ?_⟩)⟩
        rw [if_neg Bool.false_ne_true, inS_str]
        exact kq H (Same.refl H)
      | cons b t =>
        refine ⟨_, rfl, r, _, rfl, .inl (SqL.of hR), rfl, _, rfl, ?_⟩
        have e1 : decide (V.int (((a :: b :: t).map V.str).length : Int) = V.int 1) = false := decide_eq_false fun z => by
          have := V.int.inj z
          rw [List.length_map, List.length_cons, List.length_cons] at this
          omega
        rw [e1]
        refine iteF ⟨_, rfl, r, _, rfl, .inl ⟨SqL.of hR, fun T hT => ?_⟩⟩
        have s1 : Same H (upd H T (.tup ((a :: b :: t).map V.str))) := Same.new hT
        have eT : (upd H T (.tup ((a :: b :: t).map V.str))) T = some (.tup ((a :: b :: t).map V.str)) := upd_same
        generalize upd H T (.tup ((a :: b :: t).map V.str)) = H1 at s1 eT
        have hG1 := hG.same s1
        have hR1 := s1 _ _ hR
        cases t with
        | nil =>
          refine ⟨_, rfl, p, dx, _, rfl, s1 _ _ hp, p, .ref T, ns, ws, rfl, hG1, .inr (.inr (.inr ⟨T, .str a, .str b, rfl, eT, ⟨_, .str a⟩, ⟨_, .str b⟩, ?_⟩))⟩
          by_cases ha : a ∈ ns
          · refine .inr ⟨a, rfl, ha, _, rfl, ?_⟩
            rw [if_neg Bool.false_ne_true, inS_str, inS_str]
            have er : rowK ns ws [a, b] = ((decide (b ∈ ns) && decide (b ∈ opn ws a)) && ltS a b) := by
              rw [rowK2, decide_eq_true ha, Bool.true_and]
            cases c : (decide (b ∈ ns) && decide (b ∈ opn ws a)) with
            | false =>
              rw [c, Bool.false_and] at er
              have q := kq H1 s1
              rw [er] at q
              exact ⟨_, rfl, iteF q⟩
            | true =>
              rw [c, Bool.true_and] at er
              have q := kq H1 s1
              rw [er] at q
              exact ⟨_, rfl, iteT ⟨_, rfl, r, _, _, _, rfl, rfl, SqL.of hR1, at0', _, rfl, r, _, _, _, rfl, rfl, SqL.of hR1, at1', _, _, rfl, rfl, q⟩⟩
          · refine .inl ⟨by rw [inS_str]; exact decide_eq_false ha, _, rfl, ?_⟩
            have er : rowK ns ws [a, b] = false := by
              rw [rowK2, decide_eq_false ha]
              rfl
            have q := kq H1 s1
            rw [er] at q
            rw [if_neg Bool.false_ne_true]
            exact ⟨_, rfl, iteF q⟩
        | cons c t =>
          refine ⟨_, rfl, p, dx, _, rfl, s1 _ _ hp, p, .ref T, ns, ws, rfl, hG1, .inr (.inr (.inl ⟨T, _, rfl, eT, ?_, _, rfl, ?_⟩))⟩
          · rw [List.length_map, List.length_cons, List.length_cons, List.length_cons]
            omega
          · rw [if_neg Bool.false_ne_true]
            exact ⟨_, rfl, iteF (kq H1 s1)⟩
theorem rowK_len {ns : List Str} {ws : Str → List Str} {row : List Str} (h : rowK ns ws row = true) : (∃ a, row = [a] ∧ a ∈ ns) ∨ ∃ a b, row = [a, b] ∧ a ∈ ns ∧ b ∈ ns ∧ b ∈ opn ws a ∧ ltS a b = true := by
  cases row with
  | nil => cases h
  | cons a t =>
    cases t with
    | nil => exact .inl ⟨a, rfl, of_decide_eq_true h⟩
    | cons b t =>
      cases t with
      | nil =>
        have h : (decide (a ∈ ns) && decide (b ∈ ns) && decide (b ∈ opn ws a) && ltS a b) = true := h
        rw [Bool.and_eq_true, Bool.and_eq_true, Bool.and_eq_true] at h
        exact .inr ⟨a, b, rfl, of_decide_eq_true h.1.1.1, of_decide_eq_true h.1.1.2, of_decide_eq_true h.1.2, h.2⟩
      | cons c t => cases h
theorem ltS_irr {a : Str} : ltS a a = false := decide_eq_false (List.lt_irrefl _)
theorem drow_w {f : Str → Option Str} {a : Str} (h : nameS a = true ∧ ∀ b, f a = some b → nameS b = true) : (drow f a).length ≤ 2 ∧ ∀ w ∈ drow f a, nameS w = true := by
  unfold drow
  cases ef : f a with
  | none => exact ⟨by show 1 ≤ 2; decide, fun w hw => by rw [List.mem_singleton.mp hw]; exact h.1⟩
  | some b =>
    refine ⟨by show 2 ≤ 2; decide, fun w hw => ?_⟩
    rcases List.mem_cons.mp hw with e | hw
    · rw [e]; exact h.1
    · rw [List.mem_singleton.mp hw]; exact h.2 b ef
theorem name_len8 {z : Str} (h : nameS z = true) : z.length ≤ 8 := by
  unfold nameS at h
  simp only [Bool.and_eq_true, decide_eq_true_eq] at h
  omega
theorem drows_mem {f : Str → Option Str} {ys : List Str} {r : List Str} (h : r ∈ drows f ys) : ∃ a ∈ ys, dkeep f a = true ∧ r = drow f a := by
  obtain ⟨a, ha, rfl⟩ := List.mem_map.mp h
  obtain ⟨h1, h2⟩ := List.mem_filter.mp ha
  exact ⟨a, h1, h2, rfl⟩
theorem drows_len {f : Str → Option Str} {ys : List Str} : (drows f ys).length ≤ ys.length := by
  unfold drows
  rw [List.length_map]
  exact List.length_filter_le _ _
theorem drows_wb {f : Str → Option Str} {ys : List Str} (hl : ys.length ≤ 16) (h : ∀ a ∈ ys, nameS a = true ∧ ∀ b, f a = some b → nameS b = true) : WB (drows f ys) := by
  refine ⟨Nat.le_trans drows_len (by omega), fun r hr => ?_, fun r hr w hw => ?_⟩
  · obtain ⟨a, ha, _, rfl⟩ := drows_mem hr
    exact Nat.le_trans (drow_w (h a ha)).1 (by decide)
  · obtain ⟨a, ha, _, rfl⟩ := drows_mem hr
    exact Nat.le_trans (name_len8 ((drow_w (h a ha)).2 w hw)) (by decide)
end
end Qp
namespace Qp
open PySem L2 TL
theorem okv_some {qs : List Str} {g : Str → Option Str} {w : Str} : (valV (okv qs g) (Sum.inr w)).isSome = decide (w ∈ qs) := by
  by_cases h : w ∈ qs
  · rw [okv_val h, decide_eq_true h]
    rfl
  · rw [okv_none h, decide_eq_false h]
    rfl
/-- what stands before row i -/
def prv (rows : List (List Str)) (i : Nat) : Option Str := if i = 0 then none else (rows[i - 1]?).map (·.headD "")
section
variable {P : Program} {w : World} {K : PySem.W.Frag} {mg : Str → Option Value} {base : Heap}
/-- read_dealing(group, text) -/
def spRD (K : PySem.W.Frag) (C CT : Addr) : Sp := fun vs H Q E => ∃ (p : Addr) (x : V) (ns : List Str) (ws : Str → List Str), vs = [.ref p, x] ∧ GroupAt C H p ns ws ∧ Nm ns ∧ (∀ a ∈ ns, GRow ns a (ws a)) ∧
  (((NotS K H x ∨ ∃ k, IsK H x k ∧ ∀ z, x ≠ .str z) ∧ Leaves CT "line" (.int 0) H E) ∨ ∃ z, x = .str z ∧ ((z ≠ "" ∧ endB z = false ∧ Leaves CT "line" (.int 0) H E) ∨ ((z = "" ∨ endB z = true) ∧ z.length ≤ 1000000 ∧
    RDl ns ws (fun n => Leaves CT "line" (.int n) H E) (fun qs g => ∀ d H', Same H H' → H d = none → H' d = some (.dK (okv qs g)) → Q (.ref d) H') 0 none [] f0 (parse z))))
theorem parse_ne {z : Str} : ∀ row ∈ parse z, row ≠ [] := fun row h => by
  unfold parse at h
  obtain ⟨l, _, rfl⟩ := List.mem_map.mp h
  intro e
  have := PyProof.Rows.split_pos l " "
  rw [e] at this
  exact absurd this (by decide)
theorem parse_n {z : Str} : (parse z).length ≤ z.length + 1 := by
  unfold parse
  have w := PyProof.Rows.split_weight z "\n" (by decide +kernel)
  rw [List.length_map, List.length_dropLast]
  omega
theorem opn_ne {ns : List Str} {ws : Str → List Str} (g : ∀ a ∈ ns, GRow ns a (ws a)) {a b : Str} (ha : a ∈ ns) (h : b ∈ opn ws a) : b ≠ a := ((g a ha).2 b (List.mem_filter.mp h).1).2
abbrev nRD : List Str := ["group", "text", "rows", "x", "line", "row", "a"]
theorem at0r {z : Str} {t : List Str} : atI ((z :: t).map V.str) 0 = some (.str z) := atI_nat (j := 0) rfl
theorem at1r {z y : Str} {t : List Str} : atI ((z :: y :: t).map V.str) 1 = some (.str y) := atI_nat (j := 1) rfl
theorem rd3 {f : Addr} {cdv : Value} {A : Around} {outer : List Env} {s : Shared} {H0 : Hp} {E0' : XK} (B : Bl mg) (cD : CF P w K mg base CX0 1 "dealt" ["x", "a", "b"] spDealt) (hr : Room 3 (A.deeper (PyProof.Rows.envOfC "read_dealing" (defScope sreaddealing) s.heap.objs.size f cdv))) :
    ∃ t, PSs (cxOf (L2.CX P w) P w K mg base nRD "read_dealing" (defScope sreaddealing) f cdv A outer s H0 E0') ((forB (defBody sreaddealing) 3).drop 2) t ∧
      ∀ (Dn : Ends) (H : Hp) (v0 v1 v2 v4 : Option V) (X r : Addr) (qs : List Str) (g : Str → Option Str) (row ns : List Str) (ws : Str → List Str), H X = some (.dK (okv qs g)) → H r = some (lstO row) → qs.length ≤ 100 → rowK ns ws row = true → (∀ w ∈ row, w ∉ qs) → (∀ a ∈ ns, GRow ns a (ws a)) →
        (∀ D H', Same H H' → H D = none → H' D = some (.dK (okv (stQ qs row) (stG g row))) → Dn.nx [v0, v1, v2, some (.ref D), v4, some (.ref r), none] H') → t Dn [v0, v1, v2, some (.ref X), v4, some (.ref r), none] H := by
  have hr1 : Room 1 _ := hr.mono (by decide)
  refine ⟨_, pss_one (ps_set (i := 3) screaddealing.nd rfl (Or.inr rfl) (pe_cf cD hr1 pass0 (pa_cons (pv 3) (pa_cons (pe_ix ix_list (pv 5) pe_int (fun _ _ => rfl)) (pa_cons (pe_ifExp (pt_cmpR op_eq (pe_callB call_len_seq (by rfl) B.len PySem.boot_len (pa_cons (pv 5) pa_nil)) pe_int (nomark _)) (pe_ix ix_list (pv 5) pe_int (fun _ _ => rfl)) pe_non) pa_nil))))), ?_⟩
  rintro Dn H v0 v1 v2 v4 X r qs g row ns ws hX hR hl hk hn g1 kq
  rcases rowK_len hk with ⟨a, rfl, ha⟩ | ⟨a, b, rfl, ha, hb, hob, hlt⟩
  · refine ⟨_, rfl, _, rfl, r, _, _, _, rfl, rfl, SqL.of hR, at0r, _, rfl, r, _, rfl, .inl (SqL.of hR), rfl, _, rfl, iteF ?_⟩
    exact ⟨X, a, none, qs, g, rfl, hX, hl, hn a List.mem_cons_self, (fun _ e => by cases e), fun D H' s hD e => kq D H' s hD e⟩
  · refine ⟨_, rfl, _, rfl, r, _, _, _, rfl, rfl, SqL.of hR, at0r, _, rfl, r, _, rfl, .inl (SqL.of hR), rfl, _, rfl, iteT ?_⟩
    refine ⟨_, rfl, r, _, _, _, rfl, rfl, SqL.of hR, at1r, ?_⟩
    exact ⟨X, a, some b, qs, g, rfl, hX, hl, hn a List.mem_cons_self, (fun c e => by cases e; exact ⟨hn b (List.mem_cons_of_mem _ List.mem_cons_self), opn_ne g1 ha hob⟩), fun D H' s hD e => kq D H' s hD e⟩
theorem rd1 {C CT fT f : Addr} {cdv : Value} {A : Around} {outer : List Env} {s : Shared} {H0 : Hp} {E0' : XK} {Q : VK} (B : Bl mg) (T : GTxt K mg C) (TT : PySem.QX.OwnTxt P K mg "NoText" "line" CT fT) (cR : CF P w K mg base CX0 1 "_as_rows" ["text"] spAR) (cK : CF P w K mg base CX0 3 "_is_row_of_dealing" ["group", "row"] (spRK C))
    (cD : CF P w K mg base CX0 1 "dealt" ["x", "a", "b"] spDealt) (mL : MF P w K mg base 1 C "__len__" ["self"] (spLenM C)) (hr : Room 3 (A.deeper (PyProof.Rows.envOfC "read_dealing" (defScope sreaddealing) s.heap.objs.size f cdv))) :
    ∃ t, PSs (cxOf (L2.CX P w) P w K mg base nRD "read_dealing" (defScope sreaddealing) f cdv A outer s H0 E0') ((defBody sreaddealing).drop 1) t ∧
      ∀ (H : Hp) (p : Addr) (z : Str) (ns : List Str) (ws : Str → List Str), GroupAt C H p ns ws → Nm ns → (∀ a ∈ ns, GRow ns a (ws a)) → z.length ≤ 1000000 →
        RDl ns ws (fun n => Leaves CT "line" (.int n) H E0') (fun qs g => ∀ d H', Same H H' → H d = none → H' d = some (.dK (okv qs g)) → Q (.ref d) H') 0 none [] f0 (parse z) →
        t { nx := fun _ H' => Q .non H', rt := Q } [some (.ref p), some (.str z), none, none, none, none, none] H := by
  obtain ⟨fL, fdL, FL, ML, bL⟩ := mL.ex
  obtain ⟨t3, h3, q3⟩ := rd3 (outer := outer) (H0 := H0) (E0' := E0') B cD hr
  have hu := hu_of hr
  have hr1 : Room 1 _ := hr.mono (by decide)
  have hr2 : Room 2 _ := hr.mono (by decide)
  have esz : sizeLine = 16777216 := sizeLine_eq
  refine ⟨_,
      (pss_cons (ps_set (i := 2) screaddealing.nd rfl (Or.inl rfl) (pe_cf cR hr1 pass0 (pa_cons (pv 1) pa_nil)))
      (pss_cons (ps_set (i := 3) screaddealing.nd rfl (Or.inr rfl) pe_dnewK)
      (pss_cons (ps_for (passes_of rfl) rfl (pi_enumS (by rfl) B.enum (by decide) (by decide) (pa_cons (pv 2) pa_nil)) (pg_tup rfl (pgs_cons (pg_name (i := 4) screaddealing.nd rfl (Or.inl rfl)) (pgs_cons (pg_name (i := 5) screaddealing.nd rfl (Or.inl rfl)) pgs_nil)))
        (pss_cons (ps_if (PW.pt (pw_or (pt_not (pt_val (pe_cf cK hr pass0 (pa_cons (pv 0) (pa_cons (pv 5) pa_nil))))) (pw_or1 (pt_val (pe_callB (cr_any rfl) (by rfl) B.any (by decide +kernel) (pa_cons (pe_lc (own := [("a", 6)]) (g := gName 6) (tt := tYes) rfl screaddealing.nd (pi_list (pv 5)) (blkOk_by (own := [("a", 6)]) (N := ["group", "text", "rows", "x", "line", "row", "a"]) (sc := defScope sreaddealing) (by decide +kernel))
            (fun _ _ _ _ _ => pg_name (i := 6) screaddealing.nd rfl (Or.inl rfl)) (fun _ _ _ _ _ => pts_nil) (fun _ _ _ _ _ => pe_cmp (pc_din hu (pv 6) (pv 3)) rfl)) pa_nil)))))) (pss_one (ps_raiseS rfl TT hr1 (takes_of rfl rfl rfl rfl) (pa_cons (pv 4) pa_nil) rfl)) pss_nil)
        (pss_cons (ps_if (PW.pt (pw_and (pt_cmpR op_gt (pv 4) pe_int (nomark _)) (pw_and1 (pt_cmpR op_lt_str (pe_ix ix_list (pv 5) pe_int (fun _ _ => rfl)) (pe_ix ix_list (pe_ix ix_list (pv 2) (pe_op op_sub (pv 4) pe_int) (fun _ _ => rfl)) pe_int (fun _ _ => rfl)) (nomark _))))) (pss_one (ps_raiseS rfl TT hr1 (takes_of rfl rfl rfl rfl) (pa_cons (pv 4) pa_nil) rfl)) pss_nil)
        h3)))
      (pss_cons (ps_if (pt_cmpR op_lt (pe_callB call_lenD (by rfl) B.len PySem.boot_len (pa_cons (pv 3) pa_nil)) (pe_callB (call_lenO ML FL hr2 bL) (by rfl) B.len PySem.boot_len (pa_cons (pv 0) pa_nil)) (nomark _)) (pss_one (ps_raiseS rfl TT hr1 (takes_of rfl rfl rfl rfl) (pa_cons (pe_op op_add (pe_callB call_len_seq (by rfl) B.len PySem.boot_len (pa_cons (pv 2) pa_nil)) pe_int) pa_nil) rfl)) pss_nil)
      (pss_one (ps_ret (pv 3))))))), ?_⟩
  rintro H p z ns ws hG nn g1 hl hO
  have hnl := nn.len
  refine ⟨_, rfl, z, rfl, by omega, fun D0 ys H1 s1 _ hD0 hR => ?_⟩
  have pn := parse_n (z := z)
  have pe : ∀ row ∈ parse z, row ≠ [] := parse_ne
  generalize parse z = rows at hR hO pn pe
  have hyl := hR.len
  refine fun X0 hX0 => ?_
  have s2 : Same H1 (upd H1 X0 (.dK [])) := Same.new hX0
  have eX0 : (upd H1 X0 (.dK [])) X0 = some (.dK (okv [] f0)) := upd_same
  have hX0H : H X0 = none := s1.free hX0
  generalize upd H1 X0 (.dK []) = H2 at s2 eX0
  have s02 := s1.trans s2
  have hD2 := s2 _ _ hD0
  have hR2 := hR.same s2
  refine ⟨_, rfl, D0, _, rfl, SqL.of hD2, for_it walk_enumS (fun i σ H' => ∃ (X : Addr) (qs : List Str) (g : Str → Option Str) (v4 v5 : Option V), σ = [some (.ref p), some (.str z), some (.ref D0), some (.ref X), v4, v5, none] ∧ Same H2 H' ∧ H' X = some (.dK (okv qs g)) ∧ H X = none ∧ qs.Nodup ∧ (∀ w ∈ qs, w ∈ ns) ∧
      RDl ns ws (fun n => Leaves CT "line" (.int n) H E0') (fun qs g => ∀ d H', Same H H' → H d = none → H' d = some (.dK (okv qs g)) → Q (.ref d) H') i (prv rows i) qs g (rows.drop i))
    ⟨X0, [], f0, none, none, rfl, Same.refl _, eX0, hX0H, List.nodup_nil, (fun _ h => by cases h), hO⟩ (fun i σ H' _ ⟨_, _, _, _, _, _, s, _⟩ => SqL.of (s _ _ hD2)) ?_ ?_⟩
  · rintro i v σ H3 H4 hi ⟨X, qs, g, v4, v5, rfl, s3, eX, hXn, nd, sub, hO⟩ ⟨Tp, x, y, rfl, hT, rfl, ex, ey⟩
    cases ex
    have ey : ys[i]? = some y := ey
    obtain ⟨r, row, rfl, er, hr0⟩ := hR2.at ey
    have sT : Same H3 (upd H3 Tp (.tup [.int (1 + (i : Int)), .ref r])) := Same.new hT
    have eT : (upd H3 Tp (.tup [.int (1 + (i : Int)), .ref r])) Tp = some (.tup [.int (1 + (i : Int)), .ref r]) := upd_same
    generalize upd H3 Tp (.tup [.int (1 + (i : Int)), .ref r]) = H5 at sT eT
    have s25 := s3.trans sT
    have s05 := s02.trans s25
    have hr5 := s25 _ _ hr0
    have hX5 := sT _ _ eX
    have hrow : row ∈ rows := List.mem_of_getElem? er
    have hdrop : rows.drop i = row :: rows.drop (i + 1) := by
      have h1 := List.getElem?_eq_some_iff.mp er
      rw [List.drop_eq_getElem_cons h1.1, h1.2]
    rw [hdrop] at hO
    have hO : if okRow ns ws (prv rows i) qs row = true then _ else _ := hO
    have bad : okRow ns ws (prv rows i) qs row = false → Leaves CT "line" (.int (1 + (i : Int))) H E0' := fun e => by
      rw [e, if_neg Bool.false_ne_true] at hO
      exact hO
    refine ⟨Tp, [.int (1 + (i : Int)), .ref r], rfl, SqT.of eT, rfl, _, _, rfl, _, _, rfl, rfl, ?_⟩
    refine ⟨_, rfl, _, rfl, p, r, ns, ws, row, rfl, hG.same s05, hr5, pe row hrow, fun H6 s6 => ⟨_, rfl, ?_⟩⟩
    have s06 := s05.trans s6
    cases cK1 : rowK ns ws row with
    | false => exact iteT (iteT ⟨_, rfl, _, rfl, fun d hd => (bad (by unfold okRow; rw [cK1]; rfl)).go s06 d hd⟩)
    | true =>
      have hr6 := s6 _ _ hr5
      have hX6 := s6 _ _ hX5
      refine iteF ⟨_, rfl, r, rfl, ⟨_, SqL.of hr6⟩, fun D hD => lc_it (walk_list (xs := row.map V.str)) (fun j H' => Same H6 H' ∧ H' D = some (.lst (((row.take j).map fun w => decide (w ∈ qs)).map V.bl))) ⟨Same.new hD, upd_same⟩ (fun j H' _ z => SqL.of (z.1 _ _ hr6)) ?_ ?_⟩
      · rintro j y Hy H7 hj ⟨s7, hD7⟩ ⟨rfl, hy⟩
        rw [List.getElem?_map] at hy
        cases eb : row[j]? with
        | none => rw [eb] at hy; cases hy
        | some b =>
          rw [eb] at hy
          cases hy
          refine ⟨rfl, lcTurn ⟨_, rfl, _, rfl, X, _, rfl, DGet.k (k := Sum.inr b) (s7 _ _ hX6), ?_⟩⟩
          rw [okv_some]
          have rl2 : row.length ≤ 2 := by
            rcases rowK_len cK1 with ⟨a, e, _⟩ | ⟨a, b, e, _⟩
            · rw [e]; show 1 ≤ 2; decide
            · rw [e]; show 2 ≤ 2; decide
          refine ⟨_, hD7, by rw [List.length_map, List.length_map, List.length_take, esz]; omega, same_put s7 hD, ?_⟩
          rw [upd_same, take_snoc eb, List.map_append, List.map_append]
          rfl
      · rintro H7 ⟨s7, hD7⟩
        rw [List.length_map, List.take_of_length_le (Nat.le_refl _)] at hD7
        have hany : (row.map fun w => decide (w ∈ qs)).any id = row.any fun w => decide (w ∈ qs) := by rw [List.any_map]; rfl
        refine ⟨D, _, rfl, SqL.of hD7, _, rfl, ?_⟩
        rw [hany]
        have s07 := s06.trans s7
        have hr7 := s7 _ _ hr6
        have hX7 := s7 _ _ hX6
        cases cA : row.any fun w => decide (w ∈ qs) with
        | true => exact iteT ⟨_, rfl, _, rfl, fun d hd => (bad (by unfold okRow; rw [cK1, cA]; rfl)).go s07 d hd⟩
        | false =>
          have nqs : ∀ w ∈ row, w ∉ qs := fun w hw hq => by
            have := List.any_eq_false.mp cA w hw
            rw [decide_eq_true hq] at this
            exact absurd rfl this
          have hql : qs.length ≤ 16 := by
            have := nd.length_le_of_subset sub
            omega
          obtain ⟨h0, t0, erow⟩ : ∃ h0 t0, row = h0 :: t0 := by
            cases row with
            | nil => exact absurd rfl (pe [] hrow)
            | cons a t => exact ⟨a, t, rfl⟩
          have hhd : row.headD "" = h0 := by rw [erow]; rfl
          have fin : prB (prv rows i) row = true → ∀ D H', Same H7 H' → H7 D = none → H' D = some (.dK (okv (stQ qs row) (stG g row))) → ∃ (X : Addr) (qs : List Str) (g : Str → Option Str) (v4 v5 : Option V), [some (V.ref p), some (.str z), some (.ref D0), some (.ref D), some (.int (1 + (i : Int))), some (.ref r), none] = [some (V.ref p), some (.str z), some (.ref D0), some (.ref X), v4, v5, none] ∧ Same H2 H' ∧ H' X = some (.dK (okv qs g)) ∧ H X = none ∧ qs.Nodup ∧ (∀ w ∈ qs, w ∈ ns) ∧
              RDl ns ws (fun n => Leaves CT "line" (.int n) H E0') (fun qs g => ∀ d H', Same H H' → H d = none → H' d = some (.dK (okv qs g)) → Q (.ref d) H') (i + 1) (prv rows (i + 1)) qs g (rows.drop (i + 1)) := fun hp D H8 s8 hD8 e8 => by
            have ok : okRow ns ws (prv rows i) qs row = true := by unfold okRow; rw [cK1, cA, hp]; rfl
            rw [ok, if_pos rfl] at hO
            have ep : prv rows (i + 1) = some (row.headD "") := by
              unfold prv
              rw [if_neg (Nat.succ_ne_zero i), Nat.add_sub_cancel, er]
              rfl
            refine ⟨D, _, _, _, _, rfl, (s25.trans s6).trans (s7.trans s8), e8, ?_, ?_, ?_, by rw [ep]; exact hO⟩
            · cases q : H D with
              | none => rfl
              | some o => rw [s07 _ _ q] at hD8; cases hD8
            · rcases rowK_len cK1 with ⟨a, e, ha⟩ | ⟨a, b, e, ha, hb, hob, hlt⟩
              · rw [e]
                exact List.nodup_append.mpr ⟨nd, List.nodup_cons.mpr ⟨List.not_mem_nil, List.nodup_nil⟩, fun x hx y hy exy => by
                  rw [List.mem_singleton.mp hy] at exy
                  exact nqs a (by rw [e]; exact List.mem_cons_self) (exy ▸ hx)⟩
              · rw [e]
                show (qs ++ [a] ++ [b]).Nodup
                rw [List.append_assoc]
                refine List.nodup_append.mpr ⟨nd, List.nodup_cons.mpr ⟨fun m => ?_, List.nodup_cons.mpr ⟨List.not_mem_nil, List.nodup_nil⟩⟩, fun x hx y hy exy => ?_⟩
                · exact opn_ne g1 ha hob (List.mem_singleton.mp m).symm
                · rw [exy] at hx
                  refine nqs y ?_ hx
                  rw [e]
                  exact hy
            · rcases rowK_len cK1 with ⟨a, e, ha⟩ | ⟨a, b, e, ha, hb, hob, hlt⟩
              · rw [e]
                intro w hw
                rcases List.mem_append.mp hw with hw | hw
                · exact sub w hw
                · rw [List.mem_singleton.mp hw]; exact ha
              · rw [e]
                intro w hw
                rcases List.mem_append.mp hw with hw | hw
                · rcases List.mem_append.mp hw with hw | hw
                  · exact sub w hw
                  · rw [List.mem_singleton.mp hw]; exact ha
                · rw [List.mem_singleton.mp hw]; exact hb
          refine iteF ⟨_, rfl, _, _, rfl, rfl, _, rfl, ?_⟩
          by_cases i0 : i = 0
          · have e0 : decide ((1 : Int) < 1 + (i : Int)) = false := decide_eq_false (by omega)
            rw [e0]
            exact iteF (q3 _ H7 _ _ _ _ X r qs g row ns ws hX7 hr7 (by omega) cK1 nqs g1 (fin (by unfold prB prv; rw [if_pos i0])))
          · have e0 : decide ((1 : Int) < 1 + (i : Int)) = true := decide_eq_true (by omega)
            rw [e0]
            have hlt1 : i - 1 < rows.length := by
              have := (List.getElem?_eq_some_iff.mp er).1
              omega
            obtain ⟨y1, ey1⟩ : ∃ y1, ys[i - 1]? = some y1 := ⟨_, List.getElem?_eq_getElem (by omega)⟩
            obtain ⟨r1, row1, rfl, er1, hr1'⟩ := hR2.at ey1
            obtain ⟨h1, t1, erow1⟩ : ∃ h1 t1, row1 = h1 :: t1 := by
              cases row1 with
              | nil => exact absurd rfl (pe [] (List.mem_of_getElem? er1))
              | cons a t => exact ⟨a, t, rfl⟩
            have hpv : prv rows i = some h1 := by
              unfold prv
              rw [if_neg i0, er1, erow1]
              rfl
            have hD07 := s7 _ _ (s6 _ _ (s25 _ _ hD2))
            have hr17 := s7 _ _ (s6 _ _ (s25 _ _ hr1'))
            have ai : atI ys (1 + (i : Int) - 2) = some (.ref r1) := by
              rw [show 1 + (i : Int) - 2 = ((i - 1 : Nat) : Int) by omega]
              exact atI_nat ey1
            have a0 : atI (row.map V.str) 0 = some (.str h0) := by rw [erow]; exact at0r
            have a1 : atI (row1.map V.str) 0 = some (.str h1) := by rw [erow1]; exact at0r
            refine iteT ⟨_, rfl, r, _, _, _, rfl, rfl, SqL.of hr7, a0, _, rfl, _, rfl, _, _, rfl, rfl, D0, _, _, _, rfl, rfl, SqL.of hD07, ai, r1, _, _, _, rfl, rfl, SqL.of hr17, a1, _, _, rfl, rfl, _, rfl, ?_⟩
            have ecmp : decide (h0.cps.toList < h1.cps.toList) = ltS h0 h1 := rfl
            rw [ecmp]
            have epb : prB (prv rows i) row = !ltS h0 h1 := by rw [hpv, ← hhd]; rfl
            cases cL : ltS h0 h1 with
            | true => exact iteT ⟨_, rfl, _, rfl, fun d hd => (bad (by unfold okRow; rw [epb, cL, Bool.not_true, Bool.and_false])).go s07 d hd⟩
            | false => exact iteF (q3 _ H7 _ _ _ _ X r qs g row ns ws hX7 hr7 (by omega) cK1 nqs g1 (fin (by rw [epb, cL]; rfl)))
  · rintro σ H3 ⟨X, qs, g, v4, v5, rfl, s3, eX, hXn, nd, sub, hO⟩
    have hdl : rows.drop ys.length = [] := by rw [hyl]; exact List.drop_length
    rw [hdl] at hO
    have hO : if qs.length < ns.length then _ else _ := hO
    have s03 := s02.trans s3
    have hG3 := hG.same s03
    obtain ⟨dx, a0, d1, d2, d3, hp, _⟩ := id hG3
    refine ⟨_, rfl, X, _, rfl, eX, _, rfl, p, dx, _, rfl, hp, p, ns, ws, rfl, hG3, _, rfl, by omega, by omega, _, _, rfl, rfl, _, rfl, ?_⟩
    rw [okv_len]
    by_cases c1 : qs.length < ns.length
    · rw [if_pos c1] at hO
      rw [decide_eq_true (by omega : (qs.length : Int) < (ns.length : Int))]
      exact iteT ⟨_, rfl, D0, _, rfl, .inl (SqL.of (s3 _ _ hD2)), _, _, rfl, rfl, _, rfl, fun d hd => hO.go s03 d hd⟩
    · rw [if_neg c1] at hO
      rw [decide_eq_false (by omega : ¬ (qs.length : Int) < (ns.length : Int))]
      exact iteF ⟨_, rfl, hO X H3 s03 hXn eX⟩
theorem ok_rd {f C CT fT : Addr} {fd : FuncData} (F : Fun K "read_dealing" "read_dealing" sreaddealing f fd) (B : Bl mg) (T : GTxt K mg C) (TT : PySem.QX.OwnTxt P K mg "NoText" "line" CT fT) (cR : CF P w K mg base CX0 1 "_as_rows" ["text"] spAR) (cK : CF P w K mg base CX0 3 "_is_row_of_dealing" ["group", "row"] (spRK C))
    (cD : CF P w K mg base CX0 1 "dealt" ["x", "a", "b"] spDealt) (mL : MF P w K mg base 1 C "__len__" ["self"] (spLenM C)) :
    FnOk P w K mg base (L2.CX P w) 4 f fd ["group", "text"] (spRD K C CT) := by
  refine F.okX screaddealing (fun vs H Q E h => ?_) (fun cdv A outer s H vs Q E hr h => ?_)
  · obtain ⟨p, x, ns, ws, rfl, _⟩ := h
    rfl
  · obtain ⟨p, x, ns, ws, rfl, hG, nn, g1, h⟩ := h
    obtain ⟨t1, h1, q1⟩ := rd1 (outer := outer) (H0 := H) (E0' := E) (Q := Q) B T TT cR cK cD mL hr
    have hu := hu_of hr
    have hr1 : Room 1 _ := hr.mono (by decide)
    have hr2 : Room 2 _ := hr.mono (by decide)
    have hnl := nn.len
    have esz : sizeLine = 16777216 := sizeLine_eq
    refine ⟨_, pss_cons (ps_if (PW.pt (pw_or (pt_not (pt_val (pe_isiS B.isi B.str (pv 1)))) (pw_or1 (pt_not (PW.pt (pw_or (pt_cmpR op_eq (pv 1) pe_str (nomark _)) (pw_or1 (pt_val (pe_m1 PySem.F.slot_str_endswith PySem.F.type_str_endswith mt_endswith (pv 1) pe_str))))))))) (pss_one (ps_raiseS rfl TT hr1 (takes_of rfl rfl rfl rfl) (pa_cons pe_int pa_nil) rfl)) pss_nil)
      h1, ?_⟩
    rcases h with ⟨hx, hL⟩ | ⟨z, rfl, h⟩
    · have go : ∀ b, (b = false) → True := fun _ _ => True.intro
      rcases hx with hx | ⟨k, ik, ns'⟩
      · exact ⟨_, rfl, .inr ⟨_, rfl, hx, _, rfl, iteT (iteT ⟨_, rfl, fun d hd => hL.go (Same.refl H) d hd⟩)⟩⟩
      · cases ik with
        | str z => exact absurd rfl (ns' z)
        | non => exact ⟨_, rfl, .inl ⟨_, _, rfl, .non, _, rfl, iteT (iteT ⟨_, rfl, fun d hd => hL.go (Same.refl H) d hd⟩)⟩⟩
        | bl b => exact ⟨_, rfl, .inl ⟨_, _, rfl, .bl b, _, rfl, iteT (iteT ⟨_, rfl, fun d hd => hL.go (Same.refl H) d hd⟩)⟩⟩
        | int b => exact ⟨_, rfl, .inl ⟨_, _, rfl, .int b, _, rfl, iteT (iteT ⟨_, rfl, fun d hd => hL.go (Same.refl H) d hd⟩)⟩⟩
        | lst h => exact ⟨_, rfl, .inl ⟨_, _, rfl, .lst h, _, rfl, iteT (iteT ⟨_, rfl, fun d hd => hL.go (Same.refl H) d hd⟩)⟩⟩
        | tup h => exact ⟨_, rfl, .inl ⟨_, _, rfl, .tup h, _, rfl, iteT (iteT ⟨_, rfl, fun d hd => hL.go (Same.refl H) d hd⟩)⟩⟩
        | dct h => exact ⟨_, rfl, .inl ⟨_, _, rfl, .dct h, _, rfl, iteT (iteT ⟨_, rfl, fun d hd => hL.go (Same.refl H) d hd⟩)⟩⟩
    · refine ⟨_, rfl, .inl ⟨_, .str, rfl, .str z, _, rfl, iteF ?_⟩⟩
      refine ⟨_, rfl, rfl, _, rfl, ?_⟩
      have strE : decide (V.str z = V.str "") = decide (z = "") := by
        rw [Bool.eq_iff_iff, decide_eq_true_iff, decide_eq_true_iff]
        exact ⟨fun e => V.str.inj e, fun e => by rw [e]⟩
      rw [strE]
      rcases h with ⟨nz, he, hL⟩ | ⟨hz, hl, hO⟩
      · rw [decide_eq_false nz]
        refine iteF ⟨_, rfl, ⟨_, rfl⟩, z, "\n", rfl, rfl, _, rfl, ?_⟩
        rw [ends_nl, he]
        exact iteT ⟨_, rfl, fun d hd => hL.go (Same.refl H) d hd⟩
      · have rest := q1 H p z ns ws hG nn g1 hl hO
        by_cases nz : z = ""
        · rw [decide_eq_true nz]
          exact iteT (iteF rest)
        · rw [decide_eq_false nz]
          refine iteF ⟨_, rfl, ⟨_, rfl⟩, z, "\n", rfl, rfl, _, rfl, ?_⟩
          rw [ends_nl, hz.resolve_left nz]
          exact iteF rest
end
end Qp
namespace L2
open PySem PySem.Spec PyProof.Rows
theorem pss_no {X : Cx} {b : List Stmt} : PSs X b (fun _ _ _ => False) := ⟨fun _ _ _ _ _ _ h => h.elim⟩
end L2
namespace Qp
open PySem L2 TL
theorem len_app (a b : Str) : (a ++ b).length = a.length + b.length := by rw [len_tl, tl_append, List.length_append, ← len_tl, ← len_tl]
theorem sort_uniq {l m : List Str} (h1 : PyProof.Rows.sortedS l = true) (h2 : PyProof.Rows.sortedS m = true) (p : l.Perm m) : l = m := by
  have pw : ∀ {l : List Str}, PyProof.Rows.sortedS l = true → l.Pairwise fun a b => a.cps.toList ≤ b.cps.toList := fun {l} h => sorted_pw h
  have key : ∀ {l m : List Str}, l.Pairwise (fun a b => a.cps.toList ≤ b.cps.toList) → m.Pairwise (fun a b => a.cps.toList ≤ b.cps.toList) → l.Perm m → l = m := by
    intro l
    induction l with
    | nil => intro m _ _ p; exact (List.Perm.eq_nil p.symm).symm
    | cons x l ih =>
      intro m hl hm p
      cases m with
      | nil => exact absurd p.length_eq (by simp)
      | cons y m =>
        have e : x = y := by
          rcases List.mem_cons.mp (p.mem_iff.mp (List.mem_cons_self (a := x) (l := l))) with e | q
          · exact e
          · rcases List.mem_cons.mp (p.mem_iff.mpr (List.mem_cons_self (a := y) (l := m))) with e | q2
            · exact e.symm
            · exact str_ext (List.le_antisymm ((List.pairwise_cons.mp hl).1 y q2) ((List.pairwise_cons.mp hm).1 x q))
        subst e
        rw [ih (List.pairwise_cons.mp hl).2 (List.pairwise_cons.mp hm).2 p.cons_inv]
  exact key (pw h1) (pw h2) p
theorem okv_inj {qs rs : List Str} {f g : Str → Option Str} (h : okv qs f = okv rs g) : qs = rs ∧ ∀ a ∈ qs, f a = g a := by
  have e1 : qs = rs := by
    have e := congrArg (List.map (·.1)) h
    rw [okv_keys, okv_keys] at e
    exact (List.map_inj_right (fun _ _ e => Sum.inr.inj e)).mp e
  subst e1
  refine ⟨rfl, fun a ha => ?_⟩
  have q := okv_val (f := f) ha
  rw [h, okv_val ha] at q
  exact (oV_inj (Option.some.inj q)).symm
theorem wf_name {z : Str} (h : nameS z = true) : Wf z := by
  unfold nameS at h
  simp only [Bool.and_eq_true, List.all_eq_true] at h
  have q : ∀ c ∈ tl z, lowC c = true := h.2
  refine ⟨fun m => ?_, fun m => ?_⟩
  · have := q _ m
    exact absurd this (by decide)
  · have := q _ m
    exact absurd this (by decide)
theorem wf_col {z : Str} (h : Wf z) : Wf (z ++ ":") := by
  have e : tl (z ++ ":") = tl z ++ [58] := by rw [tl_append, tl_col]
  refine ⟨fun m => ?_, fun m => ?_⟩ <;> rw [e] at m <;> rcases List.mem_append.mp m with m | m
  · exact h.1 m
  · exact absurd m (by decide)
  · exact h.2 m
  · exact absurd m (by decide)
theorem wf_people : Wf "people" := ⟨by decide +kernel, by decide +kernel⟩
theorem wf_empty : Wf "" := ⟨by decide +kernel, by decide +kernel⟩
/-- lines, each ended -/
def txtOf (ls : List Str) : Str := Txt.join "" (ls.map fun l => l ++ "\n")
theorem txt_rows (rows : List (List Str)) : txtOf (rows.map lineOf) = textOf rows := by
  unfold txtOf textOf
  rw [List.map_map]
  rfl
theorem txt_body {ls : List Str} (h : ls ≠ []) : txtOf ls = Txt.join "\n" ls ++ "\n" := by
  apply ext_tl
  unfold txtOf
  rw [tl_append, tl_joinS, tl_joinS, tl_nl, tl_em, List.map_map]
  have e := joinL_nl (ls.map tl)
  rw [List.map_map] at e
  have e1 : ls.map (tl ∘ fun l => l ++ "\n") = ls.map ((fun l => l ++ [10]) ∘ tl) := List.map_congr_left fun l _ => by
    show tl (l ++ "\n") = tl l ++ [10]
    rw [tl_append, tl_nl]
  rw [e1, e, joinL_snoc [10] _ _ (by simpa using h), List.append_nil]
theorem join_len {y : Str} {ls : List Str} {b : Nat} (h : ∀ l ∈ ls, l.length ≤ b) : (Txt.join y ls).length ≤ ls.length * b + ls.length * y.length := by
  rw [len_tl, tl_joinS]
  have q := joinL_len (tl y) (ls.map tl)
  have e : (ls.map tl).map List.length = ls.map (·.length) := by
    rw [List.map_map]
    exact List.map_congr_left fun w _ => (len_tl w).symm
  rw [e, List.length_map, ← len_tl] at q
  have := sum_le (l := ls.map (·.length)) (b := b) fun x hx => by
    obtain ⟨l, hl, rfl⟩ := List.mem_map.mp hx
    exact h l hl
  rw [List.length_map] at this
  omega
/-- two values of one data, to a depth -/
inductive SmT (H : Hp) : Nat → V → V → Prop
  | int (n : Nat) (i : Int) : SmT H n (.int i) (.int i)
  | str (n : Nat) (z : Str) : SmT H n (.str z) (.str z)
  | lst {n : Nat} {a b : Addr} {xs ys : List V} : H a = some (.lst xs) → H b = some (.lst ys) → xs.length = ys.length → xs.length ≤ 1000 → (∀ (i : Nat) (x y : V), xs[i]? = some x → ys[i]? = some y → SmT H n x y) → SmT H (n + 1) (.ref a) (.ref b)
  | tup {n : Nat} {a b : Addr} {xs ys : List V} : H a = some (.tup xs) → H b = some (.tup ys) → xs.length = ys.length → xs.length ≤ 1000 → (∀ (i : Nat) (x y : V), xs[i]? = some x → ys[i]? = some y → SmT H n x y) → SmT H (n + 1) (.ref a) (.ref b)
theorem SmT.same {H H' : Hp} (s : Same H H') {n : Nat} {x y : V} (h : SmT H n x y) : SmT H' n x y := by
  induction h with
  | int n i => exact .int n i
  | str n z => exact .str n z
  | lst h1 h2 h3 h4 _ ih => exact .lst (s _ _ h1) (s _ _ h2) h3 h4 ih
  | tup h1 h2 h3 h4 _ ih => exact .tup (s _ _ h1) (s _ _ h2) h3 h4 ih
section
variable {P : Program} {w : World} {K : PySem.W.Frag} {mg : Str → Option Value} {base : Heap}
/-- _law_lines(rows) -/
def spLT : Sp := fun vs H Q _ => ∃ (a : Addr) (ls : List Str), vs = [.ref a] ∧ H a = some (lstO ls) ∧ ls.length ≤ 1000 ∧ (∀ l ∈ ls, l.length ≤ 1000) ∧ ∀ H', Same H H' → Q (.str (txtOf ls)) H'
theorem ok_llt {f : Addr} {fd : FuncData} (F : Fun K "_law_lines" "_law_lines" sLlines f fd) (B : Bl mg) : FnOk P w K mg base CX0 1 f fd ["_law_rows"] spLT := by
  refine F.ok scLlines (fun vs H Q E h => ?_) (fun cdv A outer s H vs Q E hr h => ?_)
  · obtain ⟨a, ls, rfl, _⟩ := h
    rfl
  · obtain ⟨a, ls, rfl, ha, hn, hl, kq⟩ := h
    have esz : sizeLine = 16777216 := sizeLine_eq
    have el : ("\n" : Str).length = 1 := by decide +kernel
    refine ⟨_, pss_one (ps_ret (pe_join pe_str (pe_lc (own := [("_law_row", 1)]) (g := gName 1) (tt := tYes) rfl scLlines.nd (pi_list (pv 0)) (blkOk_by (own := [("_law_row", 1)]) (N := ["_law_rows", "_law_row"]) (sc := defScope sLlines) (by decide +kernel))
      (fun _ _ _ _ _ => pg_name (i := 1) scLlines.nd rfl (Or.inl rfl)) (fun _ _ _ _ _ => pts_nil)
      (fun _ _ _ _ _ => pe_op op_add_str (pv 1) pe_str)))), ?_⟩
    refine ⟨⟨_, rfl⟩, _, rfl, a, rfl, ⟨_, SqL.of ha⟩, fun D hD => lc_it (walk_list (xs := ls.map V.str)) (fun i H' => Same H H' ∧ H' D = some (lstO ((ls.take i).map fun r : Str => r ++ "\n"))) ⟨Same.new hD, upd_same⟩ (fun i H' _ h => SqL.of (h.1 _ _ ha)) ?_ ?_⟩
    · rintro i x Hx H2 hi ⟨s1, hD1⟩ ⟨rfl, hx⟩
      rw [List.getElem?_map] at hx
      cases er : ls[i]? with
      | none => rw [er] at hx; cases hx
      | some row =>
        rw [er] at hx
        cases hx
        have h4 := hl row (List.mem_of_getElem? er)
        refine ⟨rfl, lcTurn ⟨_, rfl, _, _, rfl, rfl, by rw [el, esz]; omega, ?_⟩⟩
        refine ⟨_, hD1, by rw [List.length_map, List.length_map, List.length_take, esz]; omega, same_put s1 hD, ?_⟩
        rw [upd_same, take_snoc er, List.map_append, lstO, List.map_append]
        rfl
    · rintro H2 ⟨s1, hD1⟩
      rw [List.length_map, List.take_of_length_le (Nat.le_refl _)] at hD1
      refine ⟨"", D, ls.map fun r : Str => r ++ "\n", rfl, rfl, .inl (SqL.of hD1), ?_, kq _ s1⟩
      have e0 : ("" : Str).length = 0 := by decide +kernel
      rw [e0, Nat.mul_zero]
      have q2 := sum_le (l := ((ls.map fun r : Str => r ++ "\n")).map (·.length)) (b := 1001) fun x hx => by
        obtain ⟨y, hy, rfl⟩ := List.mem_map.mp hx
        obtain ⟨r, hr, rfl⟩ := List.mem_map.mp hy
        have := hl r hr
        rw [len_tl, tl_append, tl_nl, List.length_append, ← len_tl]
        show _ + 1 ≤ _
        omega
      rw [List.length_map, List.length_map] at q2
      have := Nat.mul_le_mul_right 1001 hn
      omega
/-- _law_is_integer(value) -/
def spInt : Sp := fun vs H Q _ => ∃ (x : V) (k : Kd), vs = [x] ∧ IsK H x k ∧ Q (.bl (decide (k = .int))) H
theorem ok_int {f : Addr} {fd : FuncData} (F : Fun K "_law_is_integer" "_law_is_integer" sLisinteger f fd) (B : Bl mg) : FnOk P w K mg base CX0 1 f fd ["_law_actual"] spInt := by
  refine F.ok scLisinteger (fun vs H Q E h => ?_) (fun cdv A outer s H vs Q E hr h => ?_)
  · obtain ⟨x, k, rfl, _⟩ := h
    rfl
  · obtain ⟨x, k, rfl, ik, kq⟩ := h
    refine ⟨_, pss_one (ps_ret (pe_and (pe_isi kit_int B.isi B.int (pv 0)) (pe_one (pe_not (pe_isi kit_bool B.isi B.bool (pv 0)))))), ?_⟩
    refine ⟨_, rfl, x, k, rfl, ik, _, rfl, ?_⟩
    cases k with
    | int => exact iteT ⟨_, rfl, x, _, rfl, ik, _, rfl, kq⟩
    | bl => exact iteT ⟨_, rfl, x, _, rfl, ik, _, rfl, kq⟩
    | _ => exact iteF kq
def spSm (n : Nat) : Sp := fun vs H Q _ => ∃ x y : V, vs = [x, y] ∧ SmT H n x y ∧ ∀ H', Same H H' → Q (.bl true) H'
theorem ok_smS {n k : Nat} {f : Addr} {fd : FuncData} (F : Fun K "_law_same" "_law_same" sLsame f fd) (B : Bl mg) (hk : 1 ≤ k) (cI : CF P w K mg base CX0 1 "_law_is_integer" ["_law_actual"] spInt) (cS : CF P w K mg base CX0 k "_law_same" ["_law_actual", "_law_due_here"] (spSm n)) :
    FnOk P w K mg base CX0 (k + 1) f fd ["_law_actual", "_law_due_here"] (spSm (n + 1)) := by
  refine F.ok scLsame (fun vs H Q E h => ?_) (fun cdv A outer s H vs Q E hr h => ?_)
  · obtain ⟨x, y, rfl, _⟩ := h
    rfl
  · obtain ⟨x, y, rfl, h, kq⟩ := h
    have hr1 : Room 1 _ := hr.mono hk
    have esz : sizeLine = 16777216 := sizeLine_eq
    refine ⟨_, pss_cons (ps_if (pt_cmp (pc_isN (pv 1))) pss_no pss_nil)
      (pss_cons (ps_if (pt_val (pe_isi kit_bool B.isi B.bool (pv 1))) pss_no pss_nil)
      (pss_cons (ps_if (pt_val (pe_isi kit_int B.isi B.int (pv 1))) (pss_one (ps_ret (pe_and (pe_cf cI hr1 pass0 (pa_cons (pv 0) pa_nil)) (pe_one (pe_cmpR op_eq (pv 0) (pv 1) (nomark _)))))) pss_nil)
      (pss_cons (ps_if (pt_val (pe_isi kit_str B.isi B.str (pv 1))) (pss_one (ps_ret (pe_and (pe_isi kit_str B.isi B.str (pv 0)) (pe_one (pe_cmpR op_eq (pv 0) (pv 1) (nomark _)))))) pss_nil)
      (pss_cons (ps_if (PW.pt (pw_and (pt_val (pe_isi kit_tuple B.isi B.tup (pv 1))) (pw_and1 (pt_not (pt_val (pe_isi kit_tuple B.isi B.tup (pv 0))))))) pss_no pss_nil)
      (pss_cons (ps_if (PW.pt (pw_and (pt_val (pe_isi kit_list B.isi B.lst (pv 1))) (pw_and1 (pt_not (pt_val (pe_isi kit_list B.isi B.lst (pv 0))))))) pss_no pss_nil)
      (pss_cons (ps_if (PW.pt (pw_or (pt_val (pe_isi kit_tuple B.isi B.tup (pv 1))) (pw_or1 (pt_val (pe_isi kit_list B.isi B.lst (pv 1))))))
        (pss_cons (ps_if (pt_cmpR op_ne (pe_callB call_len_seq (by rfl) B.len PySem.boot_len (pa_cons (pv 0) pa_nil)) (pe_callB call_len_seq (by rfl) B.len PySem.boot_len (pa_cons (pv 1) pa_nil)) (nomark _)) pss_no pss_nil)
        (pss_cons (ps_for PassesOwn.never rfl (pi_range1 (by rfl) B.rng (pa_cons (pe_callB call_len_seq (by rfl) B.len PySem.boot_len (pa_cons (pv 1) pa_nil)) pa_nil)) (pg_name (i := 2) scLsame.nd rfl (Or.inl rfl))
          (pss_one (ps_if (pt_not (pt_val (pe_cf cS hr pass0 (pa_cons (pe_ix ix_seq (pv 0) (pv 2) (fun _ _ => rfl)) (pa_cons (pe_ix ix_seq (pv 1) (pv 2) (fun _ _ => rfl)) pa_nil))))) pss_no pss_nil)))
        (pss_one (ps_ret pe_bl)))) pss_nil) pss_no)))))), ?_⟩
    cases h with
    | int n' i =>
      refine ⟨_, rfl, _, rfl, iteF ?_⟩
      refine ⟨_, rfl, _, _, rfl, .int i, _, rfl, iteF ?_⟩
      refine ⟨_, rfl, _, _, rfl, .int i, _, rfl, iteT ?_⟩
      refine ⟨_, rfl, _, _, rfl, .int i, _, rfl, iteT ?_⟩
      refine ⟨_, rfl, _, rfl, rfl, ?_⟩
      rw [decide_eq_true rfl]
      exact kq H (Same.refl H)
    | str n' z =>
      refine ⟨_, rfl, _, rfl, iteF ?_⟩
      refine ⟨_, rfl, _, _, rfl, .str z, _, rfl, iteF ?_⟩
      refine ⟨_, rfl, _, _, rfl, .str z, _, rfl, iteF ?_⟩
      refine ⟨_, rfl, _, _, rfl, .str z, _, rfl, iteT ?_⟩
      refine ⟨_, rfl, _, _, rfl, .str z, _, rfl, iteT ?_⟩
      refine ⟨_, rfl, _, rfl, rfl, ?_⟩
      rw [decide_eq_true rfl]
      exact kq H (Same.refl H)
    | @lst _ a b xs ys ha hb hl hn hi =>
      refine ⟨_, rfl, _, rfl, iteF ?_⟩
      refine ⟨_, rfl, _, _, rfl, .lst hb, _, rfl, iteF ?_⟩
      refine ⟨_, rfl, _, _, rfl, .lst hb, _, rfl, iteF ?_⟩
      refine ⟨_, rfl, _, _, rfl, .lst hb, _, rfl, iteF ?_⟩
      refine ⟨_, rfl, _, _, rfl, .lst hb, _, rfl, iteF (iteF ?_)⟩
      refine ⟨_, rfl, _, _, rfl, .lst hb, _, rfl, iteT ⟨_, rfl, _, _, rfl, .lst ha, _, rfl, iteF ?_⟩⟩
      refine ⟨_, rfl, _, _, rfl, .lst hb, _, rfl, iteF ⟨_, rfl, _, _, rfl, .lst hb, _, rfl, iteT ?_⟩⟩
      refine ⟨_, rfl, a, _, rfl, .inl (SqL.of ha), _, rfl, b, _, rfl, .inl (SqL.of hb), rfl, _, rfl, ?_⟩
      rw [hl, decide_eq_true rfl]
      refine iteF ⟨_, rfl, b, _, rfl, .inl (SqL.of hb), _, rfl, by omega, by omega, ?_⟩
      refine for_it (walk_range (lo := 0) (n := ((ys.length : Nat) : Int).toNat)) (fun i σ H' => ∃ v2 : Option V, σ = [some (.ref a), some (.ref b), v2, none] ∧ Same H H') ⟨none, rfl, Same.refl H⟩ (fun _ _ _ _ _ => True.intro) ?_ ?_
      · rintro i x σ Hx H1 hi' ⟨v2, rfl, s1⟩ ⟨rfl, hx⟩
        rw [Int.toNat_natCast] at hi'
        obtain rfl : x = V.int (0 + (i : Int)) := hx.trans rfl
        have e0 : (0 : Int) + (i : Int) = (i : Int) := by omega
        rw [e0]
        obtain ⟨u, eu⟩ : ∃ u, xs[i]? = some u := ⟨_, List.getElem?_eq_getElem (by omega)⟩
        obtain ⟨v, ev⟩ : ∃ v, ys[i]? = some v := ⟨_, List.getElem?_eq_getElem (by omega)⟩
        refine ⟨_, rfl, _, rfl, .inl ⟨a, _, _, _, rfl, rfl, SqL.of (s1 _ _ ha), atI_nat eu, _, rfl, _, rfl, .inl ⟨b, _, _, _, rfl, rfl, SqL.of (s1 _ _ hb), atI_nat ev, u, v, rfl, (hi i u v eu ev).same s1, fun H2 s2 => ⟨_, rfl, iteF ⟨_, rfl, s1.trans s2⟩⟩⟩⟩⟩
      · rintro σ H1 ⟨v2, rfl, s1⟩
        exact kq H1 s1
    | @tup _ a b xs ys ha hb hl hn hi =>
      refine ⟨_, rfl, _, rfl, iteF ?_⟩
      refine ⟨_, rfl, _, _, rfl, .tup hb, _, rfl, iteF ?_⟩
      refine ⟨_, rfl, _, _, rfl, .tup hb, _, rfl, iteF ?_⟩
      refine ⟨_, rfl, _, _, rfl, .tup hb, _, rfl, iteF ?_⟩
      refine ⟨_, rfl, _, _, rfl, .tup hb, _, rfl, iteT ⟨_, rfl, _, _, rfl, .tup ha, _, rfl, iteF ?_⟩⟩
      refine ⟨_, rfl, _, _, rfl, .tup hb, _, rfl, iteF (iteF ?_)⟩
      refine ⟨_, rfl, _, _, rfl, .tup hb, _, rfl, iteT (iteT ?_)⟩
      refine ⟨_, rfl, a, _, rfl, .inr (SqT.of ha), _, rfl, b, _, rfl, .inr (SqT.of hb), rfl, _, rfl, ?_⟩
      rw [hl, decide_eq_true rfl]
      refine iteF ⟨_, rfl, b, _, rfl, .inr (SqT.of hb), _, rfl, by omega, by omega, ?_⟩
      refine for_it (walk_range (lo := 0) (n := ((ys.length : Nat) : Int).toNat)) (fun i σ H' => ∃ v2 : Option V, σ = [some (.ref a), some (.ref b), v2, none] ∧ Same H H') ⟨none, rfl, Same.refl H⟩ (fun _ _ _ _ _ => True.intro) ?_ ?_
      · rintro i x σ Hx H1 hi' ⟨v2, rfl, s1⟩ ⟨rfl, hx⟩
        rw [Int.toNat_natCast] at hi'
        obtain rfl : x = V.int (0 + (i : Int)) := hx.trans rfl
        have e0 : (0 : Int) + (i : Int) = (i : Int) := by omega
        rw [e0]
        obtain ⟨u, eu⟩ : ∃ u, xs[i]? = some u := ⟨_, List.getElem?_eq_getElem (by omega)⟩
        obtain ⟨v, ev⟩ : ∃ v, ys[i]? = some v := ⟨_, List.getElem?_eq_getElem (by omega)⟩
        refine ⟨_, rfl, _, rfl, .inr (.inl ⟨a, _, _, _, rfl, rfl, SqT.of (s1 _ _ ha), atI_nat eu, _, rfl, _, rfl, .inr (.inl ⟨b, _, _, _, rfl, rfl, SqT.of (s1 _ _ hb), atI_nat ev, u, v, rfl, (hi i u v eu ev).same s1, fun H2 s2 => ⟨_, rfl, iteF ⟨_, rfl, s1.trans s2⟩⟩⟩)⟩)⟩
      · rintro σ H1 ⟨v2, rfl, s1⟩
        exact kq H1 s1
/-- two values of one data -/
theorem ok_smZ {f : Addr} {fd : FuncData} (F : Fun K "_law_same" "_law_same" sLsame f fd) (B : Bl mg) (cI : CF P w K mg base CX0 1 "_law_is_integer" ["_law_actual"] spInt) : FnOk P w K mg base CX0 2 f fd ["_law_actual", "_law_due_here"] (spSm 0) := by
  refine F.ok scLsame (fun vs H Q E h => ?_) (fun cdv A outer s H vs Q E hr h => ?_)
  · obtain ⟨x, y, rfl, _⟩ := h
    rfl
  · obtain ⟨x, y, rfl, h, kq⟩ := h
    refine ⟨_, pss_cons (ps_if (pt_cmp (pc_isN (pv 1))) pss_no pss_nil)
      (pss_cons (ps_if (pt_val (pe_isi kit_bool B.isi B.bool (pv 1))) pss_no pss_nil)
      (pss_cons (ps_if (pt_val (pe_isi kit_int B.isi B.int (pv 1))) (pss_one (ps_ret (pe_and (pe_cf cI hr pass0 (pa_cons (pv 0) pa_nil)) (pe_one (pe_cmpR op_eq (pv 0) (pv 1) (nomark _)))))) pss_nil)
      (pss_cons (ps_if (pt_val (pe_isi kit_str B.isi B.str (pv 1))) (pss_one (ps_ret (pe_and (pe_isi kit_str B.isi B.str (pv 0)) (pe_one (pe_cmpR op_eq (pv 0) (pv 1) (nomark _)))))) pss_nil) pss_no))), ?_⟩
    cases h with
    | int n' i =>
      refine ⟨_, rfl, _, rfl, iteF ?_⟩
      refine ⟨_, rfl, _, _, rfl, .int i, _, rfl, iteF ?_⟩
      refine ⟨_, rfl, _, _, rfl, .int i, _, rfl, iteT ?_⟩
      refine ⟨_, rfl, _, _, rfl, .int i, _, rfl, iteT ?_⟩
      refine ⟨_, rfl, _, rfl, rfl, ?_⟩
      rw [decide_eq_true rfl]
      exact kq H (Same.refl H)
    | str n' z =>
      refine ⟨_, rfl, _, rfl, iteF ?_⟩
      refine ⟨_, rfl, _, _, rfl, .str z, _, rfl, iteF ?_⟩
      refine ⟨_, rfl, _, _, rfl, .str z, _, rfl, iteF ?_⟩
      refine ⟨_, rfl, _, _, rfl, .str z, _, rfl, iteT ?_⟩
      refine ⟨_, rfl, _, _, rfl, .str z, _, rfl, iteT ?_⟩
      refine ⟨_, rfl, _, rfl, rfl, ?_⟩
      rw [decide_eq_true rfl]
      exact kq H (Same.refl H)
def spSm0 : Sp := spSm 0
def spSm1 : Sp := spSm 1
theorem ok_sm0 {f : Addr} {fd : FuncData} (F : Fun K "_law_same" "_law_same" sLsame f fd) (B : Bl mg) (cI : CF P w K mg base CX0 1 "_law_is_integer" ["_law_actual"] spInt) : FnOk P w K mg base CX0 2 f fd ["_law_actual", "_law_due_here"] spSm0 := ok_smZ F B cI
theorem ok_sm1 {f : Addr} {fd : FuncData} (F : Fun K "_law_same" "_law_same" sLsame f fd) (B : Bl mg) (cI : CF P w K mg base CX0 1 "_law_is_integer" ["_law_actual"] spInt) (cS : CF P w K mg base CX0 2 "_law_same" ["_law_actual", "_law_due_here"] spSm0) : FnOk P w K mg base CX0 3 f fd ["_law_actual", "_law_due_here"] spSm1 := ok_smS F B (by decide) cI cS
/-- _law_same(actual, due) of two partners -/
def spSame0 : Sp := fun vs H Q _ => ∃ o u : Option Str, vs = [oV o, oV u] ∧ Q (.bl (decide (o = u))) H
theorem ok_same0 {f : Addr} {fd : FuncData} (F : Fun K "_law_same" "_law_same" sLsame f fd) (B : Bl mg) : FnOk P w K mg base CX0 1 f fd ["_law_actual", "_law_due_here"] spSame0 := by
  refine F.ok scLsame (fun vs H Q E h => ?_) (fun cdv A outer s H vs Q E hr h => ?_)
  · obtain ⟨o, u, rfl, _⟩ := h
    rfl
  · obtain ⟨o, u, rfl, kq⟩ := h
    refine ⟨_, pss_cons (ps_if (pt_cmp (pc_isN (pv 1))) (pss_one (ps_ret (pe_cmp (pc_isN (pv 0)) rfl))) pss_nil)
      (pss_cons (ps_if (pt_val (pe_isi kit_bool B.isi B.bool (pv 1))) pss_never pss_nil)
      (pss_cons (ps_if (pt_val (pe_isi kit_int B.isi B.int (pv 1))) pss_never pss_nil)
      (pss_cons (ps_if (pt_val (pe_isi kit_str B.isi B.str (pv 1))) (pss_one (ps_ret (pe_and (pe_isi kit_str B.isi B.str (pv 0)) (pe_one (pe_cmpR op_eq (pv 0) (pv 1) (nomark _)))))) pss_nil) pss_never))), ?_⟩
    cases u with
    | none =>
      refine ⟨_, rfl, _, rfl, ?_⟩
      rw [show decide (oV none = V.non) = true from decide_eq_true rfl]
      refine iteT ⟨_, rfl, ?_⟩
      have e : decide (oV o = V.non) = decide (o = none) := by cases o <;> rfl
      show Q (.bl (decide (oV o = V.non))) H
      rw [e]
      exact kq
    | some b =>
      refine ⟨_, rfl, _, rfl, ?_⟩
      rw [show decide (oV (some b) = V.non) = false from decide_eq_false (by intro z; cases z)]
      refine iteF ?_
      refine ⟨_, rfl, _, _, rfl, .str b, _, rfl, iteF ?_⟩
      refine ⟨_, rfl, _, _, rfl, .str b, _, rfl, iteF ?_⟩
      refine ⟨_, rfl, _, _, rfl, .str b, _, rfl, iteT ?_⟩
      cases o with
      | none => exact ⟨_, rfl, _, _, rfl, .non, _, rfl, iteF kq⟩
      | some a =>
        refine ⟨_, rfl, _, _, rfl, .str a, _, rfl, iteT ⟨_, rfl, _, rfl, rfl, ?_⟩⟩
        have e : decide (V.str a = V.str b) = decide (some a = some b) := by simp
        show Q (.bl (decide (V.str a = V.str b))) H
        rw [e]
        exact kq
/-- _law_same(actual, due) of two dealings -/
def spSame1 : Sp := fun vs H Q _ => ∃ (d e : Addr) (ps qs : List Str) (f g : Str → Option Str), vs = [.ref d, .ref e] ∧ d ≠ e ∧ H d = some (.dK (okv ps f)) ∧ H e = some (.dK (okv qs g)) ∧ ps.Perm qs ∧ (∀ a ∈ qs, f a = g a) ∧ Q (.bl true) H
theorem ok_same1 {f : Addr} {fd : FuncData} (F : Fun K "_law_same" "_law_same" sLsame f fd) (B : Bl mg) (cS : CF P w K mg base CX0 1 "_law_same" ["_law_actual", "_law_due_here"] spSame0) : FnOk P w K mg base CX0 2 f fd ["_law_actual", "_law_due_here"] spSame1 := by
  refine F.ok scLsame (fun vs H Q E h => ?_) (fun cdv A outer s H vs Q E hr h => ?_)
  · obtain ⟨d, e, ps, qs, f, g, rfl, _⟩ := h
    rfl
  · obtain ⟨d, e, ps, qs, f, g, rfl, nde, hd, he, hp, hfg, kq⟩ := h
    have hu := hu_of hr
    refine ⟨_, pss_cons (ps_if (pt_cmp (pc_isN (pv 1))) pss_never pss_nil)
      (pss_cons (ps_if (pt_val (pe_isi kit_bool B.isi B.bool (pv 1))) pss_never pss_nil)
      (pss_cons (ps_if (pt_val (pe_isi kit_int B.isi B.int (pv 1))) pss_never pss_nil)
      (pss_cons (ps_if (pt_val (pe_isi kit_str B.isi B.str (pv 1))) pss_never pss_nil)
      (pss_cons (ps_if (PW.pt (pw_and (pt_val (pe_isi kit_tuple B.isi B.tup (pv 1))) (pw_and1 (pt_not (pt_val (pe_isi kit_tuple B.isi B.tup (pv 0))))))) pss_never pss_nil)
      (pss_cons (ps_if (PW.pt (pw_and (pt_val (pe_isi kit_list B.isi B.lst (pv 1))) (pw_and1 (pt_not (pt_val (pe_isi kit_list B.isi B.lst (pv 0))))))) pss_never pss_nil)
      (pss_cons (ps_if (PW.pt (pw_or (pt_val (pe_isi kit_tuple B.isi B.tup (pv 1))) (pw_or1 (pt_val (pe_isi kit_list B.isi B.lst (pv 1)))))) pss_never pss_nil)
      (pss_cons (ps_if (pt_val (pe_isi kit_dict B.isi B.dct (pv 1)))
        (pss_cons (ps_if (PW.pt (pw_or (pt_not (pt_val (pe_isi kit_dict B.isi B.dct (pv 0)))) (pw_or1 (pt_cmpR op_ne (pe_callB call_lenD (by rfl) B.len PySem.boot_len (pa_cons (pv 0) pa_nil)) (pe_callB call_lenD (by rfl) B.len PySem.boot_len (pa_cons (pv 1) pa_nil)) (nomark _))))) pss_never pss_nil)
        (pss_cons (ps_lock (ps_for PassesOwn.never rfl (pi_keys (pv 1)) (pg_name (i := 3) scLsame.nd rfl (Or.inl rfl))
          (pss_one (ps_if (PW.pt (pw_or (pt_cmp (pc_dnotin hu (pv 3) (pv 0))) (pw_or1 (pt_not (pt_val (pe_cf cS hr pass0 (pa_cons (pe_dget hu (pv 0) (pv 3) (fun _ _ => rfl)) (pa_cons (pe_dget hu (pv 1) (pv 3) (fun _ _ => rfl)) pa_nil)))))))) pss_never pss_nil))))
        (pss_one (ps_ret pe_bl)))) pss_nil) pss_never))))))), ?_⟩
    refine ⟨_, rfl, _, rfl, iteF ?_⟩
    refine ⟨_, rfl, _, _, rfl, .dct he, _, rfl, iteF ?_⟩
    refine ⟨_, rfl, _, _, rfl, .dct he, _, rfl, iteF ?_⟩
    refine ⟨_, rfl, _, _, rfl, .dct he, _, rfl, iteF ?_⟩
    refine ⟨_, rfl, _, _, rfl, .dct he, _, rfl, iteF (iteF ?_)⟩
    refine ⟨_, rfl, _, _, rfl, .dct he, _, rfl, iteF (iteF ?_)⟩
    refine ⟨_, rfl, _, _, rfl, .dct he, _, rfl, iteF ⟨_, rfl, _, _, rfl, .dct he, _, rfl, iteF ?_⟩⟩
    refine ⟨_, rfl, _, _, rfl, .dct he, _, rfl, iteT ?_⟩
    refine ⟨_, rfl, _, _, rfl, .dct hd, _, rfl, iteF ⟨_, rfl, d, _, rfl, hd, _, rfl, e, _, rfl, he, rfl, _, rfl, ?_⟩⟩
    have el : (!decide (V.int (((okv ps f).length : Nat) : Int) = V.int (((okv qs g).length : Nat) : Int))) = false := by
      rw [okv_len, okv_len, hp.length_eq, decide_eq_true rfl]
      rfl
    rw [el]
    refine iteF ⟨e, _, he, True.intro, fun od => ?_⟩
    have hf : (upd H e (.frz od (.dK (okv qs g)))) e = some (.frz od (.dK (okv qs g))) := upd_same
    have hd1 : (upd H e (.frz od (.dK (okv qs g)))) d = some (.dK (okv ps f)) := by rw [upd_ne nde]; exact hd
    have back : upd (upd H e (.frz od (.dK (okv qs g)))) e (.dK (okv qs g)) = H := back_lock he
    generalize hHL : upd H e (.frz od (.dK (okv qs g))) = HL at hf hd1 back
    refine ⟨_, rfl, e, od, rfl, .inl ⟨_, hf, for_it walk_keys (fun i σ H' => ∃ v3 : Option V, σ = [some (.ref d), some (.ref e), none, v3] ∧ H' = HL) ⟨none, rfl, rfl⟩ (fun i σ H' _ ⟨_, _, z⟩ => by rw [z]; exact hf) ?_ ?_⟩⟩
    · rintro i x σ Hx H1 hi ⟨v3, rfl, rfl⟩ ⟨rfl, kk, v, hk, rfl⟩
      rw [okv_len] at hi
      unfold okv at hk
      rw [List.getElem?_map] at hk
      cases ea : qs[i]? with
      | none => rw [ea] at hk; cases hk
      | some a =>
        rw [ea] at hk
        cases hk
        have ha : a ∈ qs := List.mem_of_getElem? ea
        have hap : a ∈ ps := hp.mem_iff.mpr ha
        refine ⟨_, rfl, _, rfl, d, _, rfl, DGet.k (k := Sum.inr a) hd1, _, rfl, ?_⟩
        rw [okv_val hap]
        refine iteF ⟨_, rfl, _, rfl, d, _, rfl, by rw [← okv_val (f := f) hap]; exact DGet.k (k := Sum.inr a) hd1, _, rfl, _, rfl, e, _, rfl, .inl ⟨_, Sum.inr a, .inr ⟨od, hf⟩, rfl, (okv_val ha).symm⟩, f a, g a, rfl, _, rfl, ?_⟩
        rw [decide_eq_true (hfg a ha)]
        exact iteF ⟨_, rfl, rfl⟩
    · rintro σ H1 ⟨v3, rfl, rfl⟩
      refine ⟨hf, ?_⟩
      rw [back]
      exact kq
end
end Qp
namespace Qp
open PySem L2 TL
theorem ltS_asymm {a b : Str} (h : ltS a b = true) : ltS b a = false := by
  unfold ltS at *
  exact decide_eq_false fun q => List.lt_irrefl _ (List.lt_trans (of_decide_eq_true h) q)
theorem ltS_or {a b : Str} (h : ltS a b = false) (n : a ≠ b) : ltS b a = true := by
  unfold ltS at *
  have h1 := List.not_lt.mp (of_decide_eq_false h)
  refine decide_eq_true ?_
  rcases List.le_iff_lt_or_eq.mp h1 with h | h
  · exact h
  · exact absurd (str_ext h.symm) n
theorem RDl.imp {ns : List Str} {ws : Str → List Str} {K0 K1 : Int → Prop} {G G1 : List Str → (Str → Option Str) → Prop} (k : ∀ n, K0 n → K1 n) (gg : ∀ qs g, G qs g → G1 qs g) : ∀ {rows : List (List Str)} {i : Nat} {prev : Option Str} {qs : List Str} {g : Str → Option Str}, RDl ns ws K0 G i prev qs g rows → RDl ns ws K1 G1 i prev qs g rows
  | [], i, prev, qs, g, h => by
    have h : if qs.length < ns.length then K0 ((i : Int) + 1) else G qs g := h
    show if qs.length < ns.length then K1 ((i : Int) + 1) else G1 qs g
    by_cases c : qs.length < ns.length
    · rw [if_pos c] at h ⊢
      exact k _ h
    · rw [if_neg c] at h ⊢
      exact gg _ _ h
  | row :: rest, i, prev, qs, g, h => by
    have h : if okRow ns ws prev qs row = true then RDl ns ws K0 G (i + 1) (some (row.headD "")) (stQ qs row) (stG g row) rest else K0 (1 + (i : Int)) := h
    show if okRow ns ws prev qs row = true then RDl ns ws K1 G1 (i + 1) (some (row.headD "")) (stQ qs row) (stG g row) rest else K1 (1 + (i : Int))
    by_cases c : okRow ns ws prev qs row = true
    · rw [if_pos c] at h ⊢
      exact RDl.imp k gg h
    · rw [if_neg c] at h ⊢
      exact k _ h
theorem nl_mk : ("\n" : Str) = ⟨#[10]⟩ := by decide +kernel
theorem sp_mk : (" " : Str) = ⟨#[32]⟩ := by decide +kernel
theorem split_ne (x y : Str) : Txt.split x y ≠ [] := fun e => by
  have := PyProof.Rows.split_pos x y
  rw [e] at this
  exact absurd this (by decide)
theorem nl_free (x : Str) : ∀ p ∈ Txt.split x "\n", 10 ∉ tl p := by
  rw [nl_mk]
  exact StrLaws.split_free x 10
theorem join_nl (x : Str) : Txt.join "\n" (Txt.split x "\n") = x := by
  rw [join_eq]
  exact StrLaws.join_split x "\n"
theorem join_more {ps : List Str} (h : ps ≠ []) : Txt.join "\n" (ps ++ [("" : Str)]) = Txt.join "\n" ps ++ "\n" := by
  apply ext_tl
  rw [tl_append, tl_joinS, tl_joinS, List.map_append, tl_nl]
  show joinL [10] (_ ++ [tl ""]) = _
  rw [joinL_snoc [10] _ _ (by simpa using h), tl_em]
  rfl
theorem split_nl (x : Str) : Txt.split (x ++ "\n") "\n" = Txt.split x "\n" ++ [("" : Str)] := by
  have e : x ++ "\n" = Txt.join "\n" (Txt.split x "\n" ++ [("" : Str)]) := by
    rw [join_more (split_ne _ _), join_nl]
  rw [e]
  exact split_join (s := 10) (S := []) tl_nl (by decide +kernel) (by simp) fun p hp => by
    rcases List.mem_append.mp hp with hp | hp
    · exact nl_free x p hp
    · rw [List.mem_singleton.mp hp, tl_em]
      exact fun h => by cases h
/-- the lines of a text that ends with an end of line -/
theorem parse_nl (x : Str) : parse (x ++ "\n") = (Txt.split x "\n").map fun l => Txt.split l " " := by
  unfold parse
  rw [split_nl, List.dropLast_concat]
theorem part_len {x y p : Str} (h : p ∈ Txt.split x y) (hy : 1 ≤ y.length) : p.length ≤ x.length := by
  have w := PyProof.Rows.split_weight x y hy
  have h1 := mem_le_sum (List.mem_map.mpr ⟨p, h, rfl⟩ : p.length ∈ (Txt.split x y).map (·.length))
  have := PyProof.Rows.split_pos x y
  omega
theorem part_n {x y : Str} (hy : 1 ≤ y.length) : (Txt.split x y).length ≤ x.length + 1 := by
  have w := PyProof.Rows.split_weight x y hy
  omega
theorem endB_nl (x : Str) : endB (x ++ "\n") = true := by
  unfold endB
  rw [tl_append, tl_nl]
  simp
section
variable {ns ys : List Str} {ws : Str → List Str} {f : Str → Option Str} (nn : Nm ns) (g1 : ∀ a ∈ ns, GRow ns a (ws a)) (D : Dl ns ws f) (hp : ys.Perm ns)
include nn g1 D hp in
theorem dr_names : ∀ a ∈ ys, nameS a = true ∧ ∀ b, f a = some b → nameS b = true := fun a ha => by
  have han := hp.mem_iff.mp ha
  exact ⟨nn.nm a han, fun b e => nn.nm b (opn_sym g1 han (D a han b e).1).1⟩
include nn g1 D hp in
theorem dr_wb : WB (drows f ys) := drows_wb (by rw [hp.length_eq]; exact nn.len) (dr_names nn g1 D hp)
include nn g1 D hp in
theorem dr_wf : ∀ r ∈ drows f ys, ∀ w ∈ r, Wf w := fun r hr w hw => by
  obtain ⟨a, ha, _, rfl⟩ := drows_mem hr
  exact wf_name ((drow_w (dr_names nn g1 D hp a ha)).2 w hw)
theorem dr_ne : ∀ r ∈ drows f ys, r ≠ [] := fun r hr e => by
  obtain ⟨a, _, _, h⟩ := drows_mem hr
  rw [h] at e
  unfold drow at e
  cases ef : f a with
  | none => rw [ef] at e; cases e
  | some b => rw [ef] at e; cases e
include nn g1 D hp in
theorem dr_lines : ∀ l ∈ (drows f ys).map lineOf, l.length ≤ 20 := fun l hl => by
  obtain ⟨r, hr, rfl⟩ := List.mem_map.mp hl
  obtain ⟨a, ha, _, rfl⟩ := drows_mem hr
  obtain ⟨h1, h2⟩ := drow_w (dr_names nn g1 D hp a ha)
  have := join_len (y := " ") (fun w hw => name_len8 (h2 w hw))
  have es : (" " : Str).length = 1 := by decide +kernel
  rw [es] at this
  unfold lineOf
  have := Nat.mul_le_mul_right 8 h1
  omega
end
theorem names_len {ns : List Str} {ws : Str → List Str} {qs : List Str} {f : Str → Option Str} (nn : Nm ns) (g1 : ∀ a ∈ ns, GRow ns a (ws a)) (D : Dl ns ws f) (hp : qs.Perm ns) : qs.length ≤ 60 ∧ ∀ a ∈ qs, a.length ≤ 100 ∧ ∀ b, f a = some b → b.length ≤ 100 := by
  refine ⟨by rw [hp.length_eq]; exact Nat.le_trans nn.len (by decide), fun a ha => ?_⟩
  obtain ⟨h1, h2⟩ := dr_names nn g1 D hp a ha
  exact ⟨Nat.le_trans (name_len8 h1) (by decide), fun b e => Nat.le_trans (name_len8 (h2 b e)) (by decide)⟩
end Qp
namespace Qp
open PySem L2 TL
theorem line1 (a : Str) : lineOf [a] = a := by
  apply ext_tl
  unfold lineOf
  rw [tl_joinS]
  rfl
theorem line2 (a b : Str) : lineOf [a, b] = a ++ " " ++ b := by
  apply ext_tl
  unfold lineOf
  rw [tl_joinS, tl_append, tl_append]
  show tl a ++ (tl " " ++ tl b) = _
  rw [List.append_assoc]
section
variable {P : Program} {w : World} {K : PySem.W.Frag} {mg : Str → Option Value} {base : Heap}
/-- _law_dealing_rows(x) -/
def spLDR : Sp := fun vs H Q _ => ∃ (d : Addr) (qs : List Str) (f : Str → Option Str), vs = [.ref d] ∧ H d = some (.dK (okv qs f)) ∧ qs.length ≤ 60 ∧ (∀ a ∈ qs, a.length ≤ 100 ∧ ∀ b, f a = some b → b.length ≤ 100) ∧
  ∀ l H' ys, Same H H' → ys.Perm qs → PyProof.Rows.sortedS ys = true → H' l = some (lstO ((drows f ys).map lineOf)) → Q (.ref l) H'
theorem ok_ldr {f : Addr} {fd : FuncData} (F : Fun K "_law_dealing_rows" "_law_dealing_rows" sLdealingrows f fd) (B : Bl mg) : FnOk P w K mg base CX0 1 f fd ["_law_x"] spLDR := by
  refine F.ok scLdealingrows (fun vs H Q E h => ?_) (fun cdv A outer s H vs Q E hr h => ?_)
  · obtain ⟨d, qs, f, rfl, _⟩ := h
    rfl
  · obtain ⟨d, qs, f, rfl, hd, hl, hw, kq⟩ := h
    have hu := hu_of hr
    have esz : sizeLine = 16777216 := sizeLine_eq
    have es : (" " : Str).length = 1 := by decide +kernel
    refine ⟨_, pss_cons (ps_set (i := 1) scLdealingrows.nd rfl (Or.inl rfl) (pe_lst pa_nil))
      (pss_cons (ps_for PassesOwn.never rfl (pi_list (pe_callB cr_sortedS (by rfl) B.srt (by decide +kernel) (pa_cons (pe_callTy (call_listD rfl) (by rfl) B.lst (by decide +kernel) (pa_cons (pv 0) pa_nil)) pa_nil))) (pg_name (i := 2) scLdealingrows.nd rfl (Or.inl rfl))
        (pss_one (ps_if (pt_cmp (pc_isN (pe_dget hu (pv 0) (pv 2) (fun _ _ => rfl)))) (pss_one (ps_expr (pe_bm PySem.F.plainAttrs_list PySem.F.slot_list_append PySem.F.type_list_append mt_append (pv 1) (pa_cons (pv 2) pa_nil))))
          (pss_one (ps_if (pt_cmpR op_lt_str (pv 2) (pe_dget hu (pv 0) (pv 2) (fun _ _ => rfl)) (nomark _)) (pss_one (ps_expr (pe_bm PySem.F.plainAttrs_list PySem.F.slot_list_append PySem.F.type_list_append mt_append (pv 1) (pa_cons (pe_op op_add_str (pe_op op_add_str (pv 2) pe_str) (pe_dget hu (pv 0) (pv 2) (fun _ _ => rfl))) pa_nil)))) pss_nil)))))
      (pss_one (ps_ret (pv 1)))), ?_⟩
    refine ⟨by show 0 ≤ sizeLine; exact Nat.zero_le _, fun R hR => ?_⟩
    have s0 : Same H (upd H R (.lst [])) := Same.new hR
    have e0 : (upd H R (.lst [])) R = some (lstO []) := upd_same
    generalize upd H R (.lst []) = H0 at s0 e0
    refine ⟨_, rfl, d, _, rfl, .inl (s0 _ _ hd), fun p hp => ?_⟩
    have ek : ((okv qs f).map fun kv => kV kv.1) = qs.map V.str := by
      have e := congrArg (List.map kV) (okv_keys (qs := qs) (f := f))
      rw [List.map_map, List.map_map] at e
      exact e
    have s1 : Same H0 (upd H0 p (.lst ((okv qs f).map fun kv => kV kv.1))) := Same.new hp
    have ep : (upd H0 p (.lst ((okv qs f).map fun kv => kV kv.1))) p = some (.lst (qs.map V.str)) := by rw [upd_same, ek]
    generalize upd H0 p (.lst ((okv qs f).map fun kv => kV kv.1)) = H1 at s1 ep
    refine ⟨p, qs, rfl, SqL.of ep, by omega, fun ys q hys hso hq => ?_⟩
    have s2 : Same H1 (upd H1 q (.lst (ys.map V.str))) := Same.new hq
    have eq : (upd H1 q (.lst (ys.map V.str))) q = some (.lst (ys.map V.str)) := upd_same
    generalize upd H1 q (.lst (ys.map V.str)) = H2 at s2 eq
    have s02 := (s0.trans s1).trans s2
    have nqR : q ≠ R := fun z => by rw [z, s1 _ _ e0] at hq; cases hq
    have eR2 := s2 _ _ (s1 _ _ e0)
    have hyl := hys.length_eq
    refine ⟨q, rfl, ⟨_, SqL.of eq⟩, for_it (walk_list (xs := ys.map V.str)) (fun i σ H' => ∃ v2 : Option V, σ = [some (.ref d), some (.ref R), v2] ∧ Same H H' ∧ H' q = some (.lst (ys.map V.str)) ∧ H' R = some (lstO ((drows f (ys.take i)).map lineOf))) ⟨none, rfl, s02, eq, eR2⟩ (fun i σ H' _ ⟨_, _, _, z, _⟩ => SqL.of z) ?_ ?_⟩
    · rintro i x σ Hx H3 hi ⟨v2, rfl, s3, eq3, eR3⟩ ⟨rfl, hx⟩
      rw [List.length_map] at hi
      rw [List.getElem?_map] at hx
      cases ea : ys[i]? with
      | none => rw [ea] at hx; cases hx
      | some a =>
        rw [ea] at hx
        cases hx
        have haq : a ∈ qs := hys.mem_iff.mp (List.mem_of_getElem? ea)
        obtain ⟨hal, hbl⟩ := hw a haq
        have dg : DGet H3 d (.str a) (some (oV (f a))) := by rw [← okv_val (f := f) haq]; exact DGet.k (k := Sum.inr a) (s3 _ _ hd)
        have tk : (drows f (ys.take (i + 1))).map lineOf = (drows f (ys.take i)).map lineOf ++ (([a].filter (dkeep f)).map (drow f)).map lineOf := by
          unfold drows
          rw [take_snoc ea, List.filter_append, List.map_append, List.map_append]
        have hdl : ((drows f (ys.take i)).map lineOf).length < sizeLine := by
          rw [List.length_map]
          have := drows_len (f := f) (ys := ys.take i)
          rw [List.length_take] at this
          omega
        have add : ∀ z : Str, dkeep f a = true → lineOf (drow f a) = z → ∃ v2 : Option V, [some (V.ref d), some (.ref R), some (V.str a)] = [some (V.ref d), some (.ref R), v2] ∧ Same H (upd H3 R (.lst (((drows f (ys.take i)).map lineOf).map V.str ++ [.str z]))) ∧ (upd H3 R (.lst (((drows f (ys.take i)).map lineOf).map V.str ++ [.str z]))) q = some (.lst (ys.map V.str)) ∧ (upd H3 R (.lst (((drows f (ys.take i)).map lineOf).map V.str ++ [.str z]))) R = some (lstO ((drows f (ys.take (i + 1))).map lineOf)) := fun z hk hz => by
          refine ⟨_, rfl, same_put s3 hR, by rw [upd_ne nqR]; exact eq3, ?_⟩
          rw [upd_same, tk, List.filter_cons_of_pos hk, List.filter_nil, List.map_cons, List.map_nil, List.map_cons, List.map_nil, hz]
          unfold lstO
          rw [List.map_append]
          rfl
        have stay : dkeep f a = false → ∃ v2 : Option V, [some (V.ref d), some (.ref R), some (V.str a)] = [some (V.ref d), some (.ref R), v2] ∧ Same H H3 ∧ H3 q = some (.lst (ys.map V.str)) ∧ H3 R = some (lstO ((drows f (ys.take (i + 1))).map lineOf)) := fun hk => by
          refine ⟨_, rfl, s3, eq3, ?_⟩
          rw [tk, List.filter_cons_of_neg (by rw [hk]; decide), List.filter_nil, List.map_nil, List.map_nil, List.append_nil]
          exact eR3
        cases ef : f a with
        | none =>
          rw [ef] at dg
          refine ⟨_, rfl, _, rfl, d, _, rfl, dg, _, rfl, ?_⟩
          rw [show decide (oV none = V.non) = true from decide_eq_true rfl]
          refine iteT ⟨_, rfl, .inl ⟨rfl, _, SqL.of eR3⟩, _, rfl, R, _, .str a, rfl, rfl, eR3, by rw [List.length_map]; exact hdl, ?_⟩
          exact add a (by unfold dkeep; rw [ef]) (by unfold drow; rw [ef]; exact line1 a)
        | some b =>
          rw [ef] at dg
          have ek : dkeep f a = ltS a b := by unfold dkeep; rw [ef]
          have hb100 := hbl b ef
          refine ⟨_, rfl, _, rfl, d, _, rfl, dg, _, rfl, ?_⟩
          rw [show decide (oV (some b) = V.non) = false from decide_eq_false (by intro z; cases z)]
          refine iteF ⟨_, rfl, _, rfl, _, rfl, d, _, rfl, dg, _, _, rfl, rfl, _, rfl, ?_⟩
          cases c : ltS a b with
          | false =>
            have c' : decide (a.cps.toList < b.cps.toList) = false := c
            rw [c']
            exact iteF (stay (by rw [ek]; exact c))
          | true =>
            have c' : decide (a.cps.toList < b.cps.toList) = true := c
            rw [c']
            have l1 : (a ++ " ").length = a.length + 1 := by rw [len_app, es]
            refine iteT ⟨_, rfl, .inl ⟨rfl, _, SqL.of eR3⟩, _, rfl, _, _, rfl, rfl, by rw [es, esz]; omega, _, rfl, _, rfl, d, _, rfl, dg, _, _, rfl, rfl, by rw [l1, esz]; omega, R, _, .str (a ++ " " ++ b), rfl, rfl, eR3, by rw [List.length_map]; exact hdl, ?_⟩
            exact add _ (by rw [ek]; exact c) (by unfold drow; rw [ef]; exact line2 a b)
    · rintro σ H3 ⟨v2, rfl, s3, eq3, eR3⟩
      rw [List.length_map, List.take_of_length_le (Nat.le_refl _)] at eR3
      exact ⟨_, rfl, kq R H3 ys s3 hys hso eR3⟩
end
end Qp
namespace Qp
open PySem L2 TL
/-- reading rows has one outcome -/
theorem rdl_ex {ns : List Str} {ws : Str → List Str} : ∀ (rows : List (List Str)) (i : Nat) (prev : Option Str) (qs : List Str) (g : Str → Option Str),
    (∃ n : Int, ∀ (K0 : Int → Prop) (G : List Str → (Str → Option Str) → Prop), K0 n → RDl ns ws K0 G i prev qs g rows) ∨ ∃ qs' g', ∀ (K0 : Int → Prop) (G : List Str → (Str → Option Str) → Prop), G qs' g' → RDl ns ws K0 G i prev qs g rows
  | [], i, prev, qs, g => by
    by_cases c : qs.length < ns.length
    · refine .inl ⟨(i : Int) + 1, fun K0 G h => ?_⟩
      show if qs.length < ns.length then K0 ((i : Int) + 1) else G qs g
      rw [if_pos c]
      exact h
    · refine .inr ⟨qs, g, fun K0 G h => ?_⟩
      show if qs.length < ns.length then K0 ((i : Int) + 1) else G qs g
      rw [if_neg c]
      exact h
  | row :: rest, i, prev, qs, g => by
    by_cases c : okRow ns ws prev qs row = true
    · rcases rdl_ex rest (i + 1) (some (row.headD "")) (stQ qs row) (stG g row) with ⟨n, h⟩ | ⟨qs', g', h⟩
      · refine .inl ⟨n, fun K0 G k => ?_⟩
        show if okRow ns ws prev qs row = true then RDl ns ws K0 G (i + 1) (some (row.headD "")) (stQ qs row) (stG g row) rest else K0 (1 + (i : Int))
        rw [if_pos c]
        exact h K0 G k
      · refine .inr ⟨qs', g', fun K0 G k => ?_⟩
        show if okRow ns ws prev qs row = true then RDl ns ws K0 G (i + 1) (some (row.headD "")) (stQ qs row) (stG g row) rest else K0 (1 + (i : Int))
        rw [if_pos c]
        exact h K0 G k
    · refine .inl ⟨1 + (i : Int), fun K0 G k => ?_⟩
      show if okRow ns ws prev qs row = true then RDl ns ws K0 G (i + 1) (some (row.headD "")) (stQ qs row) (stG g row) rest else K0 (1 + (i : Int))
      rw [if_neg c]
      exact k
section
variable {P : Program} {w : World} {K : PySem.W.Frag} {mg : Str → Option Value} {base : Heap}
/-- _law_read(group, text) -/
def spRdL (K : PySem.W.Frag) (C : Addr) : Sp := fun vs H Q _ => ∃ (p : Addr) (x : V) (ns : List Str) (ws : Str → List Str), vs = [.ref p, x] ∧ GroupAt C H p ns ws ∧ Nm ns ∧ (∀ a ∈ ns, GRow ns a (ws a)) ∧
  (((NotS K H x ∨ ∃ k, IsK H x k ∧ ∀ z, x ≠ .str z) ∧ ∀ H', Same H H' → Q (.int 0) H') ∨ ∃ z, x = .str z ∧ ((z ≠ "" ∧ endB z = false ∧ ∀ H', Same H H' → Q (.int 0) H') ∨ ((z = "" ∨ endB z = true) ∧ z.length ≤ 1000000 ∧
    RDl ns ws (fun n => ∀ H', Same H H' → Q (.int n) H') (fun qs g => ∀ d H', Same H H' → H d = none → H' d = some (.dK (okv qs g)) → Q (.ref d) H') 0 none [] f0 (parse z))))
theorem ok_rdl {f C CT fT : Addr} {fd : FuncData} (F : Fun K "_law_read" "_law_read" sLread f fd) (B : Bl mg) (bl : PySem.QX.OwnTxt P K mg "NoText" "line" CT fT) (cR : CF P w K mg base (L2.CX P w) 4 "read_dealing" ["group", "text"] (spRD K C CT)) : FnOk P w K mg base CX0 5 f fd ["_law_group_here", "_law_text"] (spRdL K C) := by
  refine F.ok scLread (fun vs H Q E h => ?_) (fun cdv A outer s H vs Q E hr h => ?_)
  · obtain ⟨p, x, ns, ws, rfl, _⟩ := h
    rfl
  · obtain ⟨p, x, ns, ws, rfl, hG, nn, g1, h⟩ := h
    refine ⟨_, pss_cons (ps_set (i := 2) scLread.nd rfl (Or.inl rfl) pe_non)
      (pss_cons (ps_try_as (i := 3) (tb := fun W => tAsg (tCallS (spRD K C CT) (WE W) (tCons (tVar 0) (tCons (tVar 1) tNil))) (gName 2))
          (ts := fun a cls d => tAsg (tByOwn CT "line" a cls d (tVar 3)) (gName 2)) (Wout := fun _ _ _ _ => False) rfl rfl scLread.nd rfl rfl ⟨rfl, by decide, Or.inl bl.gC⟩ takes0
          (fun W pn xe tk _ => pss_one (ps_set (i := 2) scLread.nd rfl (Or.inl rfl) (pe_cfS cR hr (fun σ => passAt tk σ) (pa_cons (pv 0) (pa_cons (pv 1) pa_nil)))))
          (fun a oe cls d pn hz hf => pss_one (ps_set (i := 2) scLread.nd rfl (Or.inl rfl) (by exact (pe_byOwn bl hz hf (pv 3))))))
      (pss_one (ps_ret (pv 2)))), ?_⟩
    refine ⟨_, rfl, _, rfl, p, x, ns, ws, rfl, hG, nn, g1, ?_⟩
    rcases h with ⟨hx, kq⟩ | ⟨z, rfl, h⟩
    · refine .inl ⟨hx, fun d H1 s1 e1 => ?_⟩
      refine ⟨true, bl.te, fun _ a0 _ => ?_, fun q => Bool.noConfusion q⟩
      exact ⟨_, rfl, rfl, rfl, d, _, rfl, e1, _, rfl, kq _ s1⟩
    · refine .inr ⟨z, rfl, ?_⟩
      rcases h with ⟨h1, h2, kq⟩ | ⟨h1, h2, h3⟩
      · refine .inl ⟨h1, h2, fun d H1 s1 e1 => ?_⟩
        refine ⟨true, bl.te, fun _ a0 _ => ?_, fun q => Bool.noConfusion q⟩
        exact ⟨_, rfl, rfl, rfl, d, _, rfl, e1, _, rfl, kq _ s1⟩
      · refine .inr ⟨h1, h2, RDl.imp (fun m kq d H1 s1 e1 => ?_) (fun qs g kq d H1 s1 e1 e2 => ?_) h3⟩
        · refine ⟨true, bl.te, fun _ a0 _ => ?_, fun q => Bool.noConfusion q⟩
          exact ⟨_, rfl, rfl, rfl, d, _, rfl, e1, _, rfl, kq _ s1⟩
        · exact ⟨_, rfl, kq d H1 s1 e1 e2⟩
end
end Qp
namespace Qp
open PySem L2 TL
theorem ltS_empty {a : Str} (h : nameS a = true) : ltS "" a = true := by
  have ta : tl a ≠ [] := fun q => by
    unfold nameS at h
    simp only [Bool.and_eq_true, decide_eq_true_eq] at h
    have l := h.1.1
    rw [len_tl, q] at l
    exact absurd l (by decide)
  unfold ltS
  refine decide_eq_true ?_
  show (tl "") < (tl a)
  rw [tl_em]
  cases e : tl a with
  | nil => exact absurd e ta
  | cons b t => exact List.nil_lt_cons b t
theorem setO_twice (g : Str → Option Str) (a : Str) (o u : Option Str) : setO (setO g a o) a u = setO g a u := by
  funext z
  unfold setO
  by_cases e : z = a
  · rw [if_pos e, if_pos e]
  · rw [if_neg e, if_neg e, if_neg e]
section
variable {P : Program} {w : World} {K : PySem.W.Frag} {mg : Str → Option Value} {base : Heap}
abbrev nDu : List Str := ["_law_mutual_here", "_law_rows", "_law_x", "_law_last", "_law_k", "_law_parts"]
theorem du3 {f : Addr} {cdv : Value} {A : Around} {outer : List Env} {s : Shared} {H0 : Hp} {E0' : XK} (B : Bl mg) (hr : Room 0 (A.deeper (PyProof.Rows.envOfC "_law_due" (defScope sLdue) s.heap.objs.size f cdv))) :
    ∃ t, PSs (cxOf CX0 P w K mg base nDu "_law_due" (defScope sLdue) f cdv A outer s H0 E0').nox ((forB (defBody sLdue) 2).drop 2) t ∧
      ∀ (Dn : Ends) (H : Hp) (v3 : Option V) (M R X p : Addr) (k : Int) (qs : List Str) (g : Str → Option Str) (row ns : List Str) (ws : Str → List Str) (a : Str) (rt : List Str), row = a :: rt → rt.length ≤ 1 → RowsG H M ns (fun z => lstO (opn ws z)) → (∀ a ∈ ns, GRow ns a (ws a)) → H X = some (.dK (okv qs g)) → H p = some (lstO row) → X ≠ p → X ≠ M →
        qs.length ≤ 100 → a ∈ ns → a ∉ qs → (∀ b, rt = [b] → ∀ H', SameBut X H H' → (rowK ns ws [a, b] = false ∨ b ∈ qs) → Dn.rt (.int (k + 1)) H') →
        (∀ H', SameBut X H H' → H' X = some (.dK (okv (stQ qs row) (stG g row))) → (rt = [] ∨ ∃ b, rt = [b] ∧ b ∈ opn ws a ∧ b ∉ qs ∧ ltS a b = true) → Dn.nx [some (.ref M), some (.ref R), some (.ref X), some (.str a), some (.int k), some (.ref p)] H') →
        t Dn [some (.ref M), some (.ref R), some (.ref X), v3, some (.int k), some (.ref p)] H := by
  have hu := hu_of hr
  have esz : sizeLine = 16777216 := sizeLine_eq
  refine ⟨_, pss_cons (ps_set (i := 3) scLdue.nd rfl (Or.inl rfl) (pe_ix ix_list (pv 5) pe_int (fun _ _ => rfl)))
    (pss_cons (ps_dput hu (pv 2) (pv 3) pe_non rfl)
    (pss_one (ps_if (pt_cmpR op_eq (pe_callB call_len_seq (by rfl) B.len PySem.boot_len (pa_cons (pv 5) pa_nil)) pe_int (nomark _))
      (pss_cons (ps_if (PW.pt (pw_or (pt_cmpR (op_notInS hr.units) (pe_ix ix_list (pv 5) pe_int (fun _ _ => rfl)) (pe_dget hu (pv 0) (pv 3) (fun _ _ => rfl)) (by rfl))
          (pw_or (pt_cmp (pc_din hu (pe_ix ix_list (pv 5) pe_int (fun _ _ => rfl)) (pv 2))) (pw_or1 (pt_cmpR op_lt_str (pe_ix ix_list (pv 5) pe_int (fun _ _ => rfl)) (pv 3) (nomark _)))))) (pss_one (ps_ret (pe_op op_add (pv 4) pe_int))) pss_nil)
      (pss_cons (ps_dput hu (pv 2) (pv 3) (pe_ix ix_list (pv 5) pe_int (fun _ _ => rfl)) rfl)
      (pss_one (ps_dput hu (pv 2) (pe_ix ix_list (pv 5) pe_int (fun _ _ => rfl)) (pv 3) rfl)))) pss_nil))), ?_⟩
  rintro Dn H v3 M R X p k qs g row ns ws a rt rfl hrl hM g1 hX hp nXp nXM hql ha haq hb kq
  obtain ⟨ad, eM, rM⟩ := hM
  refine ⟨_, rfl, p, _, _, _, rfl, rfl, SqL.of hp, at0r, ?_⟩
  refine ⟨_, rfl, _, rfl, X, _, rfl, DPut.k (k := Sum.inr a) hX (by rw [okv_len]; omega), ?_⟩
  have p1 : putK (okv qs g) (Sum.inr a) V.non = okv (qs ++ [a]) (setO g a none) := by
    have e := okv_snoc (f := setO g a none) haq
    have e2 : setO g a none a = none := if_pos rfl
    rw [e2] at e
    have e3 : okv qs g = okv qs (setO g a none) := okv_congr fun z hz => (if_neg (fun (q : z = a) => haq (q ▸ hz))).symm
    rw [e3]
    exact e
  rw [p1]
  have s1 : SameBut X H (upd H X (.dK (okv (qs ++ [a]) (setO g a none)))) := SameBut.set
  have e1 : (upd H X (.dK (okv (qs ++ [a]) (setO g a none)))) X = some (.dK (okv (qs ++ [a]) (setO g a none))) := upd_same
  generalize upd H X (.dK (okv (qs ++ [a]) (setO g a none))) = H1 at s1 e1
  have hp1 := s1 _ _ (Ne.symm nXp) hp
  have eM1 := s1 _ _ (Ne.symm nXM) eM
  refine ⟨_, rfl, p, _, rfl, .inl (SqL.of hp1), rfl, _, rfl, ?_⟩
  match rt, hrl, hb, kq, hp1 with
  | [], _, hb, kq, hp1 => exact iteF (kq H1 s1 e1 (.inl rfl))
  | [b], _, hb, kq, hp1 =>
    refine iteT ?_
    have hMa : H1 (ad a) = some (lstO (opn ws a)) := by
      by_cases c : ad a = X
      · have := (rM a ha).1
        rw [c, hX] at this
        cases this
      · exact s1 _ _ c (rM a ha).1
    refine ⟨_, rfl, p, _, _, _, rfl, rfl, SqL.of hp1, at1r, _, rfl, _, rfl, M, _, rfl, by rw [← valV_rows (ad := ad) ha]; exact DGet.k (k := Sum.inr a) eM1, ad a, opn ws a, rfl, .inl (SqL.of hMa), .flat rfl, _, rfl, ?_⟩
    rw [if_pos rfl, inS_str]
    have bad := hb b rfl H1 s1
    by_cases b1 : b ∈ opn ws a
    · rw [decide_eq_true b1]
      have nba : b ≠ a := opn_ne g1 ha b1
      refine iteF ⟨_, rfl, p, _, _, _, rfl, rfl, SqL.of hp1, at1r, _, rfl, X, _, rfl, DGet.k (k := Sum.inr b) e1, _, rfl, ?_⟩
      rw [okv_some]
      by_cases b2 : b ∈ qs ++ [a]
      · rw [decide_eq_true b2]
        refine iteT (iteT ⟨_, rfl, _, _, rfl, rfl, bad ?_⟩)
        rcases List.mem_append.mp b2 with m | m
        · exact .inr m
        · exact absurd (List.mem_singleton.mp m) nba
      · rw [decide_eq_false b2]
        refine iteF ⟨_, rfl, p, _, _, _, rfl, rfl, SqL.of hp1, at1r, _, rfl, _, _, rfl, rfl, _, rfl, ?_⟩
        have ecmp : decide (b.cps.toList < a.cps.toList) = ltS b a := rfl
        rw [ecmp]
        cases b3 : ltS b a with
        | true =>
          refine iteT ⟨_, rfl, _, _, rfl, rfl, bad (.inl ?_)⟩
          rw [rowK2, ltS_asymm b3, Bool.and_false]
        | false =>
          have hbq : b ∉ qs := fun m => b2 (List.mem_append_left _ m)
          refine iteF ?_
          refine ⟨_, rfl, p, _, _, _, rfl, rfl, SqL.of hp1, at1r, _, rfl, _, rfl, X, _, rfl, DPut.k (k := Sum.inr a) e1 (by rw [okv_len, List.length_append]; show _ + 1 < _; omega), ?_⟩
          have p2 : putK (okv (qs ++ [a]) (setO g a none)) (Sum.inr a) (V.str b) = okv (qs ++ [a]) (setO g a (some b)) := by
            have e := okv_put (f := setO g a none) (qs := qs ++ [a]) (a := a) (o := some b) (List.mem_append_right _ List.mem_cons_self)
            rw [setO_twice] at e
            exact e
          rw [p2]
          have s2 : SameBut X H1 (upd H1 X (.dK (okv (qs ++ [a]) (setO g a (some b))))) := SameBut.set
          have e2 : (upd H1 X (.dK (okv (qs ++ [a]) (setO g a (some b))))) X = some (.dK (okv (qs ++ [a]) (setO g a (some b)))) := upd_same
          generalize upd H1 X (.dK (okv (qs ++ [a]) (setO g a (some b)))) = H2 at s2 e2
          have hp2 := s2 _ _ (Ne.symm nXp) hp1
          refine ⟨_, rfl, _, rfl, _, rfl, p, _, _, _, rfl, rfl, SqL.of hp2, at1r, X, _, rfl, DPut.k (k := Sum.inr b) e2 (by rw [okv_len, List.length_append]; show _ + 1 < _; omega), ?_⟩
          have p3 : putK (okv (qs ++ [a]) (setO g a (some b))) (Sum.inr b) (V.str a) = okv (qs ++ [a] ++ [b]) (setO (setO g a (some b)) b (some a)) := by
            have e := okv_snoc (f := setO (setO g a (some b)) b (some a)) b2
            have e2 : setO (setO g a (some b)) b (some a) b = some a := if_pos rfl
            rw [e2] at e
            have e3 : okv (qs ++ [a]) (setO g a (some b)) = okv (qs ++ [a]) (setO (setO g a (some b)) b (some a)) := okv_congr fun z hz => (if_neg (fun (q : z = b) => b2 (q ▸ hz))).symm
            rw [e3]
            exact e
          rw [p3]
          refine kq _ (fun y o hy e => ?_) upd_same (.inr ⟨b, rfl, b1, hbq, ltS_or b3 nba⟩)
          rw [upd_ne hy]
          exact s2 _ _ hy (s1 _ _ hy e)
    · rw [decide_eq_false b1]
      refine iteT (iteT ⟨_, rfl, _, _, rfl, rfl, bad (.inl ?_)⟩)
      rw [rowK2, decide_eq_false b1, Bool.and_false, Bool.false_and]
/-- _law_due(mutual, rows) -/
def spDue : Sp := fun vs H Q _ => ∃ (M R : Addr) (ls ns : List Str) (ws : Str → List Str), vs = [.ref M, .ref R] ∧ RowsG H M ns (fun z => lstO (opn ws z)) ∧ Nm ns ∧ (∀ a ∈ ns, GRow ns a (ws a)) ∧ H R = some (lstO ls) ∧ ls.length ≤ 100001 ∧ (∀ l ∈ ls, l.length ≤ 100000) ∧
  RDl ns ws (fun n => ∀ H', Same H H' → Q (.int n) H') (fun qs g => ∀ d H', Same H H' → H d = none → H' d = some (.dK (okv qs g)) → Q (.ref d) H') 0 none [] f0 (ls.map fun l => Txt.split l " ")
theorem ok_due {f : Addr} {fd : FuncData} (F : Fun K "_law_due" "_law_due" sLdue f fd) (B : Bl mg) : FnOk P w K mg base CX0 1 f fd ["_law_mutual_here", "_law_rows"] spDue := by
  refine F.ok scLdue (fun vs H Q E h => ?_) (fun cdv A outer s H vs Q E hr h => ?_)
  · obtain ⟨M, R, ls, ns, ws, rfl, _⟩ := h
    rfl
  · obtain ⟨M, R, ls, ns, ws, rfl, hM, nn, g1, hR, hln, hll, hO⟩ := h
    obtain ⟨t3, h3, q3⟩ := du3 (P := P) (w := w) (K := K) (mg := mg) (base := base) (outer := outer) (H0 := H) (E0' := E) B hr
    have hu := hu_of hr
    have hnl := nn.len
    have esz : sizeLine = 16777216 := sizeLine_eq
    refine ⟨_, pss_cons (ps_set (i := 2) scLdue.nd rfl (Or.inl rfl) pe_dnewK)
      (pss_cons (ps_set (i := 3) scLdue.nd rfl (Or.inl rfl) pe_str)
      (pss_cons (ps_for PassesOwn.never rfl (pi_range1 (by rfl) B.rng (pa_cons (pe_callB call_len_seq (by rfl) B.len PySem.boot_len (pa_cons (pv 1) pa_nil)) pa_nil)) (pg_name (i := 4) scLdue.nd rfl (Or.inl rfl))
        (pss_cons (ps_set (i := 5) scLdue.nd rfl (Or.inl rfl) (pe_split (pe_ix ix_list (pv 1) (pv 4) (fun _ _ => rfl)) pe_str))
        (pss_cons (ps_if (PW.pt (pw_or (pt_cmpR op_gt (pe_callB call_len_seq (by rfl) B.len PySem.boot_len (pa_cons (pv 5) pa_nil)) pe_int (nomark _))
            (pw_or (pt_cmp (pc_dnotin hu (pe_ix ix_list (pv 5) pe_int (fun _ _ => rfl)) (pv 0))) (pw_or (pt_cmp (pc_din hu (pe_ix ix_list (pv 5) pe_int (fun _ _ => rfl)) (pv 2))) (pw_or1 (pt_cmpR op_le_str (pe_ix ix_list (pv 5) pe_int (fun _ _ => rfl)) (pv 3) (nomark _))))))) (pss_one (ps_ret (pe_op op_add (pv 4) pe_int))) pss_nil)
        h3)))
      (pss_cons (ps_if (pt_cmpR op_lt (pe_callB call_lenD (by rfl) B.len PySem.boot_len (pa_cons (pv 2) pa_nil)) (pe_callB call_lenD (by rfl) B.len PySem.boot_len (pa_cons (pv 0) pa_nil)) (nomark _)) (pss_one (ps_ret (pe_op op_add (pe_callB call_len_seq (by rfl) B.len PySem.boot_len (pa_cons (pv 1) pa_nil)) pe_int))) pss_nil)
      (pss_one (ps_ret (pv 2)))))), ?_⟩
    refine fun X hX => ?_
    have s1 : Same H (upd H X (.dK [])) := Same.new hX
    have eX1 : (upd H X (.dK [])) X = some (.dK (okv [] f0)) := upd_same
    generalize upd H X (.dK []) = H1 at s1 eX1
    obtain ⟨ad, eM, rM⟩ := id hM
    have nXM : X ≠ M := Ne.symm (ne_of_none eM hX)
    have nXR : X ≠ R := Ne.symm (ne_of_none hR hX)
    refine ⟨_, rfl, R, _, rfl, .inl (SqL.of (s1 _ _ hR)), _, rfl, by rw [List.length_map]; omega, by rw [List.length_map]; omega, ?_⟩
    rw [List.length_map]
    refine for_it (walk_range (lo := 0) (n := ((ls.length : Nat) : Int).toNat)) (fun i σ H' => ∃ (v4 v5 : Option V) (last : Str) (qs : List Str) (g : Str → Option Str), σ = [some (.ref M), some (.ref R), some (.ref X), some (.str last), v4, v5] ∧ Same H H' ∧ H' X = some (.dK (okv qs g)) ∧ qs.Nodup ∧ (∀ w ∈ qs, w ∈ ns) ∧
        ((prv (ls.map fun l => Txt.split l " ") i = none ∧ last = "") ∨ (prv (ls.map fun l => Txt.split l " ") i = some last ∧ last ∈ qs)) ∧
        RDl ns ws (fun n => ∀ H', Same H H' → Q (.int n) H') (fun qs g => ∀ d H', Same H H' → H d = none → H' d = some (.dK (okv qs g)) → Q (.ref d) H') i (prv (ls.map fun l => Txt.split l " ") i) qs g ((ls.map fun l => Txt.split l " ").drop i))
      ⟨none, none, "", [], f0, rfl, s1, eX1, List.nodup_nil, (fun _ h => by cases h), .inl ⟨rfl, rfl⟩, hO⟩ (fun _ _ _ _ _ => True.intro) ?_ ?_
    · rintro i y σ Hy H2 hi ⟨v4, v5, last, qs, g, rfl, s2, eX, nd, sub, hlast, hO⟩ ⟨rfl, hy⟩
      rw [Int.toNat_natCast] at hi
      obtain rfl : y = V.int (0 + (i : Int)) := hy.trans rfl
      have e0 : (0 : Int) + (i : Int) = (i : Int) := by omega
      rw [e0]
      obtain ⟨l, el⟩ : ∃ l, ls[i]? = some l := ⟨_, List.getElem?_eq_getElem hi⟩
      have al : atI (ls.map V.str) (i : Int) = some (.str l) := atI_nat (by rw [List.getElem?_map, el]; rfl)
      have hl := hll l (List.mem_of_getElem? el)
      have er : (ls.map fun l => Txt.split l " ")[i]? = some (Txt.split l " ") := by rw [List.getElem?_map, el]; rfl
      have hrow : Txt.split l " " ≠ [] := split_ne l " "
      generalize (ls.map fun l => Txt.split l " ") = rows at hlast hO er
      have hdrop : rows.drop i = Txt.split l " " :: rows.drop (i + 1) := by
        have h1 := List.getElem?_eq_some_iff.mp er
        rw [List.drop_eq_getElem_cons h1.1, h1.2]
      rw [hdrop] at hO
      refine ⟨_, rfl, _, rfl, R, _, _, _, rfl, rfl, SqL.of (s2 _ _ hR), al, ⟨_, rfl⟩, l, " ", rfl, rfl, by decide +kernel, by rw [esz]; omega, fun p hp => ?_⟩
      have s3 : Same H2 (upd H2 p (.lst ((Txt.split l " ").map V.str))) := Same.new hp
      have ep : (upd H2 p (.lst ((Txt.split l " ").map V.str))) p = some (lstO (Txt.split l " ")) := upd_same
      generalize upd H2 p (.lst ((Txt.split l " ").map V.str)) = H3 at s3 ep
      have nXp : X ≠ p := fun z => by rw [z, hp] at eX; cases eX
      have eX3 := s3 _ _ eX
      have s03 := s2.trans s3
      have eM3 := s03 _ _ eM
      generalize Txt.split l " " = row at er hrow hO ep
      have hO : if okRow ns ws (prv rows i) qs row = true then _ else _ := hO
      have bad : okRow ns ws (prv rows i) qs row = false → ∀ H', Same H H' → Q (.int ((i : Int) + 1)) H' := fun e H' s' => by
        rw [e, if_neg Bool.false_ne_true] at hO
        have q := hO H' s'
        rw [show (1 : Int) + (i : Int) = (i : Int) + 1 by omega] at q
        exact q
      obtain ⟨a, rt, rfl⟩ : ∃ a rt, row = a :: rt := by
        cases row with
        | nil => exact absurd rfl hrow
        | cons a t => exact ⟨a, t, rfl⟩
      have hql : qs.length ≤ 16 := by
        have := nd.length_le_of_subset sub
        omega
      refine ⟨_, rfl, p, _, rfl, .inl (SqL.of ep), _, _, rfl, rfl, _, rfl, ?_⟩
      rw [List.length_map]
      by_cases c0 : (a :: rt).length ≤ 2
      · have ed : decide ((2 : Int) < ((a :: rt).length : Int)) = false := decide_eq_false (by omega)
        rw [ed]
        have hrl : rt.length ≤ 1 := by
          have : (a :: rt).length = rt.length + 1 := rfl
          omega
        refine iteF ⟨_, rfl, p, _, _, _, rfl, rfl, SqL.of ep, at0r, _, rfl, M, _, rfl, DGet.k (k := Sum.inr a) eM3, _, rfl, ?_⟩
        rw [valV_rows_some]
        by_cases c1 : a ∈ ns
        · rw [decide_eq_true c1]
          refine iteF ⟨_, rfl, p, _, _, _, rfl, rfl, SqL.of ep, at0r, _, rfl, X, _, rfl, DGet.k (k := Sum.inr a) eX3, _, rfl, ?_⟩
          rw [okv_some]
          by_cases c2 : a ∈ qs
          · rw [decide_eq_true c2]
            refine iteT (iteT ⟨_, rfl, _, _, rfl, rfl, bad ?_ _ s03⟩)
            unfold okRow
            rw [List.any_cons, decide_eq_true c2]
            simp
          · rw [decide_eq_false c2]
            refine iteF ⟨_, rfl, p, _, _, _, rfl, rfl, SqL.of ep, at0r, _, rfl, _, _, rfl, rfl, _, rfl, ?_⟩
            have ecmp : decide (last.cps.toList < a.cps.toList) = ltS last a := rfl
            rw [ecmp]
            cases c3 : ltS last a with
            | false =>
              refine iteT ⟨_, rfl, _, _, rfl, rfl, bad ?_ _ s03⟩
              rcases hlast with ⟨_, e⟩ | ⟨e1, e2⟩
              · rw [e, ltS_empty (nn.nm a c1)] at c3
                cases c3
              · have n : last ≠ a := fun e => c2 (e ▸ e2)
                have q : prB (prv rows i) (a :: rt) = false := by
                  rw [e1]
                  show (!ltS a last) = false
                  rw [ltS_or c3 n]
                  rfl
                unfold okRow
                rw [q, Bool.and_false]
            | true =>
              have hp3 : prB (prv rows i) (a :: rt) = true := by
                rcases hlast with ⟨e, _⟩ | ⟨e1, e2⟩
                · rw [e]; rfl
                · rw [e1]
                  show (!ltS a last) = true
                  rw [ltS_asymm c3]
                  rfl
              refine iteF ?_
              refine q3 _ H3 _ M R X p (i : Int) qs g (a :: rt) ns ws a rt rfl hrl ⟨ad, eM3, fun z hz => ⟨s03 _ _ (rM z hz).1, (rM z hz).2⟩⟩ g1 eX3 ep nXp nXM (by omega) c1 c2 (fun b hb H' sb h => ?_) (fun H' sb eX' h => ?_)
              · subst hb
                refine bad ?_ H' (fun y o e => sb _ _ (ne_of_none e hX) (s03 _ _ e))
                rcases h with h | h
                · unfold okRow
                  rw [h, Bool.false_and, Bool.false_and]
                · unfold okRow
                  rw [List.any_cons, List.any_cons, decide_eq_true h]
                  simp
              · have s0' : Same H H' := fun y o e => sb _ _ (ne_of_none e hX) (s03 _ _ e)
                have ok : okRow ns ws (prv rows i) qs (a :: rt) = true := by
                  unfold okRow
                  rw [hp3, Bool.and_true]
                  rcases h with rfl | ⟨b, rfl, b1, b2, b3⟩
                  · rw [List.any_cons, List.any_nil, decide_eq_false c2]
                    show (decide (a ∈ ns) && true) = true
                    rw [decide_eq_true c1]
                    rfl
                  · rw [List.any_cons, List.any_cons, List.any_nil, decide_eq_false c2, decide_eq_false b2, rowK2, decide_eq_true c1, decide_eq_true b1, decide_eq_true (opn_sym g1 c1 b1).1, b3]
                    rfl
                rw [ok, if_pos rfl] at hO
                have ep1 : prv rows (i + 1) = some a := by
                  unfold prv
                  rw [if_neg (Nat.succ_ne_zero i), Nat.add_sub_cancel, er]
                  rfl
                refine ⟨_, _, a, stQ qs (a :: rt), stG g (a :: rt), rfl, s0', eX', ?_, ?_, .inr ⟨ep1, ?_⟩, by rw [ep1]; exact hO⟩
                · rcases h with rfl | ⟨b, rfl, b1, b2, b3⟩
                  · exact List.nodup_append.mpr ⟨nd, List.nodup_cons.mpr ⟨List.not_mem_nil, List.nodup_nil⟩, fun x hx y hy exy => by
                      rw [List.mem_singleton.mp hy] at exy
                      exact c2 (exy ▸ hx)⟩
                  · show (qs ++ [a] ++ [b]).Nodup
                    rw [List.append_assoc]
                    refine List.nodup_append.mpr ⟨nd, List.nodup_cons.mpr ⟨fun m => ?_, List.nodup_cons.mpr ⟨List.not_mem_nil, List.nodup_nil⟩⟩, fun x hx y hy exy => ?_⟩
                    · exact opn_ne g1 c1 b1 (List.mem_singleton.mp m).symm
                    · rw [exy] at hx
                      rcases List.mem_cons.mp hy with q | q
                      · exact c2 (q ▸ hx)
                      · exact b2 ((List.mem_singleton.mp q) ▸ hx)
                · rcases h with rfl | ⟨b, rfl, b1, b2, b3⟩
                  · intro w hw
                    rcases List.mem_append.mp hw with hw | hw
                    · exact sub w hw
                    · rw [List.mem_singleton.mp hw]; exact c1
                  · intro w hw
                    rcases List.mem_append.mp hw with hw | hw
                    · rcases List.mem_append.mp hw with hw | hw
                      · exact sub w hw
                      · rw [List.mem_singleton.mp hw]; exact c1
                    · rw [List.mem_singleton.mp hw]; exact (opn_sym g1 c1 b1).1
                · rcases h with rfl | ⟨b, rfl, b1, b2, b3⟩
                  · exact List.mem_append_right _ List.mem_cons_self
                  · exact List.mem_append_left _ (List.mem_append_right _ List.mem_cons_self)
        · rw [decide_eq_false c1]
          refine iteT (iteT ⟨_, rfl, _, _, rfl, rfl, bad ?_ _ s03⟩)
          have q : rowK ns ws (a :: rt) = false := by
            cases e : rowK ns ws (a :: rt) with
            | false => rfl
            | true =>
              rcases rowK_len e with ⟨b, e1, e2⟩ | ⟨b, c, e1, e2, _⟩
              · cases e1
                exact absurd e2 c1
              · cases e1
                exact absurd e2 c1
          unfold okRow
          rw [q, Bool.false_and, Bool.false_and]
      · have ed : decide ((2 : Int) < ((a :: rt).length : Int)) = true := decide_eq_true (by omega)
        rw [ed]
        refine iteT (iteT ⟨_, rfl, _, _, rfl, rfl, bad ?_ _ s03⟩)
        have q : rowK ns ws (a :: rt) = false := by
          cases e : rowK ns ws (a :: rt) with
          | false => rfl
          | true =>
            rcases rowK_len e with ⟨b, e1, e2⟩ | ⟨b, c, e1, e2, _⟩
            · rw [e1] at c0
              exact absurd (by show 1 ≤ 2; decide) c0
            · rw [e1] at c0
              exact absurd (by show 2 ≤ 2; decide) c0
        unfold okRow
        rw [q, Bool.false_and, Bool.false_and]
    · rintro σ H2 ⟨v4, v5, last, qs, g, rfl, s2, eX, nd, sub, hlast, hO⟩
      rw [Int.toNat_natCast] at hO
      have hdl : (ls.map fun l => Txt.split l " ").drop ls.length = [] := by
        have : ls.length = (ls.map fun l => Txt.split l " ").length := (List.length_map _).symm
        rw [this]
        exact List.drop_length
      rw [hdl] at hO
      have hO : if qs.length < ns.length then _ else _ := hO
      refine ⟨_, rfl, X, _, rfl, eX, _, rfl, M, _, rfl, s2 _ _ eM, _, _, rfl, rfl, _, rfl, ?_⟩
      rw [okv_len, List.length_map]
      by_cases c1 : qs.length < ns.length
      · rw [if_pos c1] at hO
        rw [decide_eq_true (by omega : (qs.length : Int) < (ns.length : Int))]
        refine iteT ⟨_, rfl, R, _, rfl, .inl (SqL.of (s2 _ _ hR)), _, _, rfl, rfl, ?_⟩
        rw [List.length_map]
        exact hO H2 s2
      · rw [if_neg c1] at hO
        rw [decide_eq_false (by omega : ¬ (qs.length : Int) < (ns.length : Int))]
        exact iteF ⟨_, rfl, hO X H2 s2 hX eX⟩
end
end Qp
namespace Qp
open PySem L2 TL
def ifB (b : List Stmt) (i : Nat) : List Stmt := match b.getD i (.Pass ⟨0, 0, 0, 0⟩) with
  | .If _ b _ _ => b
  | _ => []
theorem mem_ins {α : Type} {xs : List α} {i : Nat} {y x : α} (h : x ∈ xs.take i ++ [y] ++ xs.drop i) : x = y ∨ x ∈ xs := by
  rcases List.mem_append.mp h with h | h
  · rcases List.mem_append.mp h with h | h
    · exact .inr (List.mem_of_mem_take h)
    · exact .inl (by simpa using h)
  · exact .inr (List.mem_of_mem_drop h)
theorem len_ins {α : Type} {xs : List α} {i : Nat} {y : α} : (xs.take i ++ [y] ++ xs.drop i).length = xs.length + 1 := by
  rw [List.length_append, List.length_append, List.length_take, List.length_drop]
  show min i xs.length + 1 + _ = _
  omega
theorem lst_ins2 {xs : List Str} {i : Nat} {y : Str} : HO.lst ((xs.map V.str).take i ++ [V.str y] ++ (xs.map V.str).drop i) = lstO (xs.take i ++ [y] ++ xs.drop i) := by
  unfold lstO
  rw [List.map_append, List.map_append, List.map_take, List.map_drop]
  rfl
theorem lst_set2 {xs : List Str} {i : Nat} {y : Str} : HO.lst ((xs.map V.str).set i (V.str y)) = lstO (xs.set i y) := by
  unfold lstO
  rw [List.map_set]
theorem lst_erase2 {xs : List Str} {i : Nat} : HO.lst ((xs.map V.str).eraseIdx i) = lstO (xs.eraseIdx i) := by
  unfold lstO
  congr 1
  induction xs generalizing i with
  | nil => rfl
  | cons x r ih =>
    cases i with
    | zero => rfl
    | succ j =>
      show V.str x :: (r.map V.str).eraseIdx j = V.str x :: (r.eraseIdx j).map V.str
      rw [ih]
theorem ixN_of {n : Nat} {d : Int} (h0 : 0 ≤ d) (h1 : d < n) : ixN n d = some d.toNat := by
  unfold ixN
  rw [if_pos h0, if_pos h1]
theorem pick {ls : List Str} {d : Int} (h0 : 0 ≤ d) (h1 : d < ls.length) : ∃ l ∈ ls, atI (ls.map V.str) d = some (.str l) := by
  obtain ⟨l, e⟩ : ∃ l, ls[d.toNat]? = some l := ⟨_, List.getElem?_eq_getElem (by omega)⟩
  refine ⟨l, List.mem_of_getElem? e, ?_⟩
  have q := atI_nat (j := d.toNat) (xs := ls.map V.str) (v := .str l) (by rw [List.getElem?_map, e]; rfl)
  rw [show ((d.toNat : Nat) : Int) = d by omega] at q
  exact q
abbrev nSR : List Str := ["_law_state", "_law_rows", "_law_words", "_law_kind", "_law_at", "_law_other", "_law_row", "_law_signs", "_law_sign", "_law_word", "_law_k", "_law_parts"]
def sR (st r wd : Addr) (k a o : Int) (D : Addr) (v7 : Option V) (sg wo : Str) (v10 v11 : Option V) : St := [some (.ref st), some (.ref r), some (.ref wd), some (.int k), some (.int a), some (.int o), some (.ref D), v7, some (.str sg), some (.str wo), v10, v11]
/-- what stays -/
structure SF (H : Hp) (st r wd D : Addr) (ls ns : List Str) (B : Nat) (sg wo : Str) : Prop where
  s : StAt H st
  r : H r = some (lstO ls)
  w : H wd = some (lstO ns)
  n : ls.length ≤ 200
  l : ∀ x ∈ ls, x.length ≤ B
  b : B ≤ 900
  g : sg.length ≤ 2
  o : wo.length ≤ 10
  fD : H D = none
theorem SF.nD {H : Hp} {st r wd D : Addr} {ls ns : List Str} {B : Nat} {sg wo : Str} (F : SF H st r wd D ls ns B sg wo) : D ≠ st := by
  obtain ⟨i, j, e, _⟩ := F.s
  exact Ne.symm (ne_of_none e F.fD)
theorem SF.nr {H : Hp} {st r wd D : Addr} {ls ns : List Str} {B : Nat} {sg wo : Str} (F : SF H st r wd D ls ns B sg wo) : r ≠ st := by
  obtain ⟨i, j, e, _⟩ := F.s
  exact ne_of F.r e (lst_ne_st _ _ _)
/-- the row under way -/
structure SI (H H' : Hp) (st D : Addr) (B : Nat) (xs : List Str) (b : Nat) : Prop where
  sb : SameBut st H H'
  s : StAt H' st
  l : H' D = some (lstO xs)
  n : xs.length ≤ b
  i : ∀ x ∈ xs, x.length ≤ 2 * B + 20
theorem SF.rN {H H' : Hp} {st r wd D : Addr} {ls ns : List Str} {B : Nat} {sg wo : Str} (F : SF H st r wd D ls ns B sg wo) (sb : SameBut st H H') : H' r = some (lstO ls) := sb _ _ F.nr F.r
theorem SI.up {H H' : Hp} {st D : Addr} {B : Nat} {xs : List Str} {b c : Nat} (m : SI H H' st D B xs b) (h : b ≤ c) : SI H H' st D B xs c := ⟨m.sb, m.s, m.l, Nat.le_trans m.n h, m.i⟩
theorem SI.same {H H' H2 : Hp} {st D : Addr} {B : Nat} {xs : List Str} {b : Nat} (m : SI H H' st D B xs b) (s : Same H' H2) : SI H H2 st D B xs b := ⟨m.sb.trans (s.but st), m.s.same s, s _ _ m.l, m.n, m.i⟩
theorem SI.but {H H' H2 : Hp} {st D : Addr} {B : Nat} {xs : List Str} {b : Nat} (m : SI H H' st D B xs b) (hD : D ≠ st) (sb : SameBut st H' H2) (hs : StAt H2 st) : SI H H2 st D B xs b := ⟨m.sb.trans sb, hs, sb _ _ hD m.l, m.n, m.i⟩
theorem SI.set {H H' : Hp} {st D : Addr} {B : Nat} {xs us : List Str} {b c : Nat} (m : SI H H' st D B xs b) (hD : D ≠ st) (fD : H D = none) (hn : us.length ≤ c) (hi : ∀ x ∈ us, x.length ≤ 2 * B + 20) : SI H (upd H' D (lstO us)) st D B us c := by
  refine ⟨fun b o hb e => ?_, ?_, upd_same, hn, hi⟩
  · rw [upd_ne (ne_of_none e fD)]
    exact m.sb _ _ hb e
  · obtain ⟨i, j, e, q⟩ := m.s
    exact ⟨i, j, by rw [upd_ne (Ne.symm hD)]; exact e, q⟩
theorem SI.ins {H H' : Hp} {st r wd D : Addr} {ls ns : List Str} {B : Nat} {sg wo : Str} (F : SF H st r wd D ls ns B sg wo) {xs : List Str} {b i : Nat} {y : Str} (m : SI H H' st D B xs b) (hy : y.length ≤ 2 * B + 20) : SI H (upd H' D (lstO (xs.take i ++ [y] ++ xs.drop i))) st D B (xs.take i ++ [y] ++ xs.drop i) (b + 1) :=
  m.set F.nD F.fD (by rw [len_ins]; have := m.n; omega) fun x hx => by
    rcases mem_ins hx with e | e
    · rw [e]; exact hy
    · exact m.i x e
theorem SI.sto {H H' : Hp} {st r wd D : Addr} {ls ns : List Str} {B : Nat} {sg wo : Str} (F : SF H st r wd D ls ns B sg wo) {xs : List Str} {b i : Nat} {y : Str} (m : SI H H' st D B xs b) (hy : y.length ≤ 2 * B + 20) : SI H (upd H' D (lstO (xs.set i y))) st D B (xs.set i y) b :=
  m.set F.nD F.fD (by rw [List.length_set]; exact m.n) fun x hx => by
    rcases List.mem_or_eq_of_mem_set hx with e | e
    · exact m.i x e
    · rw [e]; exact hy
theorem SI.put {H H' : Hp} {st D Pt : Addr} {B : Nat} {xs : List Str} {b : Nat} {o : HO} (m : SI H H' st D B xs b) (fP : H Pt = none) (nD : Pt ≠ D) (ns : Pt ≠ st) : SI H (upd H' Pt o) st D B xs b := by
  refine ⟨fun b o hb e => ?_, ?_, by rw [upd_ne (Ne.symm nD)]; exact m.l, m.n, m.i⟩
  · rw [upd_ne (ne_of_none e fP)]
    exact m.sb _ _ hb e
  · obtain ⟨i, j, e, q⟩ := m.s
    exact ⟨i, j, by rw [upd_ne (Ne.symm ns)]; exact e, q⟩
/-- what follows the changes -/
def SN (H : Hp) (st r wd : Addr) (k a o : Int) (D : Addr) (v7 : Option V) (sg wo : Str) (B m : Nat) (Dn : Ends) : Prop := ∀ (H' : Hp) (xs : List Str) (v10 v11 : Option V), SI H H' st D B xs m → Dn.nx (sR st r wd k a o D v7 sg wo v10 v11) H'
section
variable {P : Program} {w : World} {K : PySem.W.Frag} {mg : Str → Option Value} {base : Heap}
variable {f : Addr} {cdv : Value} {A : Around} {outer : List Env} {s : Shared} {H0 : Hp} {E0' : XK}
theorem sum_set {ps : List Nat} {i x : Nat} : (ps.set i x).sum ≤ ps.sum + x := by
  induction ps generalizing i with
  | nil => exact Nat.zero_le _
  | cons p r ih =>
    cases i with
    | zero => rw [List.set_cons_zero, List.sum_cons, List.sum_cons]; omega
    | succ j =>
      have := ih (i := j)
      rw [List.set_cons_succ, List.sum_cons, List.sum_cons]
      omega
theorem join_set {l wo : Str} {i : Nat} (h : wo.length ≤ 10) : (((Txt.split l " ").set i wo).map (·.length)).sum + ((Txt.split l " ").set i wo).length ≤ l.length + 11 := by
  have w := PyProof.Rows.split_weight l " " (by decide +kernel)
  rw [List.length_set, List.map_set]
  have := sum_set (ps := (Txt.split l " ").map (·.length)) (i := i) (x := wo.length)
  omega
theorem sr8 (B : Bl mg) (cT : CF P w K mg base CX0 1 "_law_take" ["_law_state", "_law_many"] spTake) (hr : Room 1 (A.deeper (PyProof.Rows.envOfC "_law_spoilt_rows" (defScope sLspoiltrows) s.heap.objs.size f cdv))) :
    ∃ t, PSs (cxOf CX0 P w K mg base nSR "_law_spoilt_rows" (defScope sLspoiltrows) f cdv A outer s H0 E0').nox ((ifB (defBody sLspoiltrows) 9).drop 8) t ∧ ∀ (H H' : Hp) (st r wd D : Addr) (ls ns xs : List Str) (k a o kk : Int) (v7 : Option V) (sg wo l : Str) (Pt : Addr) (b : Nat) (n : Nat) (Dn : Ends), SF H st r wd D ls ns b sg wo → SI H H' st D b xs n → 0 ≤ a → a < ls.length → (k ≠ 4 → ls.length ≤ xs.length) → l.length ≤ b → H' Pt = some (lstO (Txt.split l " ")) → H Pt = none → Pt ≠ D → Pt ≠ st → SN H st r wd k a o D v7 sg wo b n Dn →
      t Dn (sR st r wd k a o D v7 sg wo (some (.int kk)) (some (.ref Pt))) H' := by
  have esz : sizeLine = 16777216 := sizeLine_eq
  refine ⟨_, pss_one (ps_if (pt_cmpR op_eq (pv 3) pe_int (nomark _)) (pss_cons (ps_asg (pv 9) (pg_sub (pv 11) (pe_cf cT hr pass0 (pa_cons (pv 0) (pa_cons (pe_callB call_len_seq (by rfl) B.len PySem.boot_len (pa_cons (pv 11) pa_nil)) pa_nil))) set_list))
    (pss_one (ps_asg (pe_join pe_str (pv 11)) (pg_sub (pv 6) (pv 4) set_list)))) pss_nil), ?_⟩
  intro H H' st r wd D ls ns xs k a o kk v7 sg wo l Pt b n Dn F m ha0 ha1 hx hl hP fP nPD nPs hN
  have hb := F.b
  have hw := F.o
  have e1 : 1 ≤ (" " : Str).length := by decide +kernel
  have pn : (Txt.split l " ").length ≤ l.length + 1 := part_n e1
  have pp := PyProof.Rows.split_pos l " "
  refine ⟨_, rfl, rfl, _, rfl, ite2 (fun h => ?_) (fun _ => hN _ _ _ _ m)⟩
  have hk : k = 8 := V.int.inj (of_decide_eq_true h)
  have hxl := hx (by omega)
  refine ⟨_, rfl, _, rfl, _, rfl, _, rfl, Pt, _, rfl, .inl (SqL.of hP), st, ((Txt.split l " ").length : Nat), by rw [List.length_map]; rfl, by omega, by omega, m.s, fun d n1 z1 hd0 hd1 b1 b2 b3 => ?_⟩
  have m1 := m.but F.nD (H2 := upd H' st (.lst [.int n1, .int z1])) SameBut.set ⟨n1, z1, upd_same, b1, b2, b3⟩
  have hP1 : (upd H' st (.lst [.int n1, .int z1])) Pt = some (lstO (Txt.split l " ")) := by rw [upd_ne nPs]; exact hP
  generalize upd H' st (.lst [.int n1, .int z1]) = H1 at m1 hP1
  refine ⟨Pt, _, d, d.toNat, rfl, rfl, hP1, ixN_of hd0 (by rw [List.length_map]; omega), ?_⟩
  rw [lst_set2]
  have hP2 : (upd H1 Pt (lstO ((Txt.split l " ").set d.toNat wo))) Pt = some (lstO ((Txt.split l " ").set d.toNat wo)) := upd_same
  have m2 := m1.put (o := lstO ((Txt.split l " ").set d.toNat wo)) fP nPD nPs
  generalize upd H1 Pt (lstO ((Txt.split l " ").set d.toNat wo)) = H2 at hP2 m2
  have js := join_set (l := l) (wo := wo) (i := d.toNat) hw
  have es : (" " : Str).length = 1 := by decide +kernel
  refine ⟨⟨_, rfl⟩, _, rfl, " ", Pt, _, rfl, rfl, .inl (SqL.of hP2), by rw [es]; omega, _, rfl, _, rfl, D, _, a, a.toNat, rfl, rfl, m2.l, ixN_of ha0 (by rw [List.length_map]; omega), ?_⟩
  rw [lst_set2]
  refine hN _ _ _ _ (m2.sto F ?_)
  have jl := joinL_len (tl " ") (((Txt.split l " ").set d.toNat wo).map tl)
  have e : (((Txt.split l " ").set d.toNat wo).map tl).map List.length = ((Txt.split l " ").set d.toNat wo).map (·.length) := by
    rw [List.map_map]
    exact List.map_congr_left fun w _ => (len_tl w).symm
  have e3 : (tl " ").length = 1 := by decide +kernel
  rw [e, e3, List.length_map] at jl
  rw [len_tl, tl_joinS]
  omega
end
end Qp
namespace Qp
open PySem L2 TL
/-- behind the pop -/
def TrA (c : Nat) (t : TS) : Prop := ∀ (H H' : Hp) (st r wd D : Addr) (ls ns xs : List Str) (k a o kk : Int) (v7 : Option V) (sg wo l : Str) (Pt : Addr) (b : Nat) (n : Nat) (Dn : Ends), SF H st r wd D ls ns b sg wo → SI H H' st D b xs n → 0 ≤ a → a < ls.length → 0 ≤ o → o ≤ ls.length → 0 ≤ kk → (k ≠ 4 → ls.length ≤ xs.length) → n ≤ 10000 → l.length ≤ b → H' Pt = some (lstO (Txt.split l " ")) → H Pt = none → Pt ≠ D → Pt ≠ st → SN H st r wd k a o D v7 sg wo b (n + c) Dn →
  t Dn (sR st r wd k a o D v7 sg wo (some (.int kk)) (some (.ref Pt))) H'
/-- before the pop -/
def TrB (c : Nat) (t : TS) : Prop := ∀ (H H' : Hp) (st r wd D : Addr) (ls ns xs : List Str) (k a o kk : Int) (v7 : Option V) (sg wo l : Str) (Pt : Addr) (b : Nat) (n : Nat) (Dn : Ends), SF H st r wd D ls ns b sg wo → SI H H' st D b xs n → 0 ≤ a → a < ls.length → 0 ≤ o → o ≤ ls.length → 0 ≤ kk → ls.length ≤ xs.length → n ≤ 10000 → l.length ≤ b → H' Pt = some (lstO (Txt.split l " ")) → H Pt = none → Pt ≠ D → Pt ≠ st → SN H st r wd k a o D v7 sg wo b (n + c) Dn →
  t Dn (sR st r wd k a o D v7 sg wo (some (.int kk)) (some (.ref Pt))) H'
section
variable {P : Program} {w : World} {K : PySem.W.Frag} {mg : Str → Option Value} {base : Heap}
variable {f : Addr} {cdv : Value} {A : Around} {outer : List Env} {s : Shared} {H0 : Hp} {E0' : XK}
theorem sr7 (B : Bl mg) (cT : CF P w K mg base CX0 1 "_law_take" ["_law_state", "_law_many"] spTake) (hr : Room 1 (A.deeper (PyProof.Rows.envOfC "_law_spoilt_rows" (defScope sLspoiltrows) s.heap.objs.size f cdv))) :
    ∃ t, PSs (cxOf CX0 P w K mg base nSR "_law_spoilt_rows" (defScope sLspoiltrows) f cdv A outer s H0 E0').nox ((ifB (defBody sLspoiltrows) 9).drop 7) t ∧ TrA 1 t := by
  obtain ⟨t, ht, q⟩ := sr8 (P := P) (w := w) (K := K) (mg := mg) (base := base) (outer := outer) (H0 := H0) (E0' := E0') B cT hr
  have esz : sizeLine = 16777216 := sizeLine_eq
  refine ⟨_, pss_cons (ps_if (pt_cmpR op_eq (pv 3) pe_int (nomark _)) (pss_one (ps_expr (pe_bm PySem.F.plainAttrs_list PySem.F.slot_list_insert PySem.F.type_list_insert mt_insert (pv 6) (pa_cons (pv 5) (pa_cons (pe_ix ix_list (pv 1) (pv 4) (fun _ _ => rfl)) pa_nil))))) pss_nil) ht, ?_⟩
  intro H H' st r wd D ls ns xs k a o kk v7 sg wo l Pt b n Dn F m ha0 ha1 ho0 ho1 hk0 hx hn hl hP fP nPD nPs hN
  have hb := F.b
  have hn1 := m.n
  have hlN := F.n
  refine ⟨_, rfl, rfl, _, rfl, ite2 (fun h => ?_) (fun _ => q H H' st r wd D ls ns xs k a o kk v7 sg wo l Pt b (n + 1) Dn F (m.up (by omega)) ha0 ha1 hx hl hP fP nPD nPs hN)⟩
  have hk : k = 7 := V.int.inj (of_decide_eq_true h)
  have hxl := hx (by omega)
  obtain ⟨y, hy, ay⟩ := pick ha0 ha1
  refine ⟨_, rfl, .inl ⟨rfl, _, SqL.of m.l⟩, _, rfl, _, rfl, _, rfl, r, _, a, _, rfl, rfl, SqL.of (F.rN m.sb), ay, D, _, o, _, rfl, rfl, m.l, by rw [List.length_map, esz]; omega, ho0, by omega, ?_⟩
  rw [lst_ins2]
  have m2 := SI.ins F (i := o.toNat) (y := y) m (by have := F.l y hy; omega)
  refine q H _ st r wd D ls ns _ k a o kk v7 sg wo l Pt b (n + 1) Dn F m2 ha0 ha1 (fun _ => by rw [len_ins]; omega) hl (by rw [upd_ne nPD]; exact hP) fP nPD nPs hN
theorem sr6 (B : Bl mg) (cT : CF P w K mg base CX0 1 "_law_take" ["_law_state", "_law_many"] spTake) (hr : Room 1 (A.deeper (PyProof.Rows.envOfC "_law_spoilt_rows" (defScope sLspoiltrows) s.heap.objs.size f cdv))) :
    ∃ t, PSs (cxOf CX0 P w K mg base nSR "_law_spoilt_rows" (defScope sLspoiltrows) f cdv A outer s H0 E0').nox ((ifB (defBody sLspoiltrows) 9).drop 6) t ∧ TrA 1 t := by
  obtain ⟨t, ht, q⟩ := sr7 (P := P) (w := w) (K := K) (mg := mg) (base := base) (outer := outer) (H0 := H0) (E0' := E0') B cT hr
  have esz : sizeLine = 16777216 := sizeLine_eq
  refine ⟨_, pss_cons (ps_if (PW.pt (pw_and (pt_cmpR op_eq (pv 3) pe_int (nomark _)) (pw_and1 (pt_cmpR op_lt (pv 5) (pe_callB call_len_seq (by rfl) B.len PySem.boot_len (pa_cons (pv 1) pa_nil)) (nomark _)))))
    (pss_cons (ps_asg (pe_ix ix_list (pv 1) (pv 5) (fun _ _ => rfl)) (pg_sub (pv 6) (pv 4) set_list)) (pss_one (ps_asg (pe_ix ix_list (pv 1) (pv 4) (fun _ _ => rfl)) (pg_sub (pv 6) (pv 5) set_list)))) pss_nil) ht, ?_⟩
  intro H H' st r wd D ls ns xs k a o kk v7 sg wo l Pt b n Dn F m ha0 ha1 ho0 ho1 hk0 hx hn hl hP fP nPD nPs hN
  have hb := F.b
  have skip := q H H' st r wd D ls ns xs k a o kk v7 sg wo l Pt b n Dn F m ha0 ha1 ho0 ho1 hk0 hx hn hl hP fP nPD nPs hN
  refine ⟨_, rfl, rfl, _, rfl, ite2 (fun h => ?_) (fun _ => iteF skip)⟩
  have hk : k = 6 := V.int.inj (of_decide_eq_true h)
  have hxl := hx (by omega)
  refine ⟨_, rfl, _, rfl, r, _, rfl, .inl (SqL.of (F.rN m.sb)), _, _, rfl, rfl, _, rfl, ite2 (fun h2 => ?_) (fun _ => skip)⟩
  have h3 := of_decide_eq_true h2
  rw [List.length_map] at h3
  obtain ⟨y, hy, ay⟩ := pick ha0 ha1
  obtain ⟨z, hz, az⟩ := pick ho0 h3
  refine ⟨_, rfl, _, rfl, r, _, o, _, rfl, rfl, SqL.of (F.rN m.sb), az, _, rfl, _, rfl, D, _, a, a.toNat, rfl, rfl, m.l, ixN_of ha0 (by rw [List.length_map]; omega), ?_⟩
  rw [lst_set2]
  have m2 := SI.sto F (i := a.toNat) (y := z) m (by have := F.l z hz; omega)
  have hP2 : (upd H' D (lstO (xs.set a.toNat z))) Pt = some (lstO (Txt.split l " ")) := by rw [upd_ne nPD]; exact hP
  generalize upd H' D (lstO (xs.set a.toNat z)) = H2 at m2 hP2
  refine ⟨_, rfl, _, rfl, r, _, a, _, rfl, rfl, SqL.of (F.rN m2.sb), ay, _, rfl, _, rfl, D, _, o, o.toNat, rfl, rfl, m2.l, ixN_of ho0 (by rw [List.length_map, List.length_set]; omega), ?_⟩
  rw [lst_set2]
  have m3 := SI.sto F (i := o.toNat) (y := y) m2 (by have := F.l y hy; omega)
  exact q H _ st r wd D ls ns _ k a o kk v7 sg wo l Pt b n Dn F m3 ha0 ha1 ho0 ho1 hk0 (fun _ => by rw [List.length_set, List.length_set]; omega) hn hl (by rw [upd_ne nPD]; exact hP2) fP nPD nPs hN
theorem sr5 (B : Bl mg) (cT : CF P w K mg base CX0 1 "_law_take" ["_law_state", "_law_many"] spTake) (hr : Room 1 (A.deeper (PyProof.Rows.envOfC "_law_spoilt_rows" (defScope sLspoiltrows) s.heap.objs.size f cdv))) :
    ∃ t, PSs (cxOf CX0 P w K mg base nSR "_law_spoilt_rows" (defScope sLspoiltrows) f cdv A outer s H0 E0').nox ((ifB (defBody sLspoiltrows) 9).drop 5) t ∧ TrA 1 t := by
  obtain ⟨t, ht, q⟩ := sr6 (P := P) (w := w) (K := K) (mg := mg) (base := base) (outer := outer) (H0 := H0) (E0' := E0') B cT hr
  have esz : sizeLine = 16777216 := sizeLine_eq
  refine ⟨_, pss_cons (ps_if (pt_cmpR op_eq (pv 3) pe_int (nomark _)) (pss_one (ps_asg (pe_op op_add_str (pe_op op_add_str (pe_ix ix_list (pv 1) (pv 4) (fun _ _ => rfl)) pe_str) (pv 9)) (pg_sub (pv 6) (pv 4) set_list))) pss_nil) ht, ?_⟩
  intro H H' st r wd D ls ns xs k a o kk v7 sg wo l Pt b n Dn F m ha0 ha1 ho0 ho1 hk0 hx hn hl hP fP nPD nPs hN
  have hb := F.b
  have hw := F.o
  have es : (" " : Str).length = 1 := by decide +kernel
  refine ⟨_, rfl, rfl, _, rfl, ite2 (fun h => ?_) (fun _ => q H H' st r wd D ls ns xs k a o kk v7 sg wo l Pt b n Dn F m ha0 ha1 ho0 ho1 hk0 hx hn hl hP fP nPD nPs hN)⟩
  have hk : k = 5 := V.int.inj (of_decide_eq_true h)
  have hxl := hx (by omega)
  obtain ⟨y, hy, ay⟩ := pick ha0 ha1
  have hyl := F.l y hy
  have l1 : (y ++ " ").length = y.length + 1 := by rw [len_app, es]
  have l2 : ((y ++ " ") ++ wo).length = y.length + 1 + wo.length := by rw [len_app, l1]
  refine ⟨_, rfl, _, rfl, r, _, a, _, rfl, rfl, SqL.of (F.rN m.sb), ay, _, _, rfl, rfl, by rw [es, esz]; omega, _, rfl, _, _, rfl, rfl, by rw [l1, esz]; omega, _, rfl, _, rfl, D, _, a, a.toNat, rfl, rfl, m.l, ixN_of ha0 (by rw [List.length_map]; omega), ?_⟩
  rw [lst_set2]
  have m2 := SI.sto F (i := a.toNat) (y := (y ++ " ") ++ wo) m (by omega)
  exact q H _ st r wd D ls ns _ k a o kk v7 sg wo l Pt b n Dn F m2 ha0 ha1 ho0 ho1 hk0 (fun _ => by rw [List.length_set]; omega) hn hl (by rw [upd_ne nPD]; exact hP) fP nPD nPs hN
theorem sr4 (B : Bl mg) (cT : CF P w K mg base CX0 1 "_law_take" ["_law_state", "_law_many"] spTake) (hr : Room 1 (A.deeper (PyProof.Rows.envOfC "_law_spoilt_rows" (defScope sLspoiltrows) s.heap.objs.size f cdv))) :
    ∃ t, PSs (cxOf CX0 P w K mg base nSR "_law_spoilt_rows" (defScope sLspoiltrows) f cdv A outer s H0 E0').nox ((ifB (defBody sLspoiltrows) 9).drop 4) t ∧ TrB 1 t := by
  obtain ⟨t, ht, q⟩ := sr5 (P := P) (w := w) (K := K) (mg := mg) (base := base) (outer := outer) (H0 := H0) (E0' := E0') B cT hr
  have esz : sizeLine = 16777216 := sizeLine_eq
  refine ⟨_, pss_cons (ps_if (pt_cmpR op_eq (pv 3) pe_int (nomark _)) (pss_one (ps_expr (pe_bm PySem.F.plainAttrs_list PySem.F.slot_list_pop PySem.F.type_list_pop mt_popAt (pv 6) (pa_cons (pv 4) pa_nil)))) pss_nil) ht, ?_⟩
  intro H H' st r wd D ls ns xs k a o kk v7 sg wo l Pt b n Dn F m ha0 ha1 ho0 ho1 hk0 hx hn hl hP fP nPD nPs hN
  have hlN := F.n
  refine ⟨_, rfl, rfl, _, rfl, ite2 (fun h => ?_) (fun _ => q H H' st r wd D ls ns xs k a o kk v7 sg wo l Pt b n Dn F m ha0 ha1 ho0 ho1 hk0 (fun _ => hx) hn hl hP fP nPD nPs hN)⟩
  have hk : k = 4 := V.int.inj (of_decide_eq_true h)
  obtain ⟨y, ey⟩ : ∃ y, xs[a.toNat]? = some y := ⟨_, List.getElem?_eq_getElem (by omega)⟩
  refine ⟨_, rfl, .inl ⟨rfl, _, SqL.of m.l⟩, _, rfl, D, _, a, a.toNat, .str y, rfl, rfl, m.l, by omega, by omega, seqIx_of ha0 (by rw [List.length_map]; omega), by rw [List.getElem?_map, ey]; rfl, ?_⟩
  rw [lst_erase2]
  have m2 := m.set F.nD F.fD (us := xs.eraseIdx a.toNat) (c := n) (by rw [List.length_eraseIdx]; have := m.n; split <;> omega) fun x hx => m.i x (List.mem_of_mem_eraseIdx hx)
  exact q H _ st r wd D ls ns _ k a o kk v7 sg wo l Pt b n Dn F m2 ha0 ha1 ho0 ho1 hk0 (fun h => absurd hk h) hn hl (by rw [upd_ne nPD]; exact hP) fP nPD nPs hN
theorem sr3 (B : Bl mg) (cT : CF P w K mg base CX0 1 "_law_take" ["_law_state", "_law_many"] spTake) (hr : Room 1 (A.deeper (PyProof.Rows.envOfC "_law_spoilt_rows" (defScope sLspoiltrows) s.heap.objs.size f cdv))) :
    ∃ t, PSs (cxOf CX0 P w K mg base nSR "_law_spoilt_rows" (defScope sLspoiltrows) f cdv A outer s H0 E0').nox ((ifB (defBody sLspoiltrows) 9).drop 3) t ∧ TrB 1 t := by
  obtain ⟨t, ht, q⟩ := sr4 (P := P) (w := w) (K := K) (mg := mg) (base := base) (outer := outer) (H0 := H0) (E0' := E0') B cT hr
  have esz : sizeLine = 16777216 := sizeLine_eq
  refine ⟨_, pss_cons (ps_if (pt_cmpR op_eq (pv 3) pe_int (nomark _)) (pss_one (ps_asg (pe_op op_add_str (pe_slice sl_str (pe_ix ix_list (pv 1) (pv 4) (fun _ _ => rfl)) po_none (po_some (pv 10))) (pe_slice sl_str (pe_ix ix_list (pv 1) (pv 4) (fun _ _ => rfl)) (po_some (pe_op op_add (pv 10) pe_int)) po_none)) (pg_sub (pv 6) (pv 4) set_list))) pss_nil) ht, ?_⟩
  intro H H' st r wd D ls ns xs k a o kk v7 sg wo l Pt b n Dn F m ha0 ha1 ho0 ho1 hk0 hx hn hl hP fP nPD nPs hN
  have hb := F.b
  refine ⟨_, rfl, rfl, _, rfl, ite2 (fun h => ?_) (fun _ => q H H' st r wd D ls ns xs k a o kk v7 sg wo l Pt b n Dn F m ha0 ha1 ho0 ho1 hk0 hx hn hl hP fP nPD nPs hN)⟩
  obtain ⟨y, hy, ay⟩ := pick ha0 ha1
  have hyl := F.l y hy
  have c1 := cutS_length y none (some kk)
  have c2 := cutS_length y (some (kk + 1)) none
  refine ⟨_, rfl, _, rfl, r, _, a, _, rfl, rfl, SqL.of (F.rN m.sb), ay, _, rfl, _, rfl, y, rfl, by rw [esz]; omega, _, rfl, _, rfl, r, _, a, _, rfl, rfl, SqL.of (F.rN m.sb), ay, _, rfl, _, _, rfl, rfl, _, rfl, y, rfl, by rw [esz]; omega, _, _, rfl, rfl, by rw [esz]; omega, _, rfl, _, rfl, D, _, a, a.toNat, rfl, rfl, m.l, ixN_of ha0 (by rw [List.length_map]; omega), ?_⟩
  rw [lst_set2]
  have m2 := SI.sto F (i := a.toNat) (y := cutS y none (some kk) ++ cutS y (some (kk + 1)) none) m (by rw [len_app]; omega)
  exact q H _ st r wd D ls ns _ k a o kk v7 sg wo l Pt b n Dn F m2 ha0 ha1 ho0 ho1 hk0 (by rw [List.length_set]; omega) hn hl (by rw [upd_ne nPD]; exact hP) fP nPD nPs hN
theorem sr2 (B : Bl mg) (cT : CF P w K mg base CX0 1 "_law_take" ["_law_state", "_law_many"] spTake) (hr : Room 1 (A.deeper (PyProof.Rows.envOfC "_law_spoilt_rows" (defScope sLspoiltrows) s.heap.objs.size f cdv))) :
    ∃ t, PSs (cxOf CX0 P w K mg base nSR "_law_spoilt_rows" (defScope sLspoiltrows) f cdv A outer s H0 E0').nox ((ifB (defBody sLspoiltrows) 9).drop 2) t ∧ TrB 1 t := by
  obtain ⟨t, ht, q⟩ := sr3 (P := P) (w := w) (K := K) (mg := mg) (base := base) (outer := outer) (H0 := H0) (E0' := E0') B cT hr
  have esz : sizeLine = 16777216 := sizeLine_eq
  refine ⟨_, pss_cons (ps_if (pt_cmpR op_eq (pv 3) pe_int (nomark _)) (pss_one (ps_asg (pe_op op_add_str (pe_op op_add_str (pe_slice sl_str (pe_ix ix_list (pv 1) (pv 4) (fun _ _ => rfl)) po_none (po_some (pv 10))) (pv 8)) (pe_slice sl_str (pe_ix ix_list (pv 1) (pv 4) (fun _ _ => rfl)) (po_some (pv 10)) po_none)) (pg_sub (pv 6) (pv 4) set_list))) pss_nil) ht, ?_⟩
  intro H H' st r wd D ls ns xs k a o kk v7 sg wo l Pt b n Dn F m ha0 ha1 ho0 ho1 hk0 hx hn hl hP fP nPD nPs hN
  have hb := F.b
  have hg := F.g
  refine ⟨_, rfl, rfl, _, rfl, ite2 (fun h => ?_) (fun _ => q H H' st r wd D ls ns xs k a o kk v7 sg wo l Pt b n Dn F m ha0 ha1 ho0 ho1 hk0 hx hn hl hP fP nPD nPs hN)⟩
  obtain ⟨y, hy, ay⟩ := pick ha0 ha1
  have hyl := F.l y hy
  have c1 := cutS_length y none (some kk)
  have c2 := cutS_length y (some kk) none
  have l1 : (cutS y none (some kk) ++ sg).length = (cutS y none (some kk)).length + sg.length := len_app _ _
  refine ⟨_, rfl, _, rfl, r, _, a, _, rfl, rfl, SqL.of (F.rN m.sb), ay, _, rfl, _, rfl, y, rfl, by rw [esz]; omega, _, rfl, _, _, rfl, rfl, by rw [esz]; omega, _, rfl, _, rfl, r, _, a, _, rfl, rfl, SqL.of (F.rN m.sb), ay, _, rfl, _, rfl, y, rfl, by rw [esz]; omega, _, _, rfl, rfl, by rw [l1, esz]; omega, _, rfl, _, rfl, D, _, a, a.toNat, rfl, rfl, m.l, ixN_of ha0 (by rw [List.length_map]; omega), ?_⟩
  rw [lst_set2]
  have m2 := SI.sto F (i := a.toNat) (y := cutS y none (some kk) ++ sg ++ cutS y (some kk) none) m (by rw [len_app, l1]; omega)
  exact q H _ st r wd D ls ns _ k a o kk v7 sg wo l Pt b n Dn F m2 ha0 ha1 ho0 ho1 hk0 (by rw [List.length_set]; omega) hn hl (by rw [upd_ne nPD]; exact hP) fP nPD nPs hN
end
end Qp
namespace Qp
open PySem L2 TL
theorem SI.none {H H' : Hp} {st D : Addr} {B : Nat} {xs : List Str} {b : Nat} (m : SI H H' st D B xs b) {L : Addr} (h : H' L = none) : H L = none ∧ L ≠ D ∧ L ≠ st := by
  obtain ⟨i, j, e2, _⟩ := id m.s
  have n1 : L ≠ st := Ne.symm (ne_of_none e2 h)
  refine ⟨?_, Ne.symm (ne_of_none m.l h), n1⟩
  cases e : H L with
  | none => rfl
  | some o => rw [m.sb _ _ n1 e] at h; cases h
def TrC (t : TS) : Prop := ∀ (H H' : Hp) (st r wd D : Addr) (ls ns xs : List Str) (k a o : Int) (v7 v10 v11 : Option V) (sg wo : Str) (b : Nat) (n : Nat) (Dn : Ends), SF H st r wd D ls ns b sg wo → SI H H' st D b xs n → 0 ≤ a → a < ls.length → 0 ≤ o → o ≤ ls.length → ls.length ≤ xs.length → n ≤ 10000 → SN H st r wd k a o D v7 sg wo b (n + 1) Dn →
  t Dn (sR st r wd k a o D v7 sg wo v10 v11) H'
section
variable {P : Program} {w : World} {K : PySem.W.Frag} {mg : Str → Option Value} {base : Heap}
variable {f : Addr} {cdv : Value} {A : Around} {outer : List Env} {s : Shared} {H0 : Hp} {E0' : XK}
theorem sr0 (B : Bl mg) (cT : CF P w K mg base CX0 1 "_law_take" ["_law_state", "_law_many"] spTake) (hr : Room 1 (A.deeper (PyProof.Rows.envOfC "_law_spoilt_rows" (defScope sLspoiltrows) s.heap.objs.size f cdv))) :
    ∃ t, PSs (cxOf CX0 P w K mg base nSR "_law_spoilt_rows" (defScope sLspoiltrows) f cdv A outer s H0 E0').nox (ifB (defBody sLspoiltrows) 9) t ∧ TrC t := by
  obtain ⟨t, ht, q⟩ := sr2 (P := P) (w := w) (K := K) (mg := mg) (base := base) (outer := outer) (H0 := H0) (E0' := E0') B cT hr
  have esz : sizeLine = 16777216 := sizeLine_eq
  refine ⟨_, pss_cons (ps_set (i := 10) scLspoiltrows.nd rfl (Or.inl rfl) (pe_cf cT hr pass0 (pa_cons (pv 0) (pa_cons (pe_op op_add (pe_callB call_len (by rfl) B.len PySem.boot_len (pa_cons (pe_ix ix_list (pv 1) (pv 4) (fun _ _ => rfl)) pa_nil)) pe_int) pa_nil))))
    (pss_cons (ps_set (i := 11) scLspoiltrows.nd rfl (Or.inl rfl) (pe_split (pe_ix ix_list (pv 1) (pv 4) (fun _ _ => rfl)) pe_str)) ht), ?_⟩
  intro H H' st r wd D ls ns xs k a o v7 v10 v11 sg wo b n Dn F m ha0 ha1 ho0 ho1 hx hn hN
  have hb := F.b
  obtain ⟨y, hy, ay⟩ := pick ha0 ha1
  have hyl := F.l y hy
  refine ⟨_, rfl, _, rfl, _, rfl, r, _, a, _, rfl, rfl, SqL.of (F.rN m.sb), ay, .str y, y.length, rfl, ⟨by omega, rfl⟩, _, _, rfl, rfl, st, _, rfl, by omega, by omega, m.s, fun d n1 z1 hd0 hd1 b1 b2 b3 => ?_⟩
  have m1 := m.but F.nD (H2 := upd H' st (.lst [.int n1, .int z1])) SameBut.set ⟨n1, z1, upd_same, b1, b2, b3⟩
  generalize upd H' st (.lst [.int n1, .int z1]) = H1 at m1
  refine ⟨_, rfl, _, rfl, r, _, a, _, rfl, rfl, SqL.of (F.rN m1.sb), ay, ⟨_, rfl⟩, y, " ", rfl, rfl, by decide +kernel, by rw [esz]; omega, fun Pt hPt => ?_⟩
  obtain ⟨fP, nD, ns'⟩ := m1.none hPt
  have m2 := m1.same (Same.new (o := .lst ((Txt.split y " ").map V.str)) hPt)
  exact q H _ st r wd D ls ns xs k a o d v7 sg wo y Pt b n Dn F m2 ha0 ha1 ho0 ho1 hd0 hx hn hyl upd_same fP nD ns' hN
variable {Q : VK}
/-- what is wished for -/
def SQ (H : Hp) (st : Addr) (n b : Nat) (Q : VK) : Prop := ∀ (D : Addr) (H' : Hp) (xs : List Str), SameBut st H H' → StAt H' st → H D = none → H' D = some (lstO xs) → xs.length ≤ n + 4 → (∀ x ∈ xs, x.length ≤ 2 * b + 20) → Q (.ref D) H'
theorem so9 (B : Bl mg) (cT : CF P w K mg base CX0 1 "_law_take" ["_law_state", "_law_many"] spTake) (hr : Room 1 (A.deeper (PyProof.Rows.envOfC "_law_spoilt_rows" (defScope sLspoiltrows) s.heap.objs.size f cdv))) :
    ∃ t, PSs (cxOf CX0 P w K mg base nSR "_law_spoilt_rows" (defScope sLspoiltrows) f cdv A outer s H0 E0').nox ((defBody sLspoiltrows).drop 9) t ∧ ∀ (H H' : Hp) (st r wd D : Addr) (ls ns xs : List Str) (k a o : Int) (v7 : Option V) (sg wo : Str) (b : Nat), SF H st r wd D ls ns b sg wo → SI H H' st D b xs (ls.length + 2) → 0 ≤ a → 0 ≤ o → o ≤ ls.length → ls.length ≤ xs.length → SQ H st ls.length b Q →
      t { nx := fun _ H' => Q .non H', rt := Q } (sR st r wd k a o D v7 sg wo none none) H' := by
  obtain ⟨t, ht, q⟩ := sr0 (P := P) (w := w) (K := K) (mg := mg) (base := base) (outer := outer) (H0 := H0) (E0' := E0') B cT hr
  refine ⟨_, pss_cons (ps_if (pt_cmpR op_lt (pv 4) (pe_callB call_len_seq (by rfl) B.len PySem.boot_len (pa_cons (pv 1) pa_nil)) (nomark _)) ht pss_nil) (pss_one (ps_ret (pv 6))), ?_⟩
  intro H H' st r wd D ls ns xs k a o v7 sg wo b F m ha0 ho0 ho1 hx hQ
  have hlN := F.n
  refine ⟨_, rfl, _, rfl, r, _, rfl, .inl (SqL.of (F.rN m.sb)), _, _, rfl, rfl, _, rfl, ite2 (fun h => ?_) (fun _ => ?_)⟩
  · have h1 := of_decide_eq_true h
    rw [List.length_map] at h1
    refine q H H' st r wd D ls ns xs k a o v7 none none sg wo b (ls.length + 2) _ F m ha0 h1 ho0 ho1 hx (by omega) fun H2 us v10 v11 m2 => ?_
    have := m2.n
    exact ⟨_, rfl, hQ D H2 us m2.sb m2.s F.fD m2.l (by omega) m2.i⟩
  · have := m.n
    exact ⟨_, rfl, hQ D H' xs m.sb m.s F.fD m.l (by omega) m.i⟩
theorem so8 (B : Bl mg) (cT : CF P w K mg base CX0 1 "_law_take" ["_law_state", "_law_many"] spTake) (hr : Room 1 (A.deeper (PyProof.Rows.envOfC "_law_spoilt_rows" (defScope sLspoiltrows) s.heap.objs.size f cdv))) :
    ∃ t, PSs (cxOf CX0 P w K mg base nSR "_law_spoilt_rows" (defScope sLspoiltrows) f cdv A outer s H0 E0').nox ((defBody sLspoiltrows).drop 8) t ∧ ∀ (H H' : Hp) (st r wd D : Addr) (ls ns xs : List Str) (k a o : Int) (v7 : Option V) (sg wo : Str) (b : Nat), SF H st r wd D ls ns b sg wo → SI H H' st D b xs (ls.length + 1) → 0 ≤ a → a ≤ ls.length → 0 ≤ o → o ≤ ls.length → ls.length ≤ xs.length → SQ H st ls.length b Q →
      t { nx := fun _ H' => Q .non H', rt := Q } (sR st r wd k a o D v7 sg wo none none) H' := by
  obtain ⟨t, ht, q⟩ := so9 (P := P) (w := w) (K := K) (mg := mg) (base := base) (outer := outer) (H0 := H0) (E0' := E0') (Q := Q) B cT hr
  have esz : sizeLine = 16777216 := sizeLine_eq
  refine ⟨_, pss_cons (ps_if (pt_cmpR op_eq (pv 3) pe_int (nomark _)) (pss_one (ps_expr (pe_bm PySem.F.plainAttrs_list PySem.F.slot_list_insert PySem.F.type_list_insert mt_insert (pv 6) (pa_cons (pv 4) (pa_cons (pv 9) pa_nil))))) pss_nil) ht, ?_⟩
  intro H H' st r wd D ls ns xs k a o v7 sg wo b F m ha0 ha1 ho0 ho1 hx hQ
  have hlN := F.n
  have hg := F.g
  have hw := F.o
  refine ⟨_, rfl, rfl, _, rfl, ite2 (fun h => ?_) (fun _ => q H H' st r wd D ls ns xs k a o v7 sg wo b F (m.up (by omega)) ha0 ho0 ho1 hx hQ)⟩
  refine ⟨_, rfl, .inl ⟨rfl, _, SqL.of m.l⟩, _, rfl, _, rfl, D, _, a, _, rfl, rfl, m.l, by rw [List.length_map, esz]; have := m.n; omega, ha0, by omega, ?_⟩
  rw [lst_ins2]
  exact q H _ st r wd D ls ns _ k a o v7 sg wo b F (SI.ins F m (by omega)) ha0 ho0 ho1 (by rw [len_ins]; omega) hQ
theorem so7 (B : Bl mg) (cT : CF P w K mg base CX0 1 "_law_take" ["_law_state", "_law_many"] spTake) (hr : Room 1 (A.deeper (PyProof.Rows.envOfC "_law_spoilt_rows" (defScope sLspoiltrows) s.heap.objs.size f cdv))) :
    ∃ t, PSs (cxOf CX0 P w K mg base nSR "_law_spoilt_rows" (defScope sLspoiltrows) f cdv A outer s H0 E0').nox ((defBody sLspoiltrows).drop 7) t ∧ ∀ (H H' : Hp) (st r wd D : Addr) (ls ns xs : List Str) (k a o : Int) (v7 : Option V) (sg wo : Str) (b : Nat), SF H st r wd D ls ns b sg wo → SI H H' st D b xs (ls.length + 0) → 0 ≤ a → a ≤ ls.length → 0 ≤ o → o ≤ ls.length → ls.length ≤ xs.length → SQ H st ls.length b Q →
      t { nx := fun _ H' => Q .non H', rt := Q } (sR st r wd k a o D v7 sg wo none none) H' := by
  obtain ⟨t, ht, q⟩ := so8 (P := P) (w := w) (K := K) (mg := mg) (base := base) (outer := outer) (H0 := H0) (E0' := E0') (Q := Q) B cT hr
  have esz : sizeLine = 16777216 := sizeLine_eq
  refine ⟨_, pss_cons (ps_if (pt_cmpR op_eq (pv 3) pe_int (nomark _)) (pss_one (ps_expr (pe_bm PySem.F.plainAttrs_list PySem.F.slot_list_insert PySem.F.type_list_insert mt_insert (pv 6) (pa_cons (pv 4) (pa_cons (pv 8) pa_nil))))) pss_nil) ht, ?_⟩
  intro H H' st r wd D ls ns xs k a o v7 sg wo b F m ha0 ha1 ho0 ho1 hx hQ
  have hlN := F.n
  have hg := F.g
  have hw := F.o
  refine ⟨_, rfl, rfl, _, rfl, ite2 (fun h => ?_) (fun _ => q H H' st r wd D ls ns xs k a o v7 sg wo b F (m.up (by omega)) ha0 ha1 ho0 ho1 hx hQ)⟩
  refine ⟨_, rfl, .inl ⟨rfl, _, SqL.of m.l⟩, _, rfl, _, rfl, D, _, a, _, rfl, rfl, m.l, by rw [List.length_map, esz]; have := m.n; omega, ha0, by omega, ?_⟩
  rw [lst_ins2]
  exact q H _ st r wd D ls ns _ k a o v7 sg wo b F (SI.ins F m (by omega)) ha0 ha1 ho0 ho1 (by rw [len_ins]; omega) hQ
/-- _law_spoilt_rows(state, rows, words) -/
def spSpoil : Sp := fun vs H Q _ => ∃ (st r wd : Addr) (ls ns : List Str) (b : Nat), vs = [.ref st, .ref r, .ref wd] ∧ StAt H st ∧ H r = some (lstO ls) ∧ H wd = some (lstO ns) ∧ ls.length ≤ 200 ∧ (∀ x ∈ ls, x.length ≤ b) ∧ b ≤ 900 ∧ ns.length ≤ 100 ∧ (∀ x ∈ ns, x.length ≤ 10) ∧ SQ H st ls.length b Q
theorem ok_spoil {f : Addr} {fd : FuncData} (F : Fun K "_law_spoilt_rows" "_law_spoilt_rows" sLspoiltrows f fd) (B : Bl mg) (cT : CF P w K mg base CX0 1 "_law_take" ["_law_state", "_law_many"] spTake) : FnOk P w K mg base CX0 2 f fd ["_law_state", "_law_rows", "_law_words"] spSpoil := by
  refine F.ok scLspoiltrows (fun vs H Q E h => ?_) (fun cdv A outer s H vs Q E hr h => ?_)
  · obtain ⟨st, r, wd, ls, ns, b, rfl, _⟩ := h
    rfl
  · obtain ⟨st, r, wd, ls, ns, b, rfl, hst, hR, hwd, hln, hll, hb, hnn, hnl, hQ⟩ := h
    obtain ⟨t, ht, q⟩ := so7 (P := P) (w := w) (K := K) (mg := mg) (base := base) (outer := outer) (H0 := H) (E0' := E) (Q := Q) B cT hr
    have esz : sizeLine = 16777216 := sizeLine_eq
    refine ⟨_, pss_cons (ps_set (i := 3) scLspoiltrows.nd rfl (Or.inl rfl) (pe_cf cT hr pass0 (pa_cons (pv 0) (pa_cons pe_int pa_nil))))
      (pss_cons (ps_set (i := 4) scLspoiltrows.nd rfl (Or.inl rfl) (pe_cf cT hr pass0 (pa_cons (pv 0) (pa_cons (pe_op op_add (pe_callB call_len_seq (by rfl) B.len PySem.boot_len (pa_cons (pv 1) pa_nil)) pe_int) pa_nil))))
      (pss_cons (ps_set (i := 5) scLspoiltrows.nd rfl (Or.inl rfl) (pe_cf cT hr pass0 (pa_cons (pv 0) (pa_cons (pe_op op_add (pe_callB call_len_seq (by rfl) B.len PySem.boot_len (pa_cons (pv 1) pa_nil)) pe_int) pa_nil))))
      (pss_cons (ps_set (i := 6) scLspoiltrows.nd rfl (Or.inl rfl) (pe_callTy call_list_of (by rfl) B.lst (by decide +kernel) (pa_cons (pv 1) pa_nil)))
      (pss_cons (ps_set (i := 7) scLspoiltrows.nd rfl (Or.inl rfl) (pe_lst (pa_cons pe_str (pa_cons pe_str (pa_cons pe_str (pa_cons pe_str (pa_cons pe_str (pa_cons pe_str (pa_cons pe_str (pa_cons pe_str (pa_cons pe_str (pa_cons pe_str (pa_cons pe_str pa_nil)))))))))))))
      (pss_cons (ps_set (i := 8) scLspoiltrows.nd rfl (Or.inl rfl) (pe_ix ix_list (pv 7) (pe_cf cT hr pass0 (pa_cons (pv 0) (pa_cons (pe_callB call_len_seq (by rfl) B.len PySem.boot_len (pa_cons (pv 7) pa_nil)) pa_nil))) (fun _ _ => rfl)))
      (pss_cons (ps_set (i := 9) scLspoiltrows.nd rfl (Or.inl rfl) (pe_ix ix_list (pe_op op_cat (pv 2) (pe_lst (pa_cons pe_str pa_nil))) (pe_cf cT hr pass0 (pa_cons (pv 0) (pa_cons (pe_op op_add (pe_callB call_len_seq (by rfl) B.len PySem.boot_len (pa_cons (pv 2) pa_nil)) pe_int) pa_nil))) (fun _ _ => rfl)))
      ht)))))), ?_⟩
    obtain ⟨n0, z0, est, _⟩ := id hst
    have nr : r ≠ st := ne_of hR est (lst_ne_st _ _ _)
    have nw : wd ≠ st := ne_of hwd est (lst_ne_st _ _ _)
    refine ⟨_, rfl, st, 9, rfl, by decide, by decide, hst, fun k n1 z1 _ _ a1 a2 a3 => ?_⟩
    have sb1 : SameBut st H (upd H st (.lst [.int n1, .int z1])) := SameBut.set
    have S1 : StAt (upd H st (.lst [.int n1, .int z1])) st := ⟨n1, z1, upd_same, a1, a2, a3⟩
    generalize upd H st (.lst [.int n1, .int z1]) = H1 at sb1 S1
    refine ⟨_, rfl, _, rfl, r, _, rfl, .inl (SqL.of (sb1 _ _ nr hR)), _, _, rfl, rfl, st, ((ls.length : Int) + 1), by rw [List.length_map]; rfl, by omega, by omega, S1, fun a n2 z2 ha0 ha1 b1 b2 b3 => ?_⟩
    have sb2 : SameBut st H (upd H1 st (.lst [.int n2, .int z2])) := sb1.trans SameBut.set
    have S2 : StAt (upd H1 st (.lst [.int n2, .int z2])) st := ⟨n2, z2, upd_same, b1, b2, b3⟩
    generalize upd H1 st (.lst [.int n2, .int z2]) = H2 at sb2 S2
    refine ⟨_, rfl, _, rfl, r, _, rfl, .inl (SqL.of (sb2 _ _ nr hR)), _, _, rfl, rfl, st, ((ls.length : Int) + 1), by rw [List.length_map]; rfl, by omega, by omega, S2, fun o n3 z3 ho0 ho1 c1 c2 c3 => ?_⟩
    have sb3 : SameBut st H (upd H2 st (.lst [.int n3, .int z3])) := sb2.trans SameBut.set
    have S3 : StAt (upd H2 st (.lst [.int n3, .int z3])) st := ⟨n3, z3, upd_same, c1, c2, c3⟩
    generalize upd H2 st (.lst [.int n3, .int z3]) = H3 at sb3 S3
    refine ⟨_, rfl, r, _, rfl, .inl (SqL.of (sb3 _ _ nr hR)), fun D hD => ?_⟩
    have fD : H D = none := by
      cases e : H D with
      | none => rfl
      | some u =>
        by_cases c : D = st
        · obtain ⟨i, j, e2, _⟩ := id S3
          rw [c, e2] at hD
          cases hD
        · rw [sb3 _ _ c e] at hD
          cases hD
    have nDs : D ≠ st := Ne.symm (ne_of_none est fD)
    have m3 : SI H (upd H3 D (.lst (ls.map V.str))) st D b ls ls.length := ⟨sb3.trans ((Same.new hD).but st), S3.same (Same.new hD), upd_same, Nat.le_refl _, fun x hx => by have := hll x hx; omega⟩
    generalize upd H3 D (.lst (ls.map V.str)) = H4 at m3
    refine ⟨by show 11 ≤ sizeLine; rw [esz]; decide, fun G hG => ?_⟩
    have m4 := m3.same (Same.new (o := lstO [" ", "", "a", "A", "1", ":", "-", "\n", "z", "  ", "~"]) hG)
    have eG : (upd H4 G (lstO [" ", "", "a", "A", "1", ":", "-", "\n", "z", "  ", "~"])) G = some (lstO [" ", "", "a", "A", "1", ":", "-", "\n", "z", "  ", "~"]) := upd_same
    have nGs := (m3.none hG).2.2
    show tSeq _ _ _ _ (upd H4 G (lstO [" ", "", "a", "A", "1", ":", "-", "\n", "z", "  ", "~"]))
    generalize upd H4 G (lstO [" ", "", "a", "A", "1", ":", "-", "\n", "z", "  ", "~"]) = H5 at m4 eG
    refine ⟨_, rfl, _, rfl, _, rfl, G, _, rfl, .inl (SqL.of eG), st, 11, rfl, by decide, by decide, m4.s, fun d n4 z4 hd0 hd1 d1 d2 d3 => ?_⟩
    have m5 := m4.but nDs (H2 := upd H5 st (.lst [.int n4, .int z4])) SameBut.set ⟨n4, z4, upd_same, d1, d2, d3⟩
    have eG5 : (upd H5 st (.lst [.int n4, .int z4])) G = some (lstO [" ", "", "a", "A", "1", ":", "-", "\n", "z", "  ", "~"]) := by rw [upd_ne nGs]; exact eG
    generalize upd H5 st (.lst [.int n4, .int z4]) = H6 at m5 eG5
    obtain ⟨sg, hsg, asg⟩ := pick (ls := [" ", "", "a", "A", "1", ":", "-", "\n", "z", "  ", "~"]) hd0 hd1
    have gl : ∀ x ∈ ([" ", "", "a", "A", "1", ":", "-", "\n", "z", "  ", "~"] : List Str), x.length ≤ 2 := by decide +kernel
    refine ⟨G, _, d, _, rfl, rfl, SqL.of eG5, asg, ?_⟩
    refine ⟨_, rfl, by show 1 ≤ sizeLine; rw [esz]; decide, fun X1 hX1 => ?_⟩
    have m6 := m5.same (Same.new (o := .lst [.str "nobody"]) hX1)
    have eX1 : (upd H6 X1 (.lst [.str "nobody"])) X1 = some (.lst [.str "nobody"]) := upd_same
    generalize upd H6 X1 (.lst [.str "nobody"]) = H7 at m6 eX1
    have hw7 := m6.sb _ _ nw hwd
    refine ⟨wd, X1, _, _, rfl, rfl, hw7, eX1, by rw [List.length_map, esz]; show _ + 1 ≤ _; omega, fun X2 hX2 => ?_⟩
    have eqx : (HO.lst (ns.map V.str ++ [V.str (Str.ofString "nobody")])) = lstO (ns ++ [("nobody" : Str)]) := by
      unfold lstO
      rw [List.map_append]
      rfl
    rw [eqx]
    have m7 := m6.same (Same.new (o := lstO (ns ++ [("nobody" : Str)])) hX2)
    have eX2 : (upd H7 X2 (lstO (ns ++ [("nobody" : Str)]))) X2 = some (lstO (ns ++ [("nobody" : Str)])) := upd_same
    have nXs := (m6.none hX2).2.2
    generalize upd H7 X2 (lstO (ns ++ [("nobody" : Str)])) = H8 at m7 eX2
    refine ⟨_, rfl, _, rfl, wd, _, rfl, .inl (SqL.of (m7.sb _ _ nw hwd)), _, _, rfl, rfl, st, ((ns.length : Int) + 1), by rw [List.length_map]; rfl, by omega, by omega, m7.s, fun d' n5 z5 he0 he1 e1 e2 e3 => ?_⟩
    have m8 := m7.but nDs (H2 := upd H8 st (.lst [.int n5, .int z5])) SameBut.set ⟨n5, z5, upd_same, e1, e2, e3⟩
    have eX3 : (upd H8 st (.lst [.int n5, .int z5])) X2 = some (lstO (ns ++ [("nobody" : Str)])) := by rw [upd_ne nXs]; exact eX2
    generalize upd H8 st (.lst [.int n5, .int z5]) = H9 at m8 eX3
    obtain ⟨wo, hwo, awo⟩ := pick (ls := ns ++ [("nobody" : Str)]) he0 (by rw [List.length_append]; show _ < ((_ + 1 : Nat) : Int); omega)
    have wl : wo.length ≤ 10 := by
      rcases List.mem_append.mp hwo with h | h
      · exact hnl _ h
      · rw [List.mem_singleton.mp h]; exact (by decide +kernel : ("nobody" : Str).length ≤ 10)
    refine ⟨X2, _, d', _, rfl, rfl, SqL.of eX3, awo, ?_⟩
    exact q H H9 st r wd D ls ns ls k a o _ sg wo b ⟨hst, hR, hwd, hln, hll, hb, gl _ hsg, wl, fD⟩ m8 ha0 (by omega) ho0 (by omega) (Nat.le_refl _) hQ
end
end Qp
namespace L2
open PySem
theorem FnOk.or {P : Program} {w : World} {K : PySem.W.Frag} {mg : Str → Option Value} {base : Heap} {CX : CXT} {k : Nat} {f : Addr} {fd : FuncData} {ps : List Str} {sp sp' : Sp} (F : FnOk P w K mg base CX k f fd ps sp) (G : FnOk P w K mg base CX k f fd ps sp') :
    FnOk P w K mg base CX k f fd ps (fun vs H Q E => sp vs H Q E ∨ sp' vs H Q E) :=
  ⟨fun vs H Q E q => q.elim (F.len vs H Q E) (G.len vs H Q E), fun A outer s H args us vs Q E hr he hb hv hs => hs.elim (F.run A outer s H args us vs Q E hr he hb hv) (G.run A outer s H args us vs Q E hr he hb hv)⟩
end L2
namespace Qp
open PySem L2 TL
/-- what is known behind the group -/
structure F89 (C : Addr) (H : Hp) (st N G M : Addr) (ns : List Str) (ws : Str → List Str) : Prop where
  s : StAt H st
  n : H N = some (lstO ns)
  g : GroupAt C H G ns ws
  m : RowsG H M ns (fun z => lstO (opn ws z))
  nn : Nm ns
  g1 : ∀ a ∈ ns, GRow ns a (ws a)
theorem F89.same {C : Addr} {H H' : Hp} {st N G M : Addr} {ns : List Str} {ws : Str → List Str} (s : Same H H') (t : F89 C H st N G M ns ws) : F89 C H' st N G M ns ws :=
  ⟨t.s.same s, s _ _ t.n, t.g.same s, t.m.same s, t.nn, t.g1⟩
theorem F89.butS {C : Addr} {H H' : Hp} {st N G M : Addr} {ns : List Str} {ws : Str → List Str} (s : SameBut st H H') (S' : StAt H' st) (t : F89 C H st N G M ns ws) : F89 C H' st N G M ns ws := by
  obtain ⟨n, z, e, _⟩ := id t.s
  exact ⟨S', s _ _ (ne_st t.s t.n) t.n, t.g.butS s e, RowsG.butS s e t.m (fun _ => lst_int _ _ _), t.nn, t.g1⟩
/-- the lines of a text -/
structure TxL (z : Str) (ls : List Str) : Prop where
  e : z = "" ∨ endB z = true
  l : z.length ≤ 1000000
  p : parse z = ls.map fun l => Txt.split l " "
  n : ls.length ≤ 100001
  b : ∀ l ∈ ls, l.length ≤ 100000
section
variable {P : Program} {w : World} {K : PySem.W.Frag} {mg : Str → Option Value} {base : Heap}
def spSmD : Sp := fun vs H Q E => spSm0 vs H Q E ∨ spSame1 vs H Q E
theorem ok_smd {f : Addr} {fd : FuncData} (F : Fun K "_law_same" "_law_same" sLsame f fd) (B : Bl mg) (cI : CF P w K mg base CX0 1 "_law_is_integer" ["_law_actual"] spInt) (cS : CF P w K mg base CX0 1 "_law_same" ["_law_actual", "_law_due_here"] spSame0) : FnOk P w K mg base CX0 2 f fd ["_law_actual", "_law_due_here"] spSmD :=
  FnOk.or (ok_sm0 F B cI) (ok_same1 F B cS)
structure LawT (P : Program) (w : World) (K : PySem.W.Frag) (mg : Str → Option Value) (base : Heap) (C CB CW fG : Addr) : Prop where
  cell : CF P w K mg base CX0 1 "_law_cell" ["_law_script", "_law_k"] (spCell K)
  take : CF P w K mg base CX0 1 "_law_take" ["_law_state", "_law_many"] spTake
  group : CF P w K mg base CX0 5 "_law_group" ["_law_state", "_law_top"] spGroup
  copy : CF P w K mg base CX0 1 "_law_copy" ["_law_wishes_here"] spCopy
  mutu : CF P w K mg base CX0 1 "_law_mutual" ["_law_names_here", "_law_wishes_here"] spMut
  any : CF P w K mg base CX0 3 "_law_any_dealing" ["_law_state", "_law_mutual_here"] spAny
  ldr : CF P w K mg base CX0 1 "_law_dealing_rows" ["_law_x"] spLDR
  spoil : CF P w K mg base CX0 2 "_law_spoilt_rows" ["_law_state", "_law_rows", "_law_words"] spSpoil
  lt : CF P w K mg base CX0 1 "_law_lines" ["_law_rows"] spLT
  rdl : CF P w K mg base CX0 5 "_law_read" ["_law_group_here", "_law_text"] (spRdL K C)
  due : CF P w K mg base CX0 1 "_law_due" ["_law_mutual_here", "_law_rows"] spDue
  sm : CF P w K mg base CX0 2 "_law_same" ["_law_actual", "_law_due_here"] spSmD
  val : CF P w K mg base CX0 2 "_law_value" ["_law_state"] spVal
  g : GTxt K mg C
  mkG : Mk K C fG
  gi : ∃ fd, FnOk P w K mg base (L2.CX P w) 4 fG fd ["self", "people", "wishes"] (spGI C CB CW) ∧ Binds K fd ["self", "people", "wishes"] []
abbrev nLaw : List Str := ["_law_script", "_law_state", "_law_names_here", "_law_wishes_here", "_law_group_here", "_law_mutual_here", "_law_rows", "_law_k", "_law_text", "_law_value_here"]
variable {C CB CW fG : Addr} {f : Addr} {cdv : Value} {A : Around} {outer : List Env} {s : Shared} {H0 : Hp} {E0' : XK} {Q : VK}
theorem law12 (T : LawT P w K mg base C CB CW fG) (B : Bl mg) (hr : Room 7 (A.deeper (PyProof.Rows.envOfC "law" (defScope slaw) s.heap.objs.size f cdv))) (kq : ∀ H', Q (.bl true) H') :
    ∃ t, PSs (cxOf CX0 P w K mg base nLaw "law" (defScope slaw) f cdv A outer s H0 E0').nox ((defBody slaw).drop 12) t ∧
      ∀ (H : Hp) (v0 v3 v6 v7 v8 v9 : Option V) (st N G M : Addr) (ns : List Str) (ws : Str → List Str), F89 C H st N G M ns ws →
        t { nx := fun _ H' => Q .non H', rt := Q } [v0, some (.ref st), some (.ref N), v3, some (.ref G), some (.ref M), v6, v7, v8, v9] H := by
  have hr2 : Room 2 _ := hr.mono (by decide)
  have hr5 : Room 5 _ := hr.mono (by decide)
  refine ⟨_, pss_one (ps_ret (pe_and (pe_cf T.sm hr2 pass0 (pa_cons (pe_cf T.rdl hr5 pass0 (pa_cons (pv 4) (pa_cons pe_str pa_nil))) (pa_cons pe_int pa_nil)))
    (pe_one (pe_cf T.sm hr2 pass0 (pa_cons (pe_cf T.rdl hr5 pass0 (pa_cons (pv 4) (pa_cons pe_str pa_nil))) (pa_cons pe_int pa_nil)))))), ?_⟩
  rintro H v0 v3 v6 v7 v8 v9 st N G M ns ws t0
  refine ⟨_, rfl, G, .str "ann", ns, ws, rfl, t0.g, t0.nn, t0.g1, .inr ⟨"ann", rfl, .inl ⟨by decide +kernel, by decide +kernel, fun H1 s1 => ?_⟩⟩⟩
  have t1 := t0.same s1
  refine .inl ⟨_, _, rfl, .int _ 0, fun H2 s2 => ⟨_, rfl, iteT ?_⟩⟩
  have t2 := t1.same s2
  have pA : parse "Ann\n" = [[("Ann" : Str)]] := by decide +kernel
  have no : okRow ns ws none [] [("Ann" : Str)] = false := by
    have : ("Ann" : Str) ∉ ns := fun h => by
      have := t2.nn.nm _ h
      revert this
      decide +kernel
    unfold okRow
    show (decide (("Ann" : Str) ∈ ns) && _ && _) = false
    rw [decide_eq_false this]
    rfl
  refine ⟨_, rfl, G, .str "Ann\n", ns, ws, rfl, t2.g, t2.nn, t2.g1, .inr ⟨"Ann\n", rfl, .inr ⟨.inr (by decide +kernel), by decide +kernel, ?_⟩⟩⟩
  rw [pA]
  refine (if_neg (by rw [no]; decide)).mpr fun H3 s3 => ?_
  exact .inl ⟨_, _, rfl, .int _ 1, fun H4 s4 => kq H4⟩
theorem law10 (T : LawT P w K mg base C CB CW fG) (B : Bl mg) (hr : Room 7 (A.deeper (PyProof.Rows.envOfC "law" (defScope slaw) s.heap.objs.size f cdv))) (kq : ∀ H', Q (.bl true) H') :
    ∃ t, PSs (cxOf CX0 P w K mg base nLaw "law" (defScope slaw) f cdv A outer s H0 E0').nox ((defBody slaw).drop 10) t ∧
      ∀ (H : Hp) (v0 v3 v6 v7 v8 : Option V) (st N G M : Addr) (ns : List Str) (ws : Str → List Str), F89 C H st N G M ns ws →
        t { nx := fun _ H' => Q .non H', rt := Q } [v0, some (.ref st), some (.ref N), v3, some (.ref G), some (.ref M), v6, v7, v8, none] H := by
  obtain ⟨t, ht, q⟩ := law12 (outer := outer) (H0 := H0) (E0' := E0') T B hr kq
  have hr2 : Room 2 _ := hr.mono (by decide)
  have hr5 : Room 5 _ := hr.mono (by decide)
  refine ⟨_, pss_cons (ps_set (i := 9) sclaw.nd rfl (Or.inl rfl) (pe_cf T.val hr2 pass0 (pa_cons (pv 1) pa_nil)))
    (pss_cons (ps_if (PW.pt (pw_and (pt_not (pt_val (pe_isi kit_str B.isi B.str (pv 9)))) (pw_and1 (pt_not (pt_val (pe_cf T.sm hr2 pass0 (pa_cons (pe_cf T.rdl hr5 pass0 (pa_cons (pv 4) (pa_cons (pv 9) pa_nil))) (pa_cons pe_int pa_nil)))))))) pss_no pss_nil) ht), ?_⟩
  rintro H v0 v3 v6 v7 v8 st N G M ns ws t0
  refine ⟨_, rfl, st, rfl, t0.s, fun v H1 sb S1 av _ _ vf => ?_⟩
  have t1 := t0.butS sb S1
  obtain ⟨k, ik⟩ := av.kd
  have rest : ∀ (H2 : Hp), Same H1 H2 → t { nx := fun _ H' => Q .non H', rt := Q } [v0, some (.ref st), some (.ref N), v3, some (.ref G), some (.ref M), v6, v7, v8, some v] H2 := fun H2 s2 => q H2 v0 v3 v6 v7 v8 (some v) st N G M ns ws (t1.same s2)
  by_cases hk : k = .str
  · subst hk
    exact ⟨_, rfl, v, _, rfl, ik, _, rfl, iteF (iteF (rest H1 (Same.refl _)))⟩
  · have ns' : ∀ z, v ≠ .str z := fun z e => by
      subst e
      cases ik
      exact hk rfl
    refine ⟨_, rfl, v, k, rfl, ik, _, rfl, ?_⟩
    refine (if_pos (by cases k <;> first | (exact absurd rfl hk) | rfl)).mpr ?_
    refine ⟨_, rfl, _, rfl, G, v, ns, ws, rfl, t1.g, t1.nn, t1.g1, .inl ⟨.inr ⟨k, ik, ns'⟩, fun H2 s2 => ?_⟩⟩
    exact .inl ⟨_, _, rfl, .int _ 0, fun H3 s3 => ⟨_, rfl, iteF (rest H3 (s2.trans s3))⟩⟩
theorem law9 (T : LawT P w K mg base C CB CW fG) (B : Bl mg) (hr : Room 7 (A.deeper (PyProof.Rows.envOfC "law" (defScope slaw) s.heap.objs.size f cdv))) (kq : ∀ H', Q (.bl true) H') :
    ∃ t, PSs (cxOf CX0 P w K mg base nLaw "law" (defScope slaw) f cdv A outer s H0 E0').nox ((defBody slaw).drop 9) t ∧
      ∀ (H : Hp) (v0 v3 v7 : Option V) (st N G M R : Addr) (z : Str) (ls ns : List Str) (ws : Str → List Str), F89 C H st N G M ns ws → H R = some (lstO ls) → TxL z ls →
        t { nx := fun _ H' => Q .non H', rt := Q } [v0, some (.ref st), some (.ref N), v3, some (.ref G), some (.ref M), some (.ref R), v7, some (.str z), none] H := by
  obtain ⟨t, ht, q⟩ := law10 (outer := outer) (H0 := H0) (E0' := E0') T B hr kq
  have hr1 : Room 1 _ := hr.mono (by decide)
  have hr2 : Room 2 _ := hr.mono (by decide)
  have hr5 : Room 5 _ := hr.mono (by decide)
  refine ⟨_, pss_cons (ps_if (pt_not (pt_val (pe_cf T.sm hr2 pass0 (pa_cons (pe_cf T.rdl hr5 pass0 (pa_cons (pv 4) (pa_cons (pv 8) pa_nil))) (pa_cons (pe_cf T.due hr1 pass0 (pa_cons (pv 5) (pa_cons (pv 6) pa_nil))) pa_nil))))) pss_no pss_nil) ht, ?_⟩
  rintro H v0 v3 v7 st N G M R z ls ns ws t0 hR X
  refine ⟨_, rfl, _, rfl, G, .str z, ns, ws, rfl, t0.g, t0.nn, t0.g1, .inr ⟨z, rfl, .inr ⟨X.e, X.l, ?_⟩⟩⟩
  rcases rdl_ex (ns := ns) (ws := ws) (parse z) 0 none [] f0 with ⟨n, h⟩ | ⟨qs', g', h⟩
  · refine h _ _ fun H1 s1 => ?_
    have t1 := t0.same s1
    refine ⟨_, rfl, _, rfl, M, R, ls, ns, ws, rfl, t1.m, t1.nn, t1.g1, s1 _ _ hR, X.n, X.b, ?_⟩
    rw [← X.p]
    refine h _ _ fun H2 s2 => ?_
    exact .inl ⟨_, _, rfl, .int _ n, fun H3 s3 => ⟨_, rfl, iteF (q H3 v0 v3 _ v7 _ st N G M ns ws ((t1.same s2).same s3))⟩⟩
  · refine h _ _ fun d H1 s1 hd1 ed1 => ?_
    have t1 := t0.same s1
    refine ⟨_, rfl, _, rfl, M, R, ls, ns, ws, rfl, t1.m, t1.nn, t1.g1, s1 _ _ hR, X.n, X.b, ?_⟩
    rw [← X.p]
    refine h _ _ fun d2 H2 s2 hd2 ed2 => ?_
    have nd : d ≠ d2 := ne_of_none ed1 hd2
    exact .inr ⟨d, d2, qs', qs', g', g', rfl, nd, s2 _ _ ed1, ed2, List.Perm.refl _, fun _ _ => rfl, _, rfl, iteF (q H2 v0 v3 _ v7 _ st N G M ns ws (t1.same s2))⟩
theorem law6 (T : LawT P w K mg base C CB CW fG) (B : Bl mg) (hr : Room 7 (A.deeper (PyProof.Rows.envOfC "law" (defScope slaw) s.heap.objs.size f cdv))) (kq : ∀ H', Q (.bl true) H') :
    ∃ t, PSs (cxOf CX0 P w K mg base nLaw "law" (defScope slaw) f cdv A outer s H0 E0').nox ((defBody slaw).drop 6) t ∧
      ∀ (H : Hp) (v0 v3 v7 : Option V) (st N G M R : Addr) (ls ns : List Str) (ws : Str → List Str), F89 C H st N G M ns ws → H R = some (lstO ls) → ls.length ≤ 40 → (∀ l ∈ ls, l.length ≤ 860) →
        t { nx := fun _ H' => Q .non H', rt := Q } [v0, some (.ref st), some (.ref N), v3, some (.ref G), some (.ref M), some (.ref R), v7, none, none] H := by
  obtain ⟨t, ht, q⟩ := law9 (outer := outer) (H0 := H0) (E0' := E0') T B hr kq
  have hr1 : Room 1 _ := hr.mono (by decide)
  have esz : sizeLine = 16777216 := sizeLine_eq
  refine ⟨_, pss_cons (ps_set (i := 8) sclaw.nd rfl (Or.inl rfl) (pe_cf T.lt hr1 pass0 (pa_cons (pv 6) pa_nil)))
    (pss_cons (ps_set (i := 6) sclaw.nd rfl (Or.inl rfl) (pe_lst pa_nil))
    (pss_cons (ps_if (pt_cmpR op_ne (pv 8) pe_str (nomark _)) (pss_one (ps_set (i := 6) sclaw.nd rfl (Or.inl rfl) (pe_split (pe_slice sl_str (pv 8) po_none (po_some (pe_un un_neg pe_int))) pe_str))) pss_nil) ht)), ?_⟩
  rintro H v0 v3 v7 st N G M R ls ns ws t0 hR hn hl
  refine ⟨_, rfl, R, ls, rfl, hR, by omega, fun l h => Nat.le_trans (hl l h) (by decide), fun H1 s1 => ?_⟩
  have t1 := t0.same s1
  refine ⟨by show 0 ≤ sizeLine; exact Nat.zero_le _, fun R0 hR0 => ?_⟩
  have s2 : Same H1 (upd H1 R0 (.lst [])) := Same.new hR0
  have e2 : (upd H1 R0 (.lst [])) R0 = some (lstO []) := upd_same
  generalize upd H1 R0 (.lst []) = H2 at s2 e2
  have t2 := t1.same s2
  cases els : ls with
  | nil =>
    have e0 : txtOf [] = "" := by decide +kernel
    rw [e0]
    refine ⟨_, rfl, rfl, _, rfl, ?_⟩
    rw [decide_eq_true rfl]
    exact iteF (q H2 v0 v3 v7 st N G M R0 "" [] ns ws t2 e2 ⟨.inl rfl, by decide +kernel, by decide +kernel, by decide, fun _ h => by cases h⟩)
  | cons l0 lr =>
    rw [← els]
    have hne : ls ≠ [] := by rw [els]; exact List.cons_ne_nil _ _
    rw [txt_body hne]
    have hx : (Txt.join "\n" ls).length ≤ 100000 := by
      have := join_len (y := "\n") hl
      have es : ("\n" : Str).length = 1 := by decide +kernel
      rw [es] at this
      have := Nat.mul_le_mul_right 860 hn
      omega
    generalize Txt.join "\n" ls = x at hx
    have nz : x ++ "\n" ≠ "" := fun e => by
      have := congrArg tl e
      rw [tl_append, tl_nl, tl_em] at this
      exact absurd (List.append_eq_nil_iff.mp this).2 (by decide)
    have lz : (x ++ "\n").length = x.length + 1 := by
      rw [len_app]
      rfl
    have strE : decide (V.str (x ++ "\n") = V.str "") = false := decide_eq_false fun e => nz (V.str.inj e)
    refine ⟨_, rfl, rfl, _, rfl, ?_⟩
    rw [strE]
    refine iteT ?_
    have w1 : (Txt.split x "\n").length ≤ x.length + 1 := part_n (by decide +kernel)
    refine ⟨_, rfl, _, rfl, _, rfl, _, rfl, by rw [lz, esz]; omega, ⟨_, rfl⟩, x, "\n", ?_, rfl, by decide +kernel, by rw [esz]; omega, fun P hP => ?_⟩
    · exact congrArg V.str (cut_body x)
    have s3 : Same H2 (upd H2 P (.lst ((Txt.split x "\n").map V.str))) := Same.new hP
    have eP : (upd H2 P (.lst ((Txt.split x "\n").map V.str))) P = some (lstO (Txt.split x "\n")) := upd_same
    generalize upd H2 P (.lst ((Txt.split x "\n").map V.str)) = H3 at s3 eP
    exact q H3 v0 v3 v7 st N G M P (x ++ "\n") (Txt.split x "\n") ns ws (t2.same s3) eP ⟨.inr (endB_nl x), by rw [lz]; omega, parse_nl x, by omega, fun l h => Nat.le_trans (part_len h (by decide +kernel)) hx⟩
end
end Qp
namespace Qp
open PySem L2 TL
section
variable {P : Program} {w : World} {K : PySem.W.Frag} {mg : Str → Option Value} {base : Heap}
def bnd : Nat → Nat
  | 0 => 20
  | 1 => 60
  | _ => 140
/-- law(script) -/
def spLaw (K : PySem.W.Frag) : Sp := fun vs H Q _ => ∃ (a : Addr) (ns : List Int), vs = [.ref a] ∧ SqL K H a (ns.map V.int) ∧ ns.length ≤ 63 ∧ ∀ H', Q (.bl true) H'
theorem ok_law {C CB CW fG f : Addr} {fd : FuncData} (F : Fun K "law" "law" slaw f fd) (B : Bl mg) (T : LawT P w K mg base C CB CW fG) : FnOk P w K mg base CX0 8 f fd ["_law_script"] (spLaw K) := by
  refine F.ok sclaw (fun vs H Q E h => ?_) (fun cdv A outer s H vs Q E hr h => ?_)
  · obtain ⟨a, ns, rfl, _⟩ := h
    rfl
  · obtain ⟨sa, nums, rfl, hsa, hl, kq⟩ := h
    obtain ⟨t7, h7, q7⟩ := law6 (outer := outer) (H0 := H) (E0' := E) T B hr kq
    obtain ⟨fdG, FG, bG⟩ := T.gi
    have hr1 : Room 1 _ := hr.mono (by decide)
    have hr2 : Room 2 _ := hr.mono (by decide)
    have hr3 : Room 3 _ := hr.mono (by decide)
    have hr5 : Room 5 _ := hr.mono (by decide)
    have esz : sizeLine = 16777216 := sizeLine_eq
    refine ⟨_, pss_cons (ps_set (i := 1) sclaw.nd rfl (Or.inl rfl) (pe_cf T.cell hr1 pass0 (pa_cons (pv 0) (pa_cons pe_int pa_nil))))
      (pss_cons (ps_asg (pe_cf T.group hr5 pass0 (pa_cons (pv 1) (pa_cons pe_int pa_nil))) (pg_tupK (K := K) rfl rfl (pgs_cons (pg_name (i := 2) sclaw.nd rfl (Or.inl rfl)) (pgs_cons (pg_name (i := 3) sclaw.nd rfl (Or.inl rfl)) pgs_nil))))
      (pss_cons (ps_set (i := 4) sclaw.nd rfl (Or.inl rfl) (pe_makeS (E := WE (fun _ _ _ _ => False)) T.mkG FG hr5 rfl T.g.mgC bG .nil (fun σ => passAt takes0 σ) (pa_cons (pe_callTy call_tuple_of (by rfl) B.tup (by decide +kernel) (pa_cons (pv 2) pa_nil)) (pa_cons (pe_cf T.copy hr1 pass0 (pa_cons (pv 3) pa_nil)) pa_nil))))
      (pss_cons (ps_set (i := 5) sclaw.nd rfl (Or.inl rfl) (pe_cf T.mutu hr1 pass0 (pa_cons (pv 2) (pa_cons (pv 3) pa_nil))))
      (pss_cons (ps_set (i := 6) sclaw.nd rfl (Or.inl rfl) (pe_cf T.ldr hr1 pass0 (pa_cons (pe_cf T.any hr3 pass0 (pa_cons (pv 1) (pa_cons (pv 5) pa_nil))) pa_nil)))
      (pss_cons (ps_for PassesOwn.never rfl (pi_range1 (by rfl) B.rng (pa_cons (pe_op op_add pe_int (pe_cf T.take hr1 pass0 (pa_cons (pv 1) (pa_cons pe_int pa_nil)))) pa_nil)) (pg_name (i := 7) sclaw.nd rfl (Or.inl rfl))
        (pss_one (ps_set (i := 6) sclaw.nd rfl (Or.inl rfl) (pe_cf T.spoil hr2 pass0 (pa_cons (pv 1) (pa_cons (pv 6) (pa_cons (pv 2) pa_nil))))))) h7))))), ?_⟩
    refine ⟨_, rfl, sa, nums, rfl, hsa, hl, fun st n z hst h0 h1 h2 => ?_⟩
    have S2 : StAt (upd H st (.lst [.int n, .int z])) st := ⟨n, z, upd_same, h0, h1, h2⟩
    generalize upd H st (.lst [.int n, .int z]) = H2 at S2
    refine ⟨_, rfl, st, 16, rfl, by decide, by decide, S2, fun Tt N W ns H3 eT sb S3 _ nNs eN hnd hnm hnl hW _ => ?_⟩
    obtain ⟨order, hperm, ws, RW, gW⟩ := hW
    refine ⟨Tt, [.ref N, .ref W], rfl, SqT.of eT, rfl, _, _, rfl, _, _, rfl, rfl, ?_⟩
    have hl16 : ns.length ≤ 16 := by omega
    have hon : order.Nodup := hperm.nodup_iff.mpr hnd
    have hol : order.length ≤ 16 := by rw [hperm.length_eq]; exact hl16
    have gN : ∀ q ∈ ns, GRow ns q (ws q) := fun q hq => gW q (hperm.mem_iff.mpr hq)
    refine ⟨_, rfl, N, _, rfl, .inl ⟨SqL.of eN, fun Tp hTp => ?_⟩⟩
    have s3 : Same H3 (upd H3 Tp (.tup (ns.map V.str))) := Same.new hTp
    have eTp : (upd H3 Tp (.tup (ns.map V.str))) Tp = some (.tup (ns.map V.str)) := upd_same
    generalize upd H3 Tp (.tup (ns.map V.str)) = H4 at s3 eTp
    refine ⟨_, rfl, W, order, ws, rfl, RW.same s3, hon, by omega, fun Wc H5 s4 RWc => ?_⟩
    refine fun p dx hp hdx hne => ?_
    have sP : Same H5 (upd (upd H5 dx (.own p)) p (.ins C dx [])) := fun b o e => by
      rw [upd_ne (ne_of_none e hp), upd_ne (ne_of_none e hdx)]
      exact e
    have hpp : (upd (upd H5 dx (.own p)) p (.ins C dx [])) p = some (.ins C dx []) := upd_same
    generalize (upd (upd H5 dx (.own p)) p (.ins C dx [])) = H6 at sP hpp
    refine gmake hpp (sP _ _ (s4 _ _ eTp)) ⟨hnd, hnm, hl16⟩ (RWc.same sP) hperm gN fun H7 sbp hG => ⟨rfl, ?_⟩
    have s37 : Same H3 H7 := fun b o e => sbp _ _ (ne_of_none (s4 _ _ (s3 _ _ e)) hp) (sP _ _ (s4 _ _ (s3 _ _ e)))
    have eN7 := s37 _ _ eN
    have S7 := S3.same s37
    have RW7 := RW.same s37
    have nn : Nm ns := ⟨hnd, hnm, hl16⟩
    refine ⟨_, rfl, _, rfl, N, W, ns, order, ws, rfl, eN7, RW7, hnd, by omega, fun a ha => ⟨hperm.mem_iff.mpr ha, by have := (gN a ha).len; omega, fun b hb => hperm.mem_iff.mpr ((gN a ha).2 b hb).1⟩, fun M H8 s8 RM => ?_⟩
    have S8 := S7.same s8
    have eN8 := s8 _ _ eN7
    have G8 := hG.same s8
    obtain ⟨n8, z8, est8, _⟩ := id S8
    refine ⟨_, rfl, _, rfl, st, M, ns, ws, rfl, S8, RM, nn, gN, fun D H9 kvs sb9 S9 _ eD hkl hkv hdl => ?_⟩
    have t9 : F89 C H9 st N p M ns ws := (⟨S8, eN8, G8, RM, nn, gN⟩ : F89 C H8 st N p M ns ws).butS sb9 S9
    obtain ⟨qs, h, hp2, rfl⟩ := of_isD hdl hnd
    have DD := (isD_okv hp2 hnd gN).mp hdl
    obtain ⟨n1, n2⟩ := names_len nn gN DD hp2
    refine ⟨D, qs, h, rfl, eD, n1, n2, fun R H10 ys s10 hys hso eR => ?_⟩
    have hyn := hys.trans hp2
    have t10 := t9.same s10
    refine ⟨_, rfl, st, 2, rfl, by decide, by decide, t10.s, fun d n5 z5 hd0 hd1 a1 a2 a3 => ?_⟩
    have sb5 : SameBut st H10 (upd H10 st (.lst [.int n5, .int z5])) := SameBut.set
    have S5 : StAt (upd H10 st (.lst [.int n5, .int z5])) st := ⟨n5, z5, upd_same, a1, a2, a3⟩
    have eR5 := sb5 _ _ (ne_st t10.s eR) eR
    generalize upd H10 st (.lst [.int n5, .int z5]) = H11 at sb5 S5 eR5
    have t11 := t10.butS sb5 S5
    have hyl := hyn.length_eq
    have hdr := drows_len (f := h) (ys := ys)
    refine ⟨_, _, rfl, rfl, ?_⟩
    refine ⟨1 + d, rfl, by omega, by omega, ?_⟩
    refine for_it (walk_range (lo := 0) (n := (1 + d).toNat)) (fun i σ H' => ∃ (v7 : Option V) (R : Addr) (ls : List Str), σ = [some (.ref sa), some (.ref st), some (.ref N), some (.ref W), some (.ref p), some (.ref M), some (.ref R), v7, none, none] ∧ F89 C H' st N p M ns ws ∧ H' R = some (lstO ls) ∧ ls.length ≤ 17 + 4 * i ∧ (∀ l ∈ ls, l.length ≤ bnd i))
      ⟨none, R, _, rfl, t11, eR5, by rw [List.length_map]; omega, dr_lines nn gN DD hyn⟩ (fun _ _ _ _ _ => True.intro) ?_ ?_
    · rintro i x σ Hx H12 hi ⟨v7, R, ls, rfl, t12, eR12, hn6, hl6⟩ ⟨rfl, hx⟩
      have hi2 : i < 2 := by omega
      have hb : bnd i ≤ 900 ∧ 2 * bnd i + 20 = bnd (i + 1) := by
        rcases i with _ | _ | i
        · exact ⟨by decide, rfl⟩
        · exact ⟨by decide, rfl⟩
        · omega
      refine ⟨_, rfl, _, rfl, _, rfl, st, R, N, ls, ns, bnd i, rfl, t12.s, eR12, t12.n, by omega, hl6, hb.1, by omega, fun x hx => by have := name_len8 (hnm x hx); omega, fun D H13 xs sb7 S7 _ eD hxn hxl => ?_⟩
      exact ⟨_, D, xs, rfl, t12.butS sb7 S7, eD, by omega, fun l h => by have := hxl l h; omega⟩
    · rintro σ H12 ⟨v7, R, ls, rfl, t12, eR12, hn6, hl6⟩
      have hb : (1 + d).toNat = 1 ∨ (1 + d).toNat = 2 := by omega
      refine q7 H12 _ _ v7 st N p M R ls ns ws t12 eR12 (by omega) fun l h => Nat.le_trans (hl6 l h) ?_
      rcases hb with e | e <;> rw [e] <;> decide
end
end Qp
namespace Qp
open PySem L2
section
variable {K : PySem.W.Frag} {mg : Str → Option Value} {h : Heap}
/-- a def of the text and the name that tells it -/
structure FnAt (K : PySem.W.Frag) (mg : Str → Option Value) (x qual : Str) (st : Stmt) : Prop where
  ex : ∃ f fd, Fun K x qual st f fd ∧ mg x = some (.ref f)
theorem fnAt (X : K.In h) (G : h.Ns mainGlobals mg) {x qual : Str} {st : Stmt} {f : Addr} {oc kV doc pm cdv ct : Value} {od an : Option Addr} {osl : Array (Option Value)}
    (a : PySem.W.nsIn K mainGlobals x = some (some (.ref f))) (l : K.lookup f = some ⟨oc, od, .func (PySem.W.fnOf x qual (defArgs st) (defBody st) (defScope st) .none kV doc pm an cdv ct), osl⟩) (c : PySem.W.codeIn K cdv qual = true) (k : PySem.W.keepIn K (.ref f) = true) :
    FnAt K mg x qual st := ⟨f, _, fun_mk (st := st) l c k, PySem.W.mg_of X G a⟩
theorem FnAt.cf {P : Program} {w : World} {base : Heap} {CX : CXT} {k : Nat} {ps : List Str} {sp : Sp} {x qual : Str} {st : Stmt} (A : FnAt K mg x qual st) (ok : ∀ f fd, Fun K x qual st f fd → FnOk P w K mg base CX k f fd ps sp)
    (b : ∀ (kV doc pm : Value) (an : Option Addr) (cdv ct : Value) (us : List Value), us.length = ps.length → bindArgs (PySem.W.fnOf x qual (defArgs st) (defBody st) (defScope st) .none kV doc pm an cdv ct) ⟨us, []⟩ = pure (ps.zip us)) : CF P w K mg base CX k x ps sp := by
  obtain ⟨f, fd, F, hm⟩ := A.ex
  exact ⟨f, fd, ok f fd F, hm, F.kp, F.binds b⟩
theorem exm_own {S : Addr} (h1 : PySem.W.subIn K (.ref S) (.type "BaseException") = some true) (h2 : (PySem.W.clsIn K S).isSome = true) (h3 : PySem.W.typeIn K (.ref S) = some (.type "type")) (h4 : PySem.W.subIn K (.ref S) (.ref S) = some true) :
    PySem.W.exmOne K (.ref S) (.ref S) = some true := by
  unfold PySem.W.exmOne PySem.W.kitCls
  simp [h1, h2, h3, h4]
open PySem.W PySem.Calls PyProof.Rows PySem.HandSPX in
theorem ownAt {P : Program} (X : K.In h) (G : h.Ns mainGlobals mg) {cn f qual : Str} {C fI cq : Addr} {nm q : Str} {N : Addr} {bs : List Value} {sn : List Str} {sub : List Value} {ab : Bool} {col : Option Bool} {dd : Option Addr} {m0 m1 m2 m3 m5 : Option Value}
    {t : Str} {kk : Nat} {oc : Value} {od : Option Addr} {doc pm : Value} {an : Option Addr} {cda cc : Addr} {ct : Value} {osl : Array (Option Value)} {p1 p2 q1 q2 q3 q4 q5 q6 q7 q8 q9 q10 : Pos}
    {ccl : Value} {cdd : Option Addr} {ccs : Array (Option Value)} {nm' q' : Str} {N' : Addr} {bs' : List Value} {sn' : List Str} {sub' : List Value} {ab' : Bool} {col' : Option Bool} {dd' : Option Addr} {k0' k1' k2' k3' k5' : Option Value} {fvs : Array Value} {file : Str} {tf : Tok} {cl : Value} {cld : Option Addr} {csl : Array (Option Value)}
    (gC : PySem.W.nsIn K mainGlobals cn = some (some (.ref C))) (gS : PySem.W.nsIn K mainGlobals "super" = some none)
    (xL : K.lookup C = some (excClassObj nm q C N bs [.ref cq, .type "ValueError", .type "Exception", .type "BaseException", .type "object"] true sn sub ab col dd m0 m1 m2 m3 m5 "ValueError.__new__"))
    (qL : K.lookup cq = some (excClassObj nm' q' cq N' bs' [.type "ValueError", .type "Exception", .type "BaseException", .type "object"] true sn' sub' ab' col' dd' k0' k1' k2' k3' k5' "ValueError.__new__"))
    (qI : PySem.W.findIn K (.ref cq) "__init__" = some (some (.builtin "ValueError.__init__")))
    (sa : PySem.W.findIn K (.ref C) "__setattr__" = some (some (.builtin "object.__setattr__"))) (ga : PySem.W.findIn K (.ref C) "__getattribute__" = some (some (.builtin "BaseException.__getattribute__"))) (gg : PySem.W.findIn K (.ref C) "__getattr__" = some none) (noN : PySem.W.findIn K (.ref C) f = some none)
    (iC : PySem.W.findIn K (.ref C) "__init__" = some (some (.ref fI))) (tC : PySem.W.typeIn K (.ref fI) = some (.type "function")) (kC : PySem.W.keepIn K (.ref C) = true)
    (exC : PySem.W.subIn K (.ref C) (.type "BaseException") = some true) (veC : PySem.W.subIn K (.ref C) (.type "ValueError") = some true) (slC : mroIn K C (.ref C) = some true) (tyC : PySem.W.typeIn K (.ref C) = some (.type "type")) (hdC : PySem.W.hasDictIn K C = true)
    (cC : (PySem.W.clsIn K C).isSome = true) (sC : PySem.W.subIn K (.ref C) (.ref C) = some true) (op : PySem.W.nsIn K cStatics "thirdparty.any" = some none) (top : (P.main.scope.names.lookup ("super" : Str)).isSome = false)
    (lk : K.lookup fI = some ⟨oc, od, .func (ksFn "__init__" qual (PySem.QX.iA f p1 p2) (PySem.QX.iB f t kk q1 q2 q3 q4 q5 q6 q7 q8 q9 q10) (PySem.QX.iS f) .none .none doc pm an (.ref cda) ct cc), osl⟩) (cd : PySem.W.codeIn K (.ref cda) qual = true) (hl : (q3.endLine == q5.line) = true)
    (lc : K.lookup cda = some ⟨ccl, cdd, .fields fvs, ccs⟩) (lf : fvs[2]? = some (.str file tf)) (hf : ((P.main.file : Str) == file) = true) (lcc : K.lookup cc = some ⟨cl, cld, .cell (some (.ref C)), csl⟩)
    (sc1 : (PySem.QX.iS f).names.lookup f = some .local) (sc2 : (PySem.QX.iS f).names.lookup ("super" : Str) = some .globalImplicit) (sc3 : (PySem.QX.iS f).names.lookup ("__class__" : Str) = some .free) (sc4 : (PySem.QX.iS f).names.lookup ("self" : Str) = some .local)
    (dbg : (f == ("__debug__" : Str)) = false)
    (bnd : ∀ (qual : Str) (p1 p2 : Pos) (b : List Stmt) (doc pm : Value) (an : Option Addr) (cdv ct : Value) (cc : Addr) (s : Shared) (u v : Value), BindsTo s (ksFn "__init__" qual (PySem.QX.iA f p1 p2) b (PySem.QX.iS f) .none .none doc pm an cdv ct cc) ⟨[u, v], []⟩ [("self", u), (f, v)])
    (lk1 : ∀ (u v : Value), ([("self", u), (f, v)] : List (Str × Value)).reverse.lookup ("self" : Str) = some u) (lk2 : ∀ (u v : Value), ([("self", u), (f, v)] : List (Str × Value)).reverse.lookup f = some v) :
    PySem.QX.OwnTxt P K mg cn f C fI :=
  have al : alongIn K "__init__" [.ref cq, .type "ValueError", .type "Exception", .type "BaseException", .type "object"] = some (some (.builtin "ValueError.__init__")) := by
    have e := qI
    unfold findIn at e
    dsimp only at e
    rw [qL] at e
    exact e
  { gC := PySem.W.mg_of X G gC, gS := PySem.W.mg_none_of X G gS, cls := ⟨_, _, _, _, _, _, _, _, _, _, _, _, _, _, _, xL, rfl, al⟩, sa := sa, ga := ga, gg := gg, noN := noN, iC := iC, tC := tC, kC := kC, exC := exC, veC := veC, slC := slC, tyC := tyC, hdC := hdC,
    te := exm_own exC cC tyC sC, op := op, top := top, fn := ⟨_, _, _, _, _, _, _, _, _, _, _, _, _, _, _, _, _, _, _, _, _, _, _, _, lk, cd, hl, ⟨_, _, _, _, _, _, lc, lf, hf⟩, ⟨_, _, _, lcc⟩⟩,
    sc1 := sc1, sc2 := sc2, sc3 := sc3, sc4 := sc4, dbg := dbg, bnd := bnd, lk1 := lk1, lk2 := lk2 }
theorem gAt (X : K.In h) (G : h.Ns mainGlobals mg) {C : Addr} (aC : PySem.W.nsIn K mainGlobals "Group" = some (some (.ref C)))
    (pg : PySem.W.plainGet K C Str.empty = true) (hd : PySem.W.hasDictIn K C = true) (po : PySem.W.plainOver K C = true) (sa : PySem.W.findIn K (.ref C) "__setattr__" = some (some (.builtin "object.__setattr__")))
    (n1 : PySem.W.findIn K (.ref C) "_people" = some none) (n2 : PySem.W.findIn K (.ref C) "_wishes" = some none) (n3 : PySem.W.findIn K (.ref C) "_opens" = some none) (n4 : PySem.W.findIn K (.ref C) "_ranks" = some none) : GTxt K mg C :=
  ⟨⟨pg, hd, po, sa⟩, n1, n2, n3, n4, PySem.W.mg_of X G aC⟩
/-- a method of the text -/
structure MAt (K : PySem.W.Frag) (C : Addr) (m qual : Str) (st : Stmt) : Prop where
  ex : ∃ f fd, Fun K m qual st f fd ∧ Meth K C m f
theorem mAt {C : Addr} {m qual : Str} {st : Stmt} {f : Addr} {oc kV doc pm cdv ct : Value} {od an : Option Addr} {osl : Array (Option Value)}
    (a : PySem.W.findIn K (.ref C) m = some (some (.ref f))) (i : PySem.W.isFn K (.ref f) = true) (l : K.lookup f = some ⟨oc, od, .func (PySem.W.fnOf m qual (defArgs st) (defBody st) (defScope st) .none kV doc pm an cdv ct), osl⟩) (c : PySem.W.codeIn K cdv qual = true) (k : PySem.W.keepIn K (.ref f) = true) :
    MAt K C m qual st := ⟨f, _, fun_mk (st := st) l c k, ⟨a, i, k⟩⟩
theorem MAt.mf {P : Program} {w : World} {base : Heap} {k : Nat} {C : Addr} {ps : List Str} {sp : Sp} {m qual : Str} {st : Stmt} (A : MAt K C m qual st) (ok : ∀ f fd, Fun K m qual st f fd → FnOk P w K mg base CX0 k f fd ps sp)
    (b : ∀ (kV doc pm : Value) (an : Option Addr) (cdv ct : Value) (us : List Value), us.length = ps.length → bindArgs (PySem.W.fnOf m qual (defArgs st) (defBody st) (defScope st) .none kV doc pm an cdv ct) ⟨us, []⟩ = pure (ps.zip us)) : MF P w K mg base k C m ps sp := by
  obtain ⟨f, fd, F, M⟩ := A.ex
  exact ⟨f, fd, ok f fd F, M, F.binds b⟩
theorem exm_no {S T : Addr} (h1 : PySem.W.subIn K (.ref S) (.type "BaseException") = some true) (h2 : (PySem.W.clsIn K S).isSome = true) (h3 : PySem.W.typeIn K (.ref S) = some (.type "type")) (h4 : PySem.W.subIn K (.ref T) (.ref S) = some false) :
    PySem.W.exmOne K (.ref T) (.ref S) = some false := by
  unfold PySem.W.exmOne PySem.W.kitCls
  simp [h1, h2, h3, h4]
theorem all_mk {l : PySem.W.OpenLaw} {w : World} {fa C fG C_NoText f_NoText C_BadPeople f_BadPeople C_BadWishes f_BadWishes  : Addr} {fdG : FuncData} {tk0 : Tok} (X : K.In h) (G : h.Ns mainGlobals mg) (hfa : mg "law" = some (.ref fa))
    (a0 : FnAt K mg "_law_cell" "_law_cell" sLcell)
    (a1 : FnAt K mg "_law_take" "_law_take" sLtake)
    (a2 : FnAt K mg "_law_name" "_law_name" sLname)
    (a3 : FnAt K mg "_law_names" "_law_names" sLnames)
    (a4 : FnAt K mg "_law_mixed" "_law_mixed" sLmixed)
    (a5 : FnAt K mg "_law_others" "_law_others" sLothers)
    (a6 : FnAt K mg "_law_block_wishes" "_law_block_wishes" sLblockwishes)
    (a7 : FnAt K mg "_law_side_wishes" "_law_side_wishes" sLsidewishes)
    (a8 : FnAt K mg "_law_plain_wishes" "_law_plain_wishes" sLplainwishes)
    (a9 : FnAt K mg "_law_wishes" "_law_wishes" sLwishes)
    (a10 : FnAt K mg "_law_group" "_law_group" sLgroup)
    (a11 : FnAt K mg "_law_copy" "_law_copy" sLcopy)
    (a12 : FnAt K mg "_law_mutual" "_law_mutual" sLmutual)
    (a13 : FnAt K mg "_law_any_dealing" "_law_any_dealing" sLanydealing)
    (a14 : FnAt K mg "_law_dealing_rows" "_law_dealing_rows" sLdealingrows)
    (a15 : FnAt K mg "_law_spoilt_rows" "_law_spoilt_rows" sLspoiltrows)
    (a16 : FnAt K mg "_law_lines" "_law_lines" sLlines)
    (a17 : FnAt K mg "_as_rows" "_as_rows" sasrows)
    (a18 : FnAt K mg "_is_row_of_dealing" "_is_row_of_dealing" sisrowofdealing)
    (a19 : FnAt K mg "dealt" "dealt" sdealt)
    (a20 : FnAt K mg "read_dealing" "read_dealing" sreaddealing)
    (a21 : FnAt K mg "_law_read" "_law_read" sLread)
    (a22 : FnAt K mg "_law_due" "_law_due" sLdue)
    (a23 : FnAt K mg "_law_is_integer" "_law_is_integer" sLisinteger)
    (a24 : FnAt K mg "_law_same" "_law_same" sLsame)
    (a25 : FnAt K mg "_law_value" "_law_value" sLvalue)
    (a26 : FnAt K mg "is_name" "is_name" sisname)
    (a27 : FnAt K mg "bad_index" "bad_index" sbadindex)
    (a28 : FnAt K mg "_check_people" "_check_people" scheckpeople)
    (a29 : FnAt K mg "has_keys" "has_keys" shaskeys)
    (a30 : FnAt K mg "is_lot" "is_lot" sislot)
    (a31 : FnAt K mg "_check_wishes" "_check_wishes" scheckwishes)
    (a32 : FnAt K mg "_open_rows" "_open_rows" sopenrows)
    (a33 : FnAt K mg "_rank_rows" "_rank_rows" srankrows)
    (a34 : FnAt K mg "law" "law" slaw)
    (B : Bl mg) (t_NoText : PySem.QX.OwnTxt l.prog K mg "NoText" "line" C_NoText f_NoText) (t_BadPeople : PySem.QX.OwnTxt l.prog K mg "BadPeople" "index" C_BadPeople f_BadPeople) (t_BadWishes : PySem.QX.OwnTxt l.prog K mg "BadWishes" "person" C_BadWishes f_BadWishes)  (h_MOST_PEOPLE : mg "MOST_PEOPLE" = some (.int 16 tk0)) (g : GTxt K mg C) (mk : Mk K C fG) (FG : Fun K "__init__" "Group.__init__" sGroupinit fG fdG)
    (m0 : MAt K C "_has" "Group._has" sGrouphas)
    (m1 : MAt K C "__contains__" "Group.__contains__" sGroupcontains)
    (m2 : MAt K C "__len__" "Group.__len__" sGrouplen)
       :
    ∃ fd : FuncData, (∀ (s : Shared) (v : Value), BindsTo s fd ⟨[v], []⟩ [("_law_script", v)]) ∧ ∀ base : Heap, K.In base → base.Ns mainGlobals mg → FnOk l.prog w K mg base CX0 8 fa fd ["_law_script"] (spLaw K) := by
  obtain ⟨f, fd, F, hm⟩ := a34.ex
  have e := hfa.symm.trans hm
  cases e
  have F' := F
  obtain ⟨oc, od, kV, doc, pm, an, cdv, ct, osl, rfl, lk, hcd⟩ := F'.ex
  refine ⟨PySem.W.fnOf "law" "law" (defArgs slaw) (defBody slaw) (defScope slaw) .none kV doc pm an cdv ct, fun s v => .of_eq rfl, fun base _ _ => ?_⟩
  have h__law_cell_spCell := a0.cf (P := l.prog) (w := w) (base := base) (fun f fd F => ok_cell F B) (fun _ _ _ _ _ _ us hl => match us, hl with | [_, _], _ => rfl)
  have h__law_take_spTake := a1.cf (P := l.prog) (w := w) (base := base) (fun f fd F => ok_take F B) (fun _ _ _ _ _ _ us hl => match us, hl with | [_, _], _ => rfl)
  have h__law_name_spName := a2.cf (P := l.prog) (w := w) (base := base) (fun f fd F => ok_name F B h__law_take_spTake) (fun _ _ _ _ _ _ us hl => match us, hl with | [_, _], _ => rfl)
  have h__law_names_spNames := a3.cf (P := l.prog) (w := w) (base := base) (fun f fd F => ok_names F B h__law_name_spName) (fun _ _ _ _ _ _ us hl => match us, hl with | [_, _], _ => rfl)
  have h__law_mixed_spMixed := a4.cf (P := l.prog) (w := w) (base := base) (fun f fd F => ok_mixed F B h__law_take_spTake) (fun _ _ _ _ _ _ us hl => match us, hl with | [_, _], _ => rfl)
  have h__law_others_spOthers := a5.cf (P := l.prog) (w := w) (base := base) (fun f fd F => ok_others F B) (fun _ _ _ _ _ _ us hl => match us, hl with | [_, _], _ => rfl)
  have h__law_block_wishes_spWsh := a6.cf (P := l.prog) (w := w) (base := base) (fun f fd F => ok_block F B h__law_take_spTake h__law_mixed_spMixed h__law_others_spOthers) (fun _ _ _ _ _ _ us hl => match us, hl with | [_, _], _ => rfl)
  have h__law_side_wishes_spWsh := a7.cf (P := l.prog) (w := w) (base := base) (fun f fd F => ok_side F B h__law_take_spTake h__law_mixed_spMixed) (fun _ _ _ _ _ _ us hl => match us, hl with | [_, _], _ => rfl)
  have h__law_plain_wishes_spPlain := a8.cf (P := l.prog) (w := w) (base := base) (fun f fd F => ok_plain F B h__law_take_spTake h__law_mixed_spMixed) (fun _ _ _ _ _ _ us hl => match us, hl with | [_, _, _], _ => rfl)
  have h__law_wishes_spWsh := a9.cf (P := l.prog) (w := w) (base := base) (fun f fd F => ok_wishes F B h__law_take_spTake h__law_block_wishes_spWsh h__law_side_wishes_spWsh h__law_plain_wishes_spPlain) (fun _ _ _ _ _ _ us hl => match us, hl with | [_, _], _ => rfl)
  have h__law_group_spGroup := a10.cf (P := l.prog) (w := w) (base := base) (fun f fd F => ok_group F B h__law_take_spTake h__law_names_spNames h__law_wishes_spWsh) (fun _ _ _ _ _ _ us hl => match us, hl with | [_, _], _ => rfl)
  have h__law_copy_spCopy := a11.cf (P := l.prog) (w := w) (base := base) (fun f fd F => ok_copy F B) (fun _ _ _ _ _ _ us hl => match us, hl with | [_], _ => rfl)
  have h__law_mutual_spMut := a12.cf (P := l.prog) (w := w) (base := base) (fun f fd F => ok_mut F B) (fun _ _ _ _ _ _ us hl => match us, hl with | [_, _], _ => rfl)
  have h__law_any_dealing_spAny := a13.cf (P := l.prog) (w := w) (base := base) (fun f fd F => ok_any F B h__law_take_spTake h__law_mixed_spMixed) (fun _ _ _ _ _ _ us hl => match us, hl with | [_, _], _ => rfl)
  have h__law_dealing_rows_spLDR := a14.cf (P := l.prog) (w := w) (base := base) (fun f fd F => ok_ldr F B) (fun _ _ _ _ _ _ us hl => match us, hl with | [_], _ => rfl)
  have h__law_spoilt_rows_spSpoil := a15.cf (P := l.prog) (w := w) (base := base) (fun f fd F => ok_spoil F B h__law_take_spTake) (fun _ _ _ _ _ _ us hl => match us, hl with | [_, _, _], _ => rfl)
  have h__law_lines_spLT := a16.cf (P := l.prog) (w := w) (base := base) (fun f fd F => ok_llt F B) (fun _ _ _ _ _ _ us hl => match us, hl with | [_], _ => rfl)
  have h__as_rows_spAR := a17.cf (P := l.prog) (w := w) (base := base) (fun f fd F => ok_asrows F B) (fun _ _ _ _ _ _ us hl => match us, hl with | [_], _ => rfl)
  have h_Group__has_spHasG := m0.mf (P := l.prog) (w := w) (base := base) (fun f fd F => ok_hasG F B g) (fun _ _ _ _ _ _ us hl => match us, hl with | [_, _], _ => rfl)
  have h_Group___contains___spConX := m1.mf (P := l.prog) (w := w) (base := base) (fun f fd F => ok_conX F B g h_Group__has_spHasG) (fun _ _ _ _ _ _ us hl => match us, hl with | [_, _], _ => rfl)
  have h__is_row_of_dealing_spRK := a18.cf (P := l.prog) (w := w) (base := base) (fun f fd F => ok_rk F B h_Group___contains___spConX) (fun _ _ _ _ _ _ us hl => match us, hl with | [_, _], _ => rfl)
  have h_dealt_spDealt := a19.cf (P := l.prog) (w := w) (base := base) (fun f fd F => ok_dealt F B) (fun _ _ _ _ _ _ us hl => match us, hl with | [_, _, _], _ => rfl)
  have h_Group___len___spLenM := m2.mf (P := l.prog) (w := w) (base := base) (fun f fd F => ok_lenM F B g) (fun _ _ _ _ _ _ us hl => match us, hl with | [_], _ => rfl)
  have h_read_dealing_spRD := a20.cf (P := l.prog) (w := w) (base := base) (fun f fd F => ok_rd F B g t_NoText h__as_rows_spAR h__is_row_of_dealing_spRK h_dealt_spDealt h_Group___len___spLenM) (fun _ _ _ _ _ _ us hl => match us, hl with | [_, _], _ => rfl)
  have h__law_read_spRdL := a21.cf (P := l.prog) (w := w) (base := base) (fun f fd F => ok_rdl F B t_NoText h_read_dealing_spRD) (fun _ _ _ _ _ _ us hl => match us, hl with | [_, _], _ => rfl)
  have h__law_due_spDue := a22.cf (P := l.prog) (w := w) (base := base) (fun f fd F => ok_due F B) (fun _ _ _ _ _ _ us hl => match us, hl with | [_, _], _ => rfl)
  have h__law_is_integer_spInt := a23.cf (P := l.prog) (w := w) (base := base) (fun f fd F => ok_int F B) (fun _ _ _ _ _ _ us hl => match us, hl with | [_], _ => rfl)
  have h__law_same_spSame0 := a24.cf (P := l.prog) (w := w) (base := base) (fun f fd F => ok_same0 F B) (fun _ _ _ _ _ _ us hl => match us, hl with | [_, _], _ => rfl)
  have h__law_same_spSmD := a24.cf (P := l.prog) (w := w) (base := base) (fun f fd F => ok_smd F B h__law_is_integer_spInt h__law_same_spSame0) (fun _ _ _ _ _ _ us hl => match us, hl with | [_, _], _ => rfl)
  have h__law_value_spVal := a25.cf (P := l.prog) (w := w) (base := base) (fun f fd F => ok_val F B h__law_take_spTake) (fun _ _ _ _ _ _ us hl => match us, hl with | [_], _ => rfl)
  have h_is_name_spIsName := a26.cf (P := l.prog) (w := w) (base := base) (fun f fd F => ok_isname F B) (fun _ _ _ _ _ _ us hl => match us, hl with | [_], _ => rfl)
  have h_bad_index_spBad := a27.cf (P := l.prog) (w := w) (base := base) (fun f fd F => ok_bad F B) (fun _ _ _ _ _ _ us hl => match us, hl with | [_, _], _ => rfl)
  have h__check_people_spCP := a28.cf (P := l.prog) (w := w) (base := base) (fun f fd F => ok_cp F B t_BadPeople h_MOST_PEOPLE h_is_name_spIsName h_bad_index_spBad) (fun _ _ _ _ _ _ us hl => match us, hl with | [_], _ => rfl)
  have h_has_keys_spHas := a29.cf (P := l.prog) (w := w) (base := base) (fun f fd F => ok_has F B) (fun _ _ _ _ _ _ us hl => match us, hl with | [_, _], _ => rfl)
  have h_is_lot_spLot := a30.cf (P := l.prog) (w := w) (base := base) (fun f fd F => ok_lot F B h_bad_index_spBad) (fun _ _ _ _ _ _ us hl => match us, hl with | [_, _], _ => rfl)
  have h__check_wishes_spCW := a31.cf (P := l.prog) (w := w) (base := base) (fun f fd F => ok_cw F B t_BadWishes h_has_keys_spHas h_is_lot_spLot) (fun _ _ _ _ _ _ us hl => match us, hl with | [_, _], _ => rfl)
  have h__open_rows_spOR := a32.cf (P := l.prog) (w := w) (base := base) (fun f fd F => ok_or F) (fun _ _ _ _ _ _ us hl => match us, hl with | [_], _ => rfl)
  have h__rank_rows_spRR := a33.cf (P := l.prog) (w := w) (base := base) (fun f fd F => ok_rr F B) (fun _ _ _ _ _ _ us hl => match us, hl with | [_], _ => rfl)
  have bG := FG.binds (ps := ["self", "people", "wishes"]) (fun _ _ _ _ _ _ us hl => match us, hl with | [_, _, _], _ => rfl)
  have gi := ok_gi (P := l.prog) (w := w) (base := base) FG B g h__check_people_spCP h__check_wishes_spCW h__open_rows_spOR h__rank_rows_spRR
  exact ok_law F B ⟨h__law_cell_spCell, h__law_take_spTake, h__law_group_spGroup, h__law_copy_spCopy, h__law_mutual_spMut, h__law_any_dealing_spAny, h__law_dealing_rows_spLDR, h__law_spoilt_rows_spSpoil, h__law_lines_spLT, h__law_read_spRdL, h__law_due_spDue, h__law_same_spSmD, h__law_value_spVal, g, mk, ⟨_, gi, bG⟩⟩
end
theorem walk {l : PySem.W.OpenLaw} {q : Program} {loose : List Str} {XP : (Str → Option Value) → Heap → Prop} {YP : World → Heap → Prop} {d : DefRec} {K : Params → PySem.W.Frag} (hn : l.most = some 63) (hdf : d.params.defaults = [])
    (hY : ∀ (w : World) (h : Heap), YP w h → (K w.params).In h)
    (F : ∀ (w : World) (mg : Str → Option Value) (fa : Addr) (h : Heap), (K w.params).In h → h.Ns mainGlobals mg → mg d.name = some (.ref fa) →
      ∃ fd : FuncData, (∀ (s : Shared) (u : Value), BindsTo s fd ⟨[u], []⟩ [("_law_script", u)]) ∧ ∀ base : Heap, (K w.params).In base → base.Ns mainGlobals mg → FnOk l.prog w (K w.params) mg base CX0 8 fa fd ["_law_script"] (spLaw (K w.params))) :
    PySem.W.WalkO q loose XP YP l.row.toRowW d [] (fun f vs => PySem.call f vs) :=
  L2.walk_of (n := 63) (k := 8) (x := "_law_script") (CX := fun _ => CX0) (sp := fun w => spLaw (K w.params)) hn (by decide) hdf ⟨rfl, by decide, by decide⟩ hY F (fun _ _ a ns hl _ hS => ⟨a, ns, rfl, hS, hl, fun _ => rfl⟩) fun _ _ _ _ _ z => z
end Qp
open PySem PySem.W PyProof.Rows
set_option maxRecDepth 100000 in
set_option maxHeartbeats 0 in
theorem PySem.Challenge.cw_quietpairs_k89_spoilt_lines_of_dealings_holds : PySem.Challenge.rw_quietpairs_k89_spoilt_lines_of_dealings.Holds := by
  w_on; o_law; k_head; (case hw => w_witness2)
  k_fill
  refine Qp.walk (l := PySem.Challenge.rw_quietpairs_k89_spoilt_lines_of_dealings) rfl rfl (fun w h Y => PySem.W.kIn_of Y) ?F
  case F =>
    intro w mg fa h KX G hmg
    refine' Qp.all_mk KX G hmg (Qp.fnAt KX G ?a0 ?l0 ?c0 ?k0) (Qp.fnAt KX G ?a1 ?l1 ?c1 ?k1) (Qp.fnAt KX G ?a2 ?l2 ?c2 ?k2) (Qp.fnAt KX G ?a3 ?l3 ?c3 ?k3) (Qp.fnAt KX G ?a4 ?l4 ?c4 ?k4) (Qp.fnAt KX G ?a5 ?l5 ?c5 ?k5) (Qp.fnAt KX G ?a6 ?l6 ?c6 ?k6) (Qp.fnAt KX G ?a7 ?l7 ?c7 ?k7) (Qp.fnAt KX G ?a8 ?l8 ?c8 ?k8) (Qp.fnAt KX G ?a9 ?l9 ?c9 ?k9) (Qp.fnAt KX G ?a10 ?l10 ?c10 ?k10) (Qp.fnAt KX G ?a11 ?l11 ?c11 ?k11) (Qp.fnAt KX G ?a12 ?l12 ?c12 ?k12) (Qp.fnAt KX G ?a13 ?l13 ?c13 ?k13) (Qp.fnAt KX G ?a14 ?l14 ?c14 ?k14) (Qp.fnAt KX G ?a15 ?l15 ?c15 ?k15) (Qp.fnAt KX G ?a16 ?l16 ?c16 ?k16) (Qp.fnAt KX G ?a17 ?l17 ?c17 ?k17) (Qp.fnAt KX G ?a18 ?l18 ?c18 ?k18) (Qp.fnAt KX G ?a19 ?l19 ?c19 ?k19) (Qp.fnAt KX G ?a20 ?l20 ?c20 ?k20) (Qp.fnAt KX G ?a21 ?l21 ?c21 ?k21) (Qp.fnAt KX G ?a22 ?l22 ?c22 ?k22) (Qp.fnAt KX G ?a23 ?l23 ?c23 ?k23) (Qp.fnAt KX G ?a24 ?l24 ?c24 ?k24) (Qp.fnAt KX G ?a25 ?l25 ?c25 ?k25) (Qp.fnAt KX G ?a26 ?l26 ?c26 ?k26) (Qp.fnAt KX G ?a27 ?l27 ?c27 ?k27) (Qp.fnAt KX G ?a28 ?l28 ?c28 ?k28) (Qp.fnAt KX G ?a29 ?l29 ?c29 ?k29) (Qp.fnAt KX G ?a30 ?l30 ?c30 ?k30) (Qp.fnAt KX G ?a31 ?l31 ?c31 ?k31) (Qp.fnAt KX G ?a32 ?l32 ?c32 ?k32) (Qp.fnAt KX G ?a33 ?l33 ?c33 ?k33) (Qp.fnAt KX G ?a34 ?l34 ?c34 ?k34) ⟨mg_none_of KX G ?z0, mg_none_of KX G ?z1, mg_none_of KX G ?z2, mg_none_of KX G ?z3, mg_none_of KX G ?z4, mg_none_of KX G ?z5, mg_none_of KX G ?z6, mg_none_of KX G ?z7, mg_none_of KX G ?z8, mg_none_of KX G ?z9, mg_none_of KX G ?z10, mg_none_of KX G ?z11, mg_none_of KX G ?z12, mg_none_of KX G ?z13, mg_none_of KX G ?z14, mg_none_of KX G ?z15, mg_none_of KX G ?z16⟩ (Qp.ownAt KX G ?eNoTextgC ?eNoTextgS ?eNoTextxL ?eNoTextqL ?eNoTextqI ?eNoTextsa ?eNoTextga ?eNoTextgg ?eNoTextnoN ?eNoTextiC ?eNoTexttC ?eNoTextkC ?eNoTextexC ?eNoTextveC ?eNoTextslC ?eNoTexttyC ?eNoTexthdC ?eNoTextcC ?eNoTextsC ?eNoTextop ?eNoTexttop ?eNoTextlk ?eNoTextcd ?eNoTexthl ?eNoTextlc ?eNoTextlf ?eNoTexthf ?eNoTextlcc rfl rfl rfl rfl rfl (fun _ _ _ _ _ _ _ _ _ _ _ _ _ => .of_eq rfl) (fun _ _ => rfl) (fun _ _ => rfl)) (Qp.ownAt KX G ?eBadPeoplegC ?eBadPeoplegS ?eBadPeoplexL ?eBadPeopleqL ?eBadPeopleqI ?eBadPeoplesa ?eBadPeoplega ?eBadPeoplegg ?eBadPeoplenoN ?eBadPeopleiC ?eBadPeopletC ?eBadPeoplekC ?eBadPeopleexC ?eBadPeopleveC ?eBadPeopleslC ?eBadPeopletyC ?eBadPeoplehdC ?eBadPeoplecC ?eBadPeoplesC ?eBadPeopleop ?eBadPeopletop ?eBadPeoplelk ?eBadPeoplecd ?eBadPeoplehl ?eBadPeoplelc ?eBadPeoplelf ?eBadPeoplehf ?eBadPeoplelcc rfl rfl rfl rfl rfl (fun _ _ _ _ _ _ _ _ _ _ _ _ _ => .of_eq rfl) (fun _ _ => rfl) (fun _ _ => rfl)) (Qp.ownAt KX G ?eBadWishesgC ?eBadWishesgS ?eBadWishesxL ?eBadWishesqL ?eBadWishesqI ?eBadWishessa ?eBadWishesga ?eBadWishesgg ?eBadWishesnoN ?eBadWishesiC ?eBadWishestC ?eBadWisheskC ?eBadWishesexC ?eBadWishesveC ?eBadWishesslC ?eBadWishestyC ?eBadWisheshdC ?eBadWishescC ?eBadWishessC ?eBadWishesop ?eBadWishestop ?eBadWisheslk ?eBadWishescd ?eBadWisheshl ?eBadWisheslc ?eBadWisheslf ?eBadWisheshf ?eBadWisheslcc rfl rfl rfl rfl rfl (fun _ _ _ _ _ _ _ _ _ _ _ _ _ => .of_eq rfl) (fun _ _ => rfl) (fun _ _ => rfl)) (mg_of KX G ?hC0) (Qp.gAt KX G ?aC ?pg ?hd ?po ?sa ?n1 ?n2 ?n3 ?n4) ⟨?mk, ?i1, ?i2, ?kc⟩ (L2.fun_mk (st := Qp.sGroupinit) ?i3 ?i4 ?i5) (Qp.mAt ?ma0 ?mi0 ?ml0 ?mc0 ?mk0) (Qp.mAt ?ma1 ?mi1 ?ml1 ?mc1 ?mk1) (Qp.mAt ?ma2 ?mi2 ?ml2 ?mc2 ?mk2)
    (case a0 => k_is); (case l0 => k_is); (case c0 => k_is); (case k0 => k_is)
    (case a1 => k_is); (case l1 => k_is); (case c1 => k_is); (case k1 => k_is)
    (case a2 => k_is); (case l2 => k_is); (case c2 => k_is); (case k2 => k_is)
    (case a3 => k_is); (case l3 => k_is); (case c3 => k_is); (case k3 => k_is)
    (case a4 => k_is); (case l4 => k_is); (case c4 => k_is); (case k4 => k_is)
    (case a5 => k_is); (case l5 => k_is); (case c5 => k_is); (case k5 => k_is)
    (case a6 => k_is); (case l6 => k_is); (case c6 => k_is); (case k6 => k_is)
    (case a7 => k_is); (case l7 => k_is); (case c7 => k_is); (case k7 => k_is)
    (case a8 => k_is); (case l8 => k_is); (case c8 => k_is); (case k8 => k_is)
    (case a9 => k_is); (case l9 => k_is); (case c9 => k_is); (case k9 => k_is)
    (case a10 => k_is); (case l10 => k_is); (case c10 => k_is); (case k10 => k_is)
    (case a11 => k_is); (case l11 => k_is); (case c11 => k_is); (case k11 => k_is)
    (case a12 => k_is); (case l12 => k_is); (case c12 => k_is); (case k12 => k_is)
    (case a13 => k_is); (case l13 => k_is); (case c13 => k_is); (case k13 => k_is)
    (case a14 => k_is); (case l14 => k_is); (case c14 => k_is); (case k14 => k_is)
    (case a15 => k_is); (case l15 => k_is); (case c15 => k_is); (case k15 => k_is)
    (case a16 => k_is); (case l16 => k_is); (case c16 => k_is); (case k16 => k_is)
    (case a17 => k_is); (case l17 => k_is); (case c17 => k_is); (case k17 => k_is)
    (case a18 => k_is); (case l18 => k_is); (case c18 => k_is); (case k18 => k_is)
    (case a19 => k_is); (case l19 => k_is); (case c19 => k_is); (case k19 => k_is)
    (case a20 => k_is); (case l20 => k_is); (case c20 => k_is); (case k20 => k_is)
    (case a21 => k_is); (case l21 => k_is); (case c21 => k_is); (case k21 => k_is)
    (case a22 => k_is); (case l22 => k_is); (case c22 => k_is); (case k22 => k_is)
    (case a23 => k_is); (case l23 => k_is); (case c23 => k_is); (case k23 => k_is)
    (case a24 => k_is); (case l24 => k_is); (case c24 => k_is); (case k24 => k_is)
    (case a25 => k_is); (case l25 => k_is); (case c25 => k_is); (case k25 => k_is)
    (case a26 => k_is); (case l26 => k_is); (case c26 => k_is); (case k26 => k_is)
    (case a27 => k_is); (case l27 => k_is); (case c27 => k_is); (case k27 => k_is)
    (case a28 => k_is); (case l28 => k_is); (case c28 => k_is); (case k28 => k_is)
    (case a29 => k_is); (case l29 => k_is); (case c29 => k_is); (case k29 => k_is)
    (case a30 => k_is); (case l30 => k_is); (case c30 => k_is); (case k30 => k_is)
    (case a31 => k_is); (case l31 => k_is); (case c31 => k_is); (case k31 => k_is)
    (case a32 => k_is); (case l32 => k_is); (case c32 => k_is); (case k32 => k_is)
    (case a33 => k_is); (case l33 => k_is); (case c33 => k_is); (case k33 => k_is)
    (case a34 => k_is); (case l34 => k_is); (case c34 => k_is); (case k34 => k_is)
    (case z0 => k_is); (case z1 => k_is); (case z2 => k_is); (case z3 => k_is); (case z4 => k_is); (case z5 => k_is); (case z6 => k_is); (case z7 => k_is); (case z8 => k_is); (case z9 => k_is); (case z10 => k_is); (case z11 => k_is); (case z12 => k_is); (case z13 => k_is); (case z14 => k_is); (case z15 => k_is); (case z16 => k_is)
    (case eNoTextgC => k_is)
    (case eNoTextgS => k_is)
    (case eNoTextxL => k_is)
    (case eNoTextqL => k_is)
    (case eNoTextqI => k_is)
    (case eNoTextsa => k_is)
    (case eNoTextga => k_is)
    (case eNoTextgg => k_is)
    (case eNoTextnoN => k_is)
    (case eNoTextiC => k_is)
    (case eNoTexttC => k_is)
    (case eNoTextkC => k_is)
    (case eNoTextexC => k_is)
    (case eNoTextveC => k_is)
    (case eNoTextslC => k_is)
    (case eNoTexttyC => k_is)
    (case eNoTexthdC => k_is)
    (case eNoTextcC => first | rfl | k_is)
    (case eNoTextsC => first | rfl | k_is)
    (case eNoTextop => k_is)
    (case eNoTexttop => rfl)
    (case eNoTextlk => k_is)
    (case eNoTextcd => k_is)
    (case eNoTexthl => first | rfl | decide +kernel)
    (case eNoTextlc => k_is)
    (case eNoTextlf => first | rfl | k_is)
    (case eNoTexthf => first | rfl | decide +kernel)
    (case eNoTextlcc => k_is)
    (case eBadPeoplegC => k_is)
    (case eBadPeoplegS => k_is)
    (case eBadPeoplexL => k_is)
    (case eBadPeopleqL => k_is)
    (case eBadPeopleqI => k_is)
    (case eBadPeoplesa => k_is)
    (case eBadPeoplega => k_is)
    (case eBadPeoplegg => k_is)
    (case eBadPeoplenoN => k_is)
    (case eBadPeopleiC => k_is)
    (case eBadPeopletC => k_is)
    (case eBadPeoplekC => k_is)
    (case eBadPeopleexC => k_is)
    (case eBadPeopleveC => k_is)
    (case eBadPeopleslC => k_is)
    (case eBadPeopletyC => k_is)
    (case eBadPeoplehdC => k_is)
    (case eBadPeoplecC => first | rfl | k_is)
    (case eBadPeoplesC => first | rfl | k_is)
    (case eBadPeopleop => k_is)
    (case eBadPeopletop => rfl)
    (case eBadPeoplelk => k_is)
    (case eBadPeoplecd => k_is)
    (case eBadPeoplehl => first | rfl | decide +kernel)
    (case eBadPeoplelc => k_is)
    (case eBadPeoplelf => first | rfl | k_is)
    (case eBadPeoplehf => first | rfl | decide +kernel)
    (case eBadPeoplelcc => k_is)
    (case eBadWishesgC => k_is)
    (case eBadWishesgS => k_is)
    (case eBadWishesxL => k_is)
    (case eBadWishesqL => k_is)
    (case eBadWishesqI => k_is)
    (case eBadWishessa => k_is)
    (case eBadWishesga => k_is)
    (case eBadWishesgg => k_is)
    (case eBadWishesnoN => k_is)
    (case eBadWishesiC => k_is)
    (case eBadWishestC => k_is)
    (case eBadWisheskC => k_is)
    (case eBadWishesexC => k_is)
    (case eBadWishesveC => k_is)
    (case eBadWishesslC => k_is)
    (case eBadWishestyC => k_is)
    (case eBadWisheshdC => k_is)
    (case eBadWishescC => first | rfl | k_is)
    (case eBadWishessC => first | rfl | k_is)
    (case eBadWishesop => k_is)
    (case eBadWishestop => rfl)
    (case eBadWisheslk => k_is)
    (case eBadWishescd => k_is)
    (case eBadWisheshl => first | rfl | decide +kernel)
    (case eBadWisheslc => k_is)
    (case eBadWisheslf => first | rfl | k_is)
    (case eBadWisheshf => first | rfl | decide +kernel)
    (case eBadWisheslcc => k_is)
    (case hC0 => k_is)
    (case aC => k_is)
    (case pg => k_is)
    (case hd => k_is)
    (case po => k_is)
    (case sa => k_is)
    (case n1 => k_is)
    (case n2 => k_is)
    (case n3 => k_is)
    (case n4 => k_is)
    (case mk => k_is)
    (case i1 => k_is)
    (case i2 => k_is)
    (case kc => k_is)
    (case i3 => k_is)
    (case i4 => k_is)
    (case i5 => k_is)
    (case ma0 => k_is); (case mi0 => k_is); (case ml0 => k_is); (case mc0 => k_is); (case mk0 => k_is)
    (case ma1 => k_is); (case mi1 => k_is); (case ml1 => k_is); (case mc1 => k_is); (case mk1 => k_is)
    (case ma2 => k_is); (case mi2 => k_is); (case ml2 => k_is); (case mc2 => k_is); (case mk2 => k_is)
