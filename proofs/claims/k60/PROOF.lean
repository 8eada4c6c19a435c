import PyProof.Rows.All
import Wide.All
import OpenK.AllK
import Wide.FinOn
import PyProof.EqAt
import PyProof.EqKinds
import PyProof.TupleCall
import KE.GoesEnum
import HandS.Base
import HandS.Call
import HandS.List
import HandS.Comp
import HandS.Dict
import HandS.Iter
import HandS.Walk
import HandS.Words
import KE.KEqDict
import HandS.More
import KE.KFromBytes
import KE.KExcSuper
import HandS.Ends
import HandS.Exc
import HandS.TryOnly
import HandS.ExcOwn
import HandS.WordsExc
import HandS.ForMost
import HandS.IsInst
import HandS.DictComp
import HandS.Deep
import HandS.TupAny
import HandS.GenCall
import HandS.WideBits
import PyProof.WalksMore
import KE.KOwnIter
import HandS.IterVal
import PyProof.Rows.SortShell
import KE.KSortTup
import HandS.Sort
import HandS.SortOrd
import HandS.SortRule
import PyProof.StrOps
import HandS.DictEq
import PyProof.P3Eq
import HandS.DeepEq
import HandS.TryMany
import HandS.ExcInit
import KE.SortData
import HandS.GenYield
import HandS.GenList
import PySem.Challenge.RW_quietpairs_k60_whole_middle_algebra
set_option Elab.async false
set_option linter.all false
set_option maxRecDepth 100000
set_option maxHeartbeats 8000000
/-! enumerate over a tuple -/
namespace L2
open PySem PySem.Spec PyProof.Rows

theorem q_enum_newT {t : Addr} {items : Array Value} :
    Meets (Builtin.«enumerate.__new__» ⟨[.type "enumerate", .ref t], []⟩) (fun _ R s => s.heap.IsTuple t items ∧
      R (.ok (.ret (.ref (s.heap.push { cls := .type "tuple_iterator", data := .fields #[.ref t, .int 0 0] }).objs.size))) { s with heap := (s.heap.push { cls := .type "tuple_iterator", data := .fields #[.ref t, .int 0 0] }).push { cls := .type "enumerate", data := .fields #[.none, .bool false, .ref s.heap.objs.size, rawInt 0, .none, .none] } }) :=
  .of_wp fun prog w A R s h => by
    obtain ⟨hp, g, d, tk, os⟩ := s; obtain ⟨h1, h⟩ := h
    have hsub := sub_enumerate
    have q1 : ∀ {A' : Around} {E : Value → Shared → Prop} {Q : Value → Shared → Prop}, Q (.ref hp.objs.size) ⟨hp.push { cls := .type "tuple_iterator", data := .fields #[.ref t, .int 0 0] }, g, d, tk, os⟩ → wpAny (model prog w) A' (pyIter (.ref t)) Q E ⟨hp, g, d, tk, os⟩ :=
      fun q => (begins_tuple t items).iter prog w _ _ ⟨hp, g, d, tk, os⟩ _ h1 q
    wp_walk using q1
    refine wpAny_stack_any fun st => wpAny_pure ?_
    split
    · rename_i c _ _ _ _ _
      cases (c == Value.type "enumerate")
      · wp_walk using q1
        exact ⟨_, rfl, h⟩
      · wp_walk using q1
        exact ⟨_, rfl, h⟩
    · wp_walk using q1
      exact ⟨_, rfl, h⟩
theorem q_call_enumT {prog : Program} {w : World} {A : Around} {E : Value → Shared → Prop} {s : Shared} {l : Addr} {items : Array Value} {Q : Value → Shared → Prop} (hL : s.heap.IsTuple l items)
    (h : ∀ h', IsEnum h' (s.heap.objs.size + 1) s.heap.objs.size 0 .none → h'.IsTupleIter s.heap.objs.size l 0 → h'.objs.size = s.heap.objs.size + 2 →
      (∀ b o, s.heap.get? b = some o → h'.get? b = some o) → Q (.ref (s.heap.objs.size + 1)) { s with heap := h' }) :
    wpAny (model prog w) A (call (.type "enumerate") [.ref l]) Q E s := by
  refine callType_new F.called_enumerate (by decide) (F.typeCall_enumerate_1 _) (F.newCall_enumerate_1 _) (fun obj => F.args_object_init_2 obj _) F.entry_enumerate_new
    (q_enum_newT (items := items)) ⟨hL, ?_⟩
  have hz : (s.heap.push { cls := .type "tuple_iterator", data := .fields #[.ref l, .int 0 0] }).objs.size = s.heap.objs.size + 1 := Heap.size_push ..
  show _ ∧ _
  rw [hz]
  have he : IsEnum ((s.heap.push { cls := .type "tuple_iterator", data := .fields #[.ref l, .int 0 0] }).push
      { cls := .type "enumerate", data := .fields #[.none, .bool false, .ref s.heap.objs.size, rawInt 0, .none, .none] }) (s.heap.objs.size + 1) s.heap.objs.size 0 .none := by
    have := Heap.get?_push_size (s.heap.push { cls := .type "tuple_iterator", data := .fields #[.ref l, .int 0 0] })
      (o := { cls := .type "enumerate", data := .fields #[.none, .bool false, .ref s.heap.objs.size, rawInt 0, .none, .none] }) rfl
    rw [hz] at this; exact this
  refine ⟨⟨_, he, rfl⟩, h _ he ⟨_, Heap.get?_push_of_some _ (Heap.get?_push_size _ rfl), rfl, rfl⟩ (by rw [Heap.size_push, hz]) fun b o x => Heap.get?_push_of_some _ (Heap.get?_push_of_some _ x)⟩

def IteT (K : PySem.W.Frag) (a : Addr) : It :=
  ⟨fun i H => ∃ (xs : List V) (x : V), SqT K H a xs ∧ xs[i]? = some x, fun i H v H' => ∃ T x, v = .ref T ∧ H T = none ∧ H' = upd H T (.tup [.int (i : Nat), x]) ∧ ∀ xs, SqT K H a xs → xs[i]? = some x, fun i H => ∃ xs : List V, SqT K H a xs ∧ xs.length ≤ i⟩
theorem tupIter_isTuple {h : Heap} {a : Addr} {its : Array Value} (p : IsTup h a its) : h.IsTuple a its := p
theorem turn_enumT {P : Program} {w : World} {K : PySem.W.Frag} {elts : List Expr} {kk : Nat} {tpos : Pos} (a e it : Addr) :
    Turn P w K (.Tuple elts kk tpos) (IteT K a) [e, it] e (fun i h => (∃ old, IsEnum h e it ((i : Nat) : Int) old) ∧ h.IsTupleIter it a i ∧ e ≠ it) where
  mem := by simp
  obj := fun i h st b hb => by
    obtain ⟨⟨old, he⟩, ⟨o, ho, hc, hd⟩, _⟩ := st
    have e' : b = e ∨ b = it := by simpa using hb
    rcases e' with z | z
    · rw [z]; exact ⟨_, he, fun v q => nomatch q⟩
    · rw [z]; exact ⟨o, ho, fun v q => by rw [hd] at q; cases q⟩
  keep := fun i h h' st k => let ⟨⟨old, he⟩, hi, hne⟩ := st; ⟨⟨old, k e (by simp) _ he⟩, hi.at fun o q => k it (by simp) o q, hne⟩
  item := by
    intro X hP hw hK hc i pins s σ H E I hf st hg
    subst hP hw hK
    obtain ⟨⟨old, he⟩, hit, hne⟩ := st
    obtain ⟨xs, x, hq, hx⟩ := hg
    obtain ⟨its, rv, p, hz⟩ := I.tuple hq
    obtain ⟨u, hu, ru⟩ := rv.get hx
    have hel : e < s.heap.objs.size := Heap.lt_size he
    have hil : it < s.heap.objs.size := by obtain ⟨_, q, _⟩ := hit; exact Heap.lt_size q
    have hilt : i < its.toArray.size := by
      have := (List.getElem?_eq_some_iff.mp hu).1
      simpa using this
    have hai : a ≠ it := by
      obtain ⟨o1, e1, _, n1, d1⟩ := p
      obtain ⟨o2, e2, _, d2⟩ := hit
      intro z; rw [z, e2] at e1; cases e1; rw [d2] at d1; cases d1
    have hae : a ≠ e := by
      obtain ⟨o1, e1, _, n1, d1⟩ := p
      intro z
      rw [z, he] at e1; cases e1; cases d1
    have D := Draws.tuple (prog := X.prog) (w := X.w) (A := X.A.in1) (by rw [show X.A.in1.handled = none from I.ok.hd hc]) it a hai its.toArray
    refine wpAny_pyNext_enum_itemD D he ⟨hit, p⟩ hilt hne (by
      intro z
      have z' : e = it ∨ e = a := by simpa using z
      rcases z' with z | z
      · exact hne z
      · exact hae z.symm) fun x' h' tk hx' ho hst' hT hsz hk => ?_
    have hxu : x' = u := by
      have e1 : its.toArray[i]? = some u := by simpa using hu
      rw [e1] at hx'; exact (Option.some.inj hx').symm
    subst hxu
    obtain ⟨hit', _⟩ := hst'
    refine ⟨_, rfl, wpAny_letOwnedTupleGo_enum (s := { s with heap := h', toks := tk + 1 }) ho fun h'' he' sb => ?_⟩
    have hT2 : h''.get? s.heap.objs.size = some { cls := .type "tuple", data := .seq #[.int i tk, x'] } := (sb.2 _ (Nat.ne_of_gt hel)).trans hT
    have new : ObjOk X.prog X.w (upd H s.heap.objs.size (.tup [.int (i : Nat), x])) h'' s.heap.objs.size (.tup [.int (i : Nat), x]) :=
      ⟨by show 2 ≤ sizeLine; decide, [.int i tk, x'], .cons ⟨_, rfl⟩ (.cons ru .nil), ⟨_, hT2, rfl, _, rfl⟩⟩
    have I1 : Inv X pins σ (upd H s.heap.objs.size (.tup [.int (i : Nat), x])) { s with heap := h'', toks := tk + 1 } :=
      I.turnedNew (ch := [e, it]) (fun b ob hb q => (sb.2 b (fun z => hb (by simp [z]))).trans (hk b ob (fun z => hb (by simp [z])) (fun z => hb (by simp [z])) q)) hf (Nat.le_refl _) new
    refine ⟨.ref s.heap.objs.size, _, I1, rfl, ⟨_, x, rfl, I.hok.fresh (Nat.le_refl _), rfl, fun ys hy => by rw [I.tuple_inj hy hq]; exact hx⟩, ⟨⟨x', ?_⟩, hit'.at fun o q => (sb.2 it (Ne.symm hne)).trans q, hne⟩, fun b hb => ?_⟩
    · have e1 : ((i + 1 : Nat) : Int) = (i : Int) + 1 := by omega
      rw [e1]; exact he'
    · have hb' : b < s.heap.objs.size := by
        have e' : b = e ∨ b = it := by simpa using hb
        rcases e' with z | z
        · rw [z]; exact hel
        · rw [z]; exact hil
      rw [upd_ne (Nat.ne_of_lt hb')]
      exact (hf b hb).1
  done := by
    intro X hP hw hK hc i pins s σ H E I hf st hg
    subst hP hw hK
    obtain ⟨⟨old, he⟩, hit, hne⟩ := st
    obtain ⟨xs, hq, hx⟩ := hg
    obtain ⟨its, rv, p, hz⟩ := I.tuple hq
    obtain ⟨f0, f1, f2, f3, f4, f5⟩ := hf it (by simp)
    have hl := rv.length
    have hai : a ≠ it := by
      obtain ⟨o1, e1, _, n1, d1⟩ := p
      obtain ⟨o2, e2, _, d2⟩ := hit
      intro z; rw [z, e2] at e1; cases e1; rw [d2] at d1; cases d1
    have hnone : its.toArray[i]? = none := by simp; omega
    unfold pyNext
    have hT : s.TypeIs (.ref e) "enumerate" := ⟨_, he, rfl⟩
    refine wpAny_bind (wpAny_attempt (wpAny_callSpecial?_slot (name := Str.ofString "__next__") hT F.slot_enumerate_next
      (wpAny_call_entry F.slot_enumerate_next hT F.entry_enumerate_next ?_ (F.args_enumerate_next_1 _))))
    show wpAny _ _ (field (.ref e) 2 >>= _) _ _ _
    refine wpAny_bind (wpAny_field he rfl (x := .ref it) rfl ?_)
    refine wpAny_bind (wpAny_nextOf_tuple_end (by rw [show X.A.in1.handled = none from I.ok.hd hc]) hit p hnone fun h' x he' hx' => ?_)
    obtain ⟨o, ho, hc'⟩ := hx'
    refine wpAny_bind (wpAny_isInstance (T := "StopIteration") (b := true) ⟨o, ho, hc'⟩ isSubtype_stop ?_)
    exact wpAny_pure ⟨rfl, I.turned (t' := s.toks) (fun b o hb q => he' b o hb q) f0 f1 f3 f4 f5⟩
  self := fun A i s Q E st h => let ⟨⟨_, he⟩, _⟩ := st; wpAny_pyIter_enum he h
theorem walk_enumT {K : PySem.W.Frag} {a : Addr} {xs : List V} : Walk (IteT K a) xs.length (fun H => SqT K H a xs) (YPair (fun i => some (.int (i : Nat))) (fun i => xs[i]?)) := by
  refine ⟨fun i _ hi q => ⟨xs, xs[i], q, by simp [hi]⟩, fun _ q => ⟨xs, q, Nat.le_refl _⟩, fun i H v H' _ q y => ?_⟩
  obtain ⟨T, x, h1, h2, h3, h4⟩ := y
  exact ⟨T, .int (i : Nat), x, h1, h2, h3, rfl, h4 xs q⟩
theorem enum_or {K : PySem.W.Frag} {H : Hp} {a : Addr} {xs : List V} {R : It → Hp → Prop} (hq : SqL K H a xs ∨ SqT K H a xs)
    (key : ∀ (J : It) (G : Hp → Prop), Walk J xs.length G (YPair (fun i => some (.int (i : Nat))) (fun i => xs[i]?)) → (∀ H', Same H H' → G H') → R J H) : (SqL K H a xs ∧ R (Ite K a) H) ∨ (SqT K H a xs ∧ R (IteT K a) H) := by
  rcases hq with hq | hq
  · exact .inl ⟨hq, key _ _ walk_enum fun H' s => s.seq hq⟩
  · exact .inr ⟨hq, key _ _ walk_enumT fun H' s => by
      rcases hq with (h | ⟨o, h⟩) | h
      · exact .inl (.inl (s _ _ h))
      · exact .inl (.inr ⟨o, s _ _ h⟩)
      · exact .inr h⟩
def iEnumT (K : PySem.W.Frag) (ta : TA) : TI := fun σ H R => ta σ H fun vs H1 => ∃ a xs, vs = [.ref a] ∧ (SqL K H1 a xs ∨ SqT K H1 a xs) ∧
  ∀ (J : It) (G : Hp → Prop), Walk J xs.length G (YPair (fun i => some (.int (i : Nat))) (fun i => xs[i]?)) → (∀ H', Same H1 H' → G H') → R J H1
theorem pi_enumT {X : Cx} {e : Expr} {ta : TA} {p pos tpos : Pos} {elts : List Expr} {kk : Nat} (hg : Gl X "enumerate") (hm : X.mg "enumerate" = none) (ha : PA X [e] ta) (hs : starEach [e] X.env = [(false, eval e X.env)] := by rfl) :
    PI X (.Tuple elts kk tpos) (.Call (.Name "enumerate" p) [e] [] pos) (iEnumT X.K ta) := by
  refine ⟨fun pins s σ H R I h => ?_⟩
  refine Call_ (ld_blt I hg hm boot_enumerate (PyProof.Rows.callWith_type1 (thn (ha.run pos pins s σ H _ I h) fun us s1 ⟨vs, H1, I1, r1, q1⟩ => ?_) hs rfl))
  obtain ⟨a, xs, ex, hq0, key⟩ := q1
  have hq := enum_or (R := R) hq0 key
  subst ex
  cases r1 with
  | cons r rr =>
    cases rr
    cases r
    rcases hq with ⟨hq, q⟩ | ⟨hq, q⟩
    · obtain ⟨its, rv, p', hz⟩ := I1.list hq
      refine call_enumerate_list p'.isList fun h' he hit hsz hk => wpAny_pyIter_enum he ?_
      have I2 : Inv X pins σ H1 { s1 with heap := h' } := I1.kept (t' := s1.toks) hk
      refine ⟨s1.heap.objs.size + 1, [s1.heap.objs.size + 1, s1.heap.objs.size], _, _, H1, rfl, I2, turn_enum a (s1.heap.objs.size + 1) s1.heap.objs.size, ⟨⟨.none, he⟩, hit, Nat.succ_ne_self _⟩, fun b hb => ?_, q⟩
      have e' : b = s1.heap.objs.size + 1 ∨ b = s1.heap.objs.size := by simpa using hb
      have hle : s1.heap.objs.size ≤ b := by
        rcases e' with z | z
        · rw [z]; exact Nat.le_add_right _ _
        · rw [z]; exact Nat.le_refl _
      exact I1.fpOk hle (I1.hok.fresh hle)
    · obtain ⟨its, rv, p', hz⟩ := I1.tuple hq
      refine q_call_enumT p' fun h' he hit hsz hk => wpAny_pyIter_enum he ?_
      have I2 : Inv X pins σ H1 { s1 with heap := h' } := I1.kept (t' := s1.toks) hk
      refine ⟨s1.heap.objs.size + 1, [s1.heap.objs.size + 1, s1.heap.objs.size], _, _, H1, rfl, I2, turn_enumT a (s1.heap.objs.size + 1) s1.heap.objs.size, ⟨⟨.none, he⟩, hit, Nat.succ_ne_self _⟩, fun b hb => ?_, q⟩
      have e' : b = s1.heap.objs.size + 1 ∨ b = s1.heap.objs.size := by simpa using hb
      have hle : s1.heap.objs.size ≤ b := by
        rcases e' with z | z
        · rw [z]; exact Nat.le_add_right _ _
        · rw [z]; exact Nat.le_refl _
      exact I1.fpOk hle (I1.hok.fresh hle)
end L2
/-! x in a list or tuple of texts, x of any kind -/
namespace L2
open PySem PySem.Spec PyProof.Rows
open AutoSeq1 (wpAny_loadPart')
open MeetsSeq MeetsSeq2 MeetsSeq3 SeqRoads2 SeqAt
theorem q_str_eq_dict (b : Str) (u : Tok) (l : Addr) (o : Obj) (hc : o.cls = .type "dict") (hd : ∃ es ep, o.data = .dict es ep) :
    Meets (Builtin.«str.__eq__» ⟨[.str b u, .ref l], []⟩) (fun _ R s => s.heap.get? l = some o ∧ R (.ok (.ret .notImplemented)) s) :=
  .of_wp fun prog w A R s h => by
    obtain ⟨hp, g, d, tk, os⟩ := s; obtain ⟨hl, h⟩ := h
    obtain ⟨c, dd, dt, sl⟩ := o
    obtain ⟨es, ep, hd⟩ := hd
    simp only at hc hd
    subst hc hd
    wp_walk using wpAny_loadPart' hl, wpAny_load hl; exact ⟨_, rfl, h⟩
theorem q_dict_eq_str (l : Addr) (o : Obj) (hc : o.cls = .type "dict") (b : Str) (u : Tok) :
    Meets (Builtin.«dict.__eq__» ⟨[.ref l, .str b u], []⟩) (fun _ R s => s.heap.get? l = some o ∧ R (.ok (.ret .notImplemented)) s) :=
  .of_wp fun prog w A R s h => by
    obtain ⟨hp, g, d, tk, os⟩ := s; obtain ⟨hl, h⟩ := h
    have f1 := F.sub_str_dict
    show wpAny _ _ (Builtin.Dict.dictSlotArgs "__eq__" ⟨[.ref l, .str b u], []⟩ >>= _) _ _ _
    refine wpAny_bind ?_
    unfold Builtin.Dict.dictSlotArgs
    refine wpAny_bind (wpAny_notOrdered_dict (show Shared.TypeIs ⟨hp, g, d, tk, os⟩ (.ref l) "dict" from ⟨_, hl, hc⟩) ?_)
    show wpAny _ _ (pure (Value.ref l, Value.str b u)) _ _ _
    refine wpAny_pure ?_
    wp_walk
    exact ⟨_, rfl, h⟩
theorem q_str_dict {A : Around} {s : Shared} {l : Addr} {o : Obj} (b : Str) (u : Tok) (hl : s.heap.get? l = some o) (hc : o.cls = .type "dict") (hd : ∃ es ep, o.data = .dict es ep) (hu : A.units < cLine) : EqAt A s (.str b u) (.ref l) false := fun prog w E Q h => by
  unfold eqBool
  refine wpAny_holding ?_
  refine wpAny_ite_split (fun hab => absurd (eq_of_beq hab) nofun) (fun _ => ?_)
  refine wpAny_bind ?_
  refine rc_eq_decline_or (k := false) (typeIs_str s b u) ⟨_, hl, hc⟩ (by decide) F.sub_dict_str F.slot_str_eq F.slot_dict_eq_refl
    (fun _ hq => call_meets F.slot_str_eq (typeIs_str s b u) F.entry_str_eq (F.args_str_eq_2 _ _) (q_str_eq_dict b u l o hc hd) ⟨hl, hq⟩)
    (fun _ hq => call_meets F.slot_dict_eq_refl ⟨_, hl, hc⟩ F.entry_dict_eq (F.args_dict_eq_2 _ _) (q_dict_eq_str l o hc b u) ⟨hl, hq⟩)
    (fun _ hq => wpAny_of_eq (rfl : isSame (.str b u) (.ref l) = pure false) hq) (.inr hu) (wpAny_truthy_bool h)
/-- a value that may stand where a name is asked -/
inductive EltV (H : Hp) : V → Prop where
  | flat {x : V} (h : flatV x = true) : EltV H x
  | lst {a : Addr} {xs : List V} (h : H a = some (.lst xs)) : EltV H (.ref a)
  | tup {a : Addr} {xs : List V} (h : H a = some (.tup xs)) : EltV H (.ref a)
  | dct {a : Addr} {kvs : List (Key × V)} (h : H a = some (.dK kvs)) : EltV H (.ref a)
theorem EltV.same {H H' : Hp} (s : Same H H') {x : V} (h : EltV H x) : EltV H' x := by
  cases h with
  | flat h => exact .flat h
  | lst h => exact .lst (s _ _ h)
  | tup h => exact .tup (s _ _ h)
  | dct h => exact .dct (s _ _ h)
def inS (x : V) (ss : List Str) : Bool := ss.any fun z => decide (x = .str z)
theorem inS_iff {x : V} {ss : List Str} : inS x ss = true ↔ ∃ z ∈ ss, x = .str z := by
  unfold inS
  rw [List.any_eq_true]
  simp
theorem inS_str {z : Str} {ss : List Str} : inS (.str z) ss = decide (z ∈ ss) := by
  by_cases h : z ∈ ss
  · rw [decide_eq_true h]
    exact inS_iff.mpr ⟨z, h, rfl⟩
  · rw [decide_eq_false h]
    cases e : inS (.str z) ss with
    | false => rfl
    | true =>
      obtain ⟨y, hy, e⟩ := inS_iff.mp e
      cases e
      exact absurd hy h
def eqS (x : V) (u : Value) : Bool := match u with
  | .str z _ => decide (x = .str z)
  | _ => false
theorem any_eqS {x : V} : ∀ {ss : List Str} {us : List Value}, Vals (ss.map V.str) us → us.any (eqS x) = inS x ss
  | [], _, .nil => rfl
  | z :: ss, u :: us, .cons r t => by
    obtain ⟨k, rfl⟩ := r
    have e := any_eqS (x := x) (ss := ss) (us := us) t
    show (eqS x (.str z k) || us.any (eqS x)) = (decide (x = .str z) || ss.any fun z => decide (x = .str z))
    rw [e]
    rfl
theorem eqAt_S {X : Cx} {pins : List (Addr × Obj)} {σ : St} {H : Hp} {s : Shared} {A : Around} (I : Inv X pins σ H s) (hu : A.units < cLine) {x : V} {v : Value} (rx : RelV x v) (ex : EltV H x) (z : Str) (k : Tok) : EqAt A s (.str z k) v (decide (x = .str z)) := by
  cases ex with
  | flat fx =>
    cases x with
    | non => cases rx; exact EqAt.str_none z k
    | bl b => cases rx; exact EqAt.str_bool z k b
    | int b => obtain ⟨t, rfl⟩ := rx; exact EqAt.str_int z k b t
    | str b =>
      obtain ⟨t, rfl⟩ := rx
      have e := EqAt.str_str (A := A) (s := s) z k b t
      have q : (z == b) = decide (V.str b = V.str z) := by
        by_cases h : z = b
        · subst h; simp
        · have h2 : ¬ V.str b = V.str z := fun y => h (V.str.inj y).symm
          rw [decide_eq_false h2]
          simpa using h
      rw [← q]
      exact e
    | _ => exact absurd (show false = true from fx) Bool.false_ne_true
  | @lst a xs h =>
    cases (show v = Value.ref a from rx)
    obtain ⟨_, its, n, _, h1⟩ := (show ObjOk X.prog X.w H s.heap a (.lst xs) from I.hok a _ h)
    exact EqAt.str_list z k (items := its.toArray) ⟨_, h1, rfl, n, rfl⟩ hu
  | @tup a xs h =>
    cases (show v = Value.ref a from rx)
    obtain ⟨_, its, _, h1⟩ := (show ObjOk X.prog X.w H s.heap a (.tup xs) from I.hok a _ h)
    exact EqAt.str_tuple z k h1 hu
  | @dct a kvs h =>
    cases (show v = Value.ref a from rx)
    obtain ⟨_, _, vs, _, o, es, ep, h1, h2, h3, _⟩ := (show ObjOk X.prog X.w H s.heap a (.dK kvs) from I.hok a _ h)
    exact q_str_dict z k h1 h2.1 ⟨_, _, h3⟩ hu
theorem mem_eqS {X : Cx} {pins : List (Addr × Obj)} {σ : St} {H : Hp} {s : Shared} {A : Around} (I : Inv X pins σ H s) (hu : A.units < cLine) {x : V} {v : Value} (rx : RelV x v) (ex : EltV H x) : ∀ {ss : List Str} {us : List Value}, Vals (ss.map V.str) us → ∀ u ∈ us, EqAt A s u v (eqS x u)
  | [], _, .nil => fun u hu => by cases hu
  | z :: ss, u :: us, .cons r t => fun u' hu' => by
    rcases List.mem_cons.mp hu' with rfl | hu'
    · obtain ⟨k, rfl⟩ := r
      exact eqAt_S I hu rx ex z k
    · exact mem_eqS I hu rx ex t u' hu'
def rInS (K : PySem.W.Frag) (neg : Bool) : R2 := fun x y H Q => ∃ p ss, y = .ref p ∧ (SqL K H p (ss.map V.str) ∨ SqT K H p (ss.map V.str)) ∧ EltV H x ∧ Q (.bl (if neg then !inS x ss else inS x ss)) H
theorem op_inS {X : Cx} (hu : X.A.units + 64 < cLine) : OpR X (compareOp .In) (rInS X.K false) := by
  intro pins s σ H x y v u Q I rx ry h
  obtain ⟨p, ss, rfl, hq, ex, q⟩ := h
  cases ry
  rcases hq with hq | hq
  · obtain ⟨its, r, pl, hz⟩ := I.list hq
    refine SeqAt.in_listAt (eqS x) pl.isList (fun w hw => mem_eqS I (by first | exact Nat.lt_of_le_of_lt (Nat.le_add_right _ 64) hu | exact Nat.lt_of_le_of_lt (Nat.add_le_add_left (by decide) _) hu) rx ex r w (by simpa using hw)) ⟨.bl _, H, I, rfl, ?_⟩
    rw [show its.toArray.any (eqS x) = its.any (eqS x) by simp, any_eqS r]
    exact q
  · obtain ⟨its, r, pl, hz⟩ := I.tuple hq
    refine SeqAt.in_tupleAt (eqS x) pl (fun w hw => mem_eqS I (by first | exact Nat.lt_of_le_of_lt (Nat.le_add_right _ 64) hu | exact Nat.lt_of_le_of_lt (Nat.add_le_add_left (by decide) _) hu) rx ex r w (by simpa using hw)) ⟨.bl _, H, I, rfl, ?_⟩
    rw [show its.toArray.any (eqS x) = its.any (eqS x) by simp, any_eqS r]
    exact q
theorem op_notInS {X : Cx} (hu : X.A.units + 64 < cLine) : OpR X (compareOp .NotIn) (rInS X.K true) := by
  intro pins s σ H x y v u Q I rx ry h
  obtain ⟨p, ss, rfl, hq, ex, q⟩ := h
  cases ry
  rcases hq with hq | hq
  · obtain ⟨its, r, pl, hz⟩ := I.list hq
    refine SeqAt.notIn_listAt (eqS x) pl.isList (fun w hw => mem_eqS I (by first | exact Nat.lt_of_le_of_lt (Nat.le_add_right _ 64) hu | exact Nat.lt_of_le_of_lt (Nat.add_le_add_left (by decide) _) hu) rx ex r w (by simpa using hw)) ⟨.bl _, H, I, rfl, ?_⟩
    rw [show its.toArray.any (eqS x) = its.any (eqS x) by simp, any_eqS r]
    exact q
  · obtain ⟨its, r, pl, hz⟩ := I.tuple hq
    refine SeqAt.notIn_tupleAt (eqS x) pl (fun w hw => mem_eqS I (by first | exact Nat.lt_of_le_of_lt (Nat.le_add_right _ 64) hu | exact Nat.lt_of_le_of_lt (Nat.add_le_add_left (by decide) _) hu) rx ex r w (by simpa using hw)) ⟨.bl _, H, I, rfl, ?_⟩
    rw [show its.toArray.any (eqS x) = its.any (eqS x) by simp, any_eqS r]
    exact q
end L2
/-! sorted(t), t a tuple of texts -/
namespace L2
open PySem PySem.Spec PyProof.Rows
theorem q_collectT {prog : Program} {w : World} {A : Around} {E : Value → Shared → Prop} {s : Shared} {l : Addr} {vs : List Value} {Q : List Value → Shared → Prop} (hl : IsTup s.heap l vs.toArray)
    (h : ∀ h', (∀ b o, s.heap.get? b = some o → h'.get? b = some o) → Q vs { s with heap := h' }) (hsz : vs.length ≤ sizeLine) :
    wpAny (model prog w) A (collect (.ref l)) Q E s := by
  obtain ⟨o, ho, hc, n, hd⟩ := id hl
  have F := h ((s.heap.push (seqObj "list" #[] 0)).update s.heap.objs.size (Obj.mapSeq (· ++ vs.toArray))) (fun b u e => by
    rw [Heap.get?_update_ne _ _ _ _ (Nat.ne_of_lt (Heap.lt_size e))]
    exact Heap.get?_push_of_some _ e)
  unfold collect
  refine wpAny_bind (wpAny_runValue (codeAny_builtin entry_proto_collect' ?_))
  show wpAny _ _ (do again (.builtin "list.__iadd__" ⟨[← newList [], .ref l], []⟩)) _ _ s
  refine wpAny_bind (wpAny_newList (wpAny_pure ⟨Code.quiet_builtin _ (by decide +kernel), codeAny_builtin entry_list_iadd' ?_⟩))
  show wpAny _ _ (Builtin.List.listExtendWith (.ref s.heap.objs.size) (.ref l) (.ref s.heap.objs.size)) _ _ { s with heap := s.heap.push (seqObj "list" #[] 0) }
  unfold Builtin.List.listExtendWith
  have ho' : (s.heap.push (seqObj "list" #[] 0)).get? l = some o := Heap.get?_push_of_some _ ho
  refine wpAny_bind (wpAny_typeOf (T := "tuple") ⟨o, ho', hc⟩ ?_)
  rw [if_pos (by rw [show (Value.type "tuple" == Value.type "tuple") = true by rfl]; simp)]
  refine wpAny_bind (listItems_at ho' hd ?_)
  refine wpAny_bind (listItems_at (xs := #[]) (n := 0) (Heap.get?_push_size _ rfl) rfl ?_)
  rw [if_neg (by simp)]
  refine wpAny_bind (listUpdate_at (xs := #[]) (n := 0) (Heap.get?_push_size _ rfl) rfl ?_ (Nat.zero_le _) (by show (#[] ++ vs.toArray).size ≤ sizeLine + 1; simp only [Array.size_append, List.size_toArray, List.length_nil]; omega))
  refine wpAny_pure ?_
  show wpAny (model prog w) A (do
      let o ← load s.heap.objs.size
      match o.data with
      | .seq xs _ => pure xs.toList
      | _ => unsupported "internal:collect") Q E { s with heap := (s.heap.push (seqObj "list" #[] 0)).update s.heap.objs.size (Obj.mapSeq (· ++ vs.toArray)) }
  refine wpAny_bind (wpAny_load (get?_update_seq (Heap.get?_push_size _ rfl) _) ?_)
  show wpAny _ _ (pure ((#[] : Array Value) ++ vs.toArray).toList) Q E _
  rw [show ((#[] : Array Value) ++ vs.toArray).toList = vs by simp]
  exact wpAny_pure F
section
variable {X : Cx}
def rSortedST (K : PySem.W.Frag) : List V → Hp → VK → Prop := fun vs H Q => ∃ (a : Addr) (xs : List Str), vs = [V.ref a] ∧ SqT K H a (xs.map V.str) ∧ xs.length < 64 ∧
  ∀ (ys : List Str) (p : Addr), ys.Perm xs → sortedS ys = true → H p = none → Q (.ref p) (upd H p (.lst (ys.map V.str)))
theorem cr_sortedST : CallR X (.builtin "sorted") (rSortedST X.K) := by
  intro pins s σ H xs us Q I r q
  obtain ⟨a, ks, ex, hd, h64, q⟩ := q
  subst ex
  obtain ⟨u, eu, rx⟩ := vals1 r
  subst eu
  cases rx
  obtain ⟨its, rv, ht, hz⟩ := I.tuple hd
  have hal : its.length = ks.length := by
    have e := rv.length
    rw [List.length_map] at e
    exact e.symm
  have hS : StrsAre its ks := rv.strs
  refine Calls.call_function_entry PyProof.Rows.kind_sorted PyProof.Rows.plain_sorted PyProof.Rows.entry_sorted (PyProof.Rows.args_sorted1 _) ?_
  unfold Builtin.«sorted»
  refine wpAny_bind (m := checkCount "sorted" 1 1 _) (wpAny_pure ?_)
  refine wpAny_bind (q_collectT ht (fun h' hk => ?_) (by rw [hal, sizeLine_eq]; omega))
  have I1 : Inv X pins σ H { s with heap := h' } := I.kept (t' := s.toks) hk
  refine wpAny_bind (wpAny_newList ?_ (by rw [hal, sizeLine_eq]; omega))
  have hoL : (h'.push (seqObj "list" its.toArray 0)).get? h'.objs.size = some (seqObj "list" its.toArray 0) := Heap.get?_push_size _ rfl
  show wpAny _ _ _ _ _ { s with heap := h'.push (seqObj "list" its.toArray 0) }
  refine wpAny_bind (wpAny_holding (wpAny_call_entry PyProof.Rows.slot_list_sort ⟨_, hoL, rfl⟩ PyProof.Rows.entry_list_sort
    (list_sort_treeK strKind_oneLt (s := { s with heap := h'.push (seqObj "list" its.toArray 0) }) hoL hS.keysOf (fun v₁ v₂ rest e => keyKind_strs (by rw [← e]; exact hS)) (by rw [hal]; exact h64) fun st' hp hs => ⟨_, rfl, ?_⟩)
    (PyProof.Rows.args_list_sort _)))
  obtain ⟨ys, g1, g2, g3⟩ := sorted_out_str hS hp hs
  obtain ⟨e', he'⟩ := PyProof.Rows.sortedHeap_at (vs := its) (out := (arrOf st').map (·.2)) hoL
  have hlen : (ys.map V.str).length ≤ sizeLine := by
    rw [List.length_map, g2.length_eq]
    exact Nat.le_trans (Nat.le_of_lt h64) (by decide)
  refine wpAny_pure ⟨_, rfl, .ref h'.objs.size, upd H h'.objs.size (.lst (ys.map V.str)), I1.laid (t' := s.toks) (fun b u e => ?_) (Nat.le_refl _)
    (show ObjOk X.prog X.w _ _ _ (.lst (ys.map V.str)) from ⟨hlen, ((arrOf st').map (·.2)).toList, e', vals_of_strs g1, by rw [Array.toArray_toList]; exact he'⟩), rfl, q ys _ g2 g3 (I1.hok.fresh (Nat.le_refl _))⟩
  have hb : b < h'.objs.size := Heap.lt_size e
  rw [PyProof.Rows.sortedHeap_old (Nat.ne_of_lt hb) (by rw [size_push']; exact Nat.lt_succ_of_lt hb)]
  exact Heap.get?_push_of_some _ e
end
end L2
/-! an own error over ValueError whose __init__ says super().__init__('..') and then self.f = f -/
namespace PySem
namespace QX
open PySem.W PySem.Calls PyProof.Rows PySem.HandSPX
def iA (f : Str) (p1 p2 : Pos) : Arguments := { posonlyargs := [], args := [{ arg := "self", annotation := none, pos := p1 }, { arg := f, annotation := none, pos := p2 }], vararg := none, kwonlyargs := [], kw_defaults := [], kwarg := none, defaults := [] }
def iB (f t : Str) (k : Nat) (q1 q2 q3 q4 q5 q6 q7 q8 q9 q10 : Pos) : List Stmt :=
  [.Expr (.Call (.Attribute (.Call (.Name "super" q1) [] [] q2) "__init__" q3) [.Constant (.str t) k q4] [] q5) q6, .Assign [.Attribute (.Name "self" q7) f q8] (.Name f q9) q10]
def iS (f : Str) : Scope := { kind := .function, names := [("self", .local), (f, .local), ("__class__", .free), ("super", .globalImplicit)], isGenerator := false, isCoroutine := false, more := [] }
/-- what the written part says of the class at C (its __init__ at fI, the cell of __class__ at cc, the code at cda) -/
structure OwnTxt (P : Program) (K : Frag) (mg : Str → Option Value) (cn f : Str) (C fI : Addr) : Prop where
  gC : mg cn = some (.ref C)
  gS : mg "super" = none
  cls : ∃ nm q N bs bm sn sub ab col dd k0 k1 k2 k3 k5, K.lookup C = some (excClassObj nm q C N bs bm true sn sub ab col dd k0 k1 k2 k3 k5 "ValueError.__new__") ∧ refsVE bm = true ∧ alongIn K "__init__" bm = some (some (.builtin "ValueError.__init__"))
  sa : findIn K (.ref C) "__setattr__" = some (some (.builtin "object.__setattr__"))
  ga : findIn K (.ref C) "__getattribute__" = some (some (.builtin "BaseException.__getattribute__"))
  gg : findIn K (.ref C) "__getattr__" = some none
  noN : findIn K (.ref C) f = some none
  iC : findIn K (.ref C) "__init__" = some (some (.ref fI))
  tC : typeIn K (.ref fI) = some (.type "function")
  kC : keepIn K (.ref C) = true
  exC : subIn K (.ref C) (.type "BaseException") = some true
  veC : subIn K (.ref C) (.type "ValueError") = some true
  slC : mroIn K C (.ref C) = some true
  tyC : typeIn K (.ref C) = some (.type "type")
  hdC : hasDictIn K C = true
  te : exmOne K (.ref C) (.ref C) = some true
  op : nsIn K cStatics "thirdparty.any" = some none
  top : (P.main.scope.names.lookup ("super" : Str)).isSome = false
  fn : ∃ (qual t : Str) (kk : Nat) (oc : Value) (od : Option Addr) (doc pm : Value) (an : Option Addr) (cda cc : Addr) (ct : Value) (osl : Array (Option Value)) (p1 p2 q1 q2 q3 q4 q5 q6 q7 q8 q9 q10 : Pos),
    K.lookup fI = some ⟨oc, od, .func (ksFn "__init__" qual (iA f p1 p2) (iB f t kk q1 q2 q3 q4 q5 q6 q7 q8 q9 q10) (iS f) .none .none doc pm an (.ref cda) ct cc), osl⟩ ∧ codeIn K (.ref cda) qual = true ∧ (q3.endLine == q5.line) = true ∧
    (∃ ccl cdd vs ccs file tf, K.lookup cda = some ⟨ccl, cdd, .fields vs, ccs⟩ ∧ vs[2]? = some (.str file tf) ∧ ((P.main.file : Str) == file) = true) ∧
    ∃ cl cld csl, K.lookup cc = some ⟨cl, cld, .cell (some (.ref C)), csl⟩
  sc1 : (iS f).names.lookup f = some .local
  sc2 : (iS f).names.lookup ("super" : Str) = some .globalImplicit
  sc3 : (iS f).names.lookup ("__class__" : Str) = some .free
  sc4 : (iS f).names.lookup ("self" : Str) = some .local
  dbg : (f == ("__debug__" : Str)) = false
  bnd : ∀ (qual : Str) (p1 p2 : Pos) (b : List Stmt) (doc pm : Value) (an : Option Addr) (cdv ct : Value) (cc : Addr) (s : Shared) (u v : Value), BindsTo s (ksFn "__init__" qual (iA f p1 p2) b (iS f) .none .none doc pm an cdv ct cc) ⟨[u, v], []⟩ [("self", u), (f, v)]
  lk1 : ∀ (u v : Value), ([("self", u), (f, v)] : List (Str × Value)).reverse.lookup ("self" : Str) = some u
  lk2 : ∀ (u v : Value), ([("self", u), (f, v)] : List (Str × Value)).reverse.lookup f = some v
/-- what __init__ leaves of a fresh exception at x -/
structure InitEnd (f : Str) (h h' : Heap) (x C dx t1 : Addr) (v : Value) : Prop where
  keep : ∀ b o, b ≠ x → h.get? b = some o → h'.get? b = some o
  obj : h'.get? x = some { cls := .ref C, dict := some dx, data := .fields #[.ref t1, .none, .none, .none, .bool false, .none] }
  dbig : h.objs.size ≤ dx
  dne : dx ≠ x
  ns : h'.Ns1 dx (fun y => if y = f then some v else none)
section
variable {prog : Program} {w : World} {A : Around} {E : Value → Shared → Prop} {h : Heap} {g : Array GenState} {d : Drawn} {t : Nat} {os : OsState}
variable {nm q : Str} {C N : Addr} {bs bm : List Value} {hdct : Bool} {sn : List Str} {sub : List Value} {ab : Bool} {col : Option Bool} {dd : Option Addr} {k0 k1 k2 k3 k5 : Option Value}
/-- the bound ValueError.__init__, called -/
theorem q_call_bw {u e t0 : Addr} {rest : List Value} {Q : Value → Shared → Prop}
    (hC : h.get? C = some (excClassObj nm q C N bs bm hdct sn sub ab col dd k0 k1 k2 k3 k5 "ValueError.__new__")) (he : h.get? e = some (excO C t0)) (hu : h.get? u = some (kxs_mw "ValueError.__init__" e)) (hrest : rest.length ≤ sizeLine)
    (hq : ∀ h' t1, (∀ b o, b ≠ e → h.get? b = some o → h'.get? b = some o) → h'.get? e = some (excO C t1) → Q .none ⟨h', g, d, t, os⟩) :
    wpAny (model prog w) A (call (.ref u) rest) Q E ⟨h, g, d, t, os⟩ := by
  have F := F.excBase_ValueError
  refine wpAny_call (codeAny_of_tree ?_)
  show wpAny _ A.in1 (callAny (.ref u) ⟨rest, []⟩) _ _ _
  simp only [callAny]
  refine wpAny_bind (wpAny_load hu ?_)
  simp only [kxs_mw, show (Value.type "method-wrapper" == Value.type "method" || Value.type "method-wrapper" == Value.type "builtin_function_or_method" || Value.type "method-wrapper" == Value.type "method-wrapper") = true by decide, if_true]
  refine KFB.if_so (by decide) ?_
  refine wpAny_bind (check_bound_init F.toExcCallFacts hC he rfl ?_)
  refine wpAny_bind (wpAny_pure (wpAny_pure ?_))
  refine ⟨plainId_quiet F.init.plain _, codeAny_builtin F.initEntry ?_⟩
  rw [Around.under_plainId F.init.plain _]
  wp_walk
  refine hq _ h.objs.size (fun b o hb ho => ?_) ?_
  · rw [Heap.get?_update_other _ _ (Ne.symm hb)]
    exact Heap.get?_push_of_some _ ho
  · rw [Heap.get?_update_self _ (Heap.get?_push_of_some _ he) rfl]
    rfl
end
section
variable {prog : Program} {w : World} {A : Around} {E : Value → Shared → Prop} {R : Result → Shared → Prop} {s : Shared} {K : Frag} {mg : Str → Option Value} {C fI : Addr} {cn f : Str}
theorem one_size (v : Value) : [v].length ≤ sizeLine := by
  rw [sizeLine_eq]
  exact (by decide : 1 ≤ 16777216)
theorem ldX {M : Model} {s : Shared} {env : Env} {m : Str → Option Value} {x : Str} {pos : Pos} {v : Value} {Q : Value → Shared → Prop} {A : Around} {E : Value → Shared → Prop} (hn : s.heap.Ns env.locals m) (hv : m x = some v) (h : Q v s)
    (hk : env.scope.kind = .function) (hl : env.kindOf x = some .local) (hd : (x == ("__debug__" : Str)) = false) : wpAny M A (eval (.Name x pos) env) Q E s := wpAny_Name (wpAny_loadName_local hk hl hn hv h) hd
theorem own_init (T : OwnTxt prog K mg cn f C fI) {x t0 : Addr} {v : Value} (X : K.In s.heap) (hlim : s.heap.NoLimit) (hgl : s.heap.Ns mainGlobals mg) (hbl : ∃ mb, s.heap.Ns builtinsNs mb ∧ ∀ x : Str, x ≠ "__name__" → mb x = bootBuiltins x)
    (hx : s.heap.get? x = some (excO C t0)) (hnx : K.lookup x = none) (hroom : A.depth < recursionLimit)
    (hq : ∀ h' tk dx t1, InitEnd f s.heap h' x C dx t1 v → R (.ok (.ret .none)) { s with heap := h', toks := tk }) :
    codeAny (model prog w) A (.call (.ref fI) ⟨[.ref x, v], []⟩) R s := by
  obtain ⟨qual, tx, kk, oc, od, doc, pm, an, cda, cc, ct, osl, p1, p2, q1, q2, q3, q4, q5, q6, q7, q8, q9, q10, ho, hcd, hl, ⟨ccl, cdd, vs, ccs, file, tf, hcda, hvs, hfile⟩, ⟨cl, cld, csl, hcell⟩⟩ := T.fn
  obtain ⟨nm, q, N, bs, bm, sn, sub, ab, col, dd, k0, k1, k2, k3, k5, hC, hbm, hal⟩ := T.cls
  obtain ⟨mb, hmb, hmb2⟩ := hbl
  have hcl : clsIn K C = some { name := nm, bases := bs, mro := .ref C :: bm, ns := N, qualname := q, hasDict := true, slotNames := sn, subclasses := sub, abstract := ab, collection := col, hasDel := false } := by unfold clsIn; rw [hC] <;> rfl
  refine ks_codeAny_call_defAt (binds := [("self", .ref x), (f, v)]) hroom (X _ _ ho) rfl hlim (PySem.W.codeRec_of X hcd) rfl (T.bnd _ _ _ _ _ _ _ _ _ _ _ _ _) ?hcell ?hloc (fun h₁ hns k => ?_) rfl rfl rfl
  case hcell =>
    intro y hy
    have hy' : y = (("self" : Str), NameKind.local) ∨ y = (f, NameKind.local) ∨ y = (("__class__" : Str), NameKind.free) ∨ y = (("super" : Str), NameKind.globalImplicit) := by
      have z : y ∈ (iS f).names := hy
      simpa [iS] using z
    rcases hy' with e | e | e | e <;> (rw [e]; intro z; cases z)
  case hloc =>
    intro y hy
    have hy' : y = (("self" : Str), Value.ref x) ∨ y = (f, v) := by simpa using hy
    rcases hy' with e | e
    · rw [e]; rfl
    · rw [e]; exact T.sc1
  have hxL : s.heap.objs.size ≠ x := Nat.ne_of_gt (Heap.lt_size hx)
  have X₁ : K.In h₁ := X.keeps k
  have hx₁ := k _ _ hx
  have hC₁ := X₁ _ _ hC
  have lt₁ : s.heap.objs.size < h₁.objs.size := hns.lt
  have hgl₁ : h₁.Ns mainGlobals mg := hgl.keeps k
  have hmb₁ : h₁.Ns builtinsNs mb := hmb.keeps k
  have hsn : mb "super" = some (.type "super") := (hmb2 "super" (by decide)).trans (by first | boot_by_name | rfl | kernel_rfl)
  refine ks_wpAt_execs_cons (ks_wpAt_Expr_any (ks_wpAt_MethodCall (pl := (do return (← importBound (.Call (.Name "super" q1) [] [] q2) (callEnv (ksFn "__init__" qual (iA f p1 p2) (iB f tx kk q1 q2 q3 q4 q5 q6 q7 q8 q9 q10) (iS f) .none .none doc pm an (.ref cda) ct cc) s.heap.objs.size fI)).getD true)) ?_ (by
    rw [arm_eval_Call]
    unfold methodCall methodCallPos
    simp only [hl, Bool.or_true, if_true]
    rfl)) (by rfl) (by rfl))
  refine ks_wpAt_super_base T.sc2 T.sc3 (by decide) rfl (X₁ _ _ ho) rfl (by rfl) rfl (X₁ _ _ hcda) rfl hvs hfile T.top ?_
  refine ks_loadName_global rfl T.sc2 (Calls.loadGlobal_builtin hgl₁ T.gS hmb₁ hsn ⟨rfl, ?_⟩)
  refine wpAny_loadName_free rfl T.sc3 (by rfl) ⟨_, X₁ _ _ hcell, rfl⟩ ?_
  refine wpAny_loadName_local rfl T.sc4 hns (T.lk1 _ _) ?_
  refine ks_wpAny_isType_cls hC₁ rfl ⟨rfl, ?_⟩
  refine ks_wpAny_call_super hC₁ rfl hx₁ rfl (fun c e => by cases e) (looks_mroIn X₁ T.slC) (fun h₂ eso k₂ => ?_)
  have X₂ : K.In h₂ := X₁.keeps k₂
  have I₂ : PySem.W.InstAt h₂ x (excO C t0) C none := ⟨k₂ _ _ hx₁, rfl, rfl, trivial⟩
  have hxC : x ≠ C := fun z => by rw [z, hC] at hnx; cases hnx
  refine kxs_getMethod kxs_ValueError eso (looks_opaque X₂ T.op) (l₀ := .ref C :: bm) (l := bm) (fun A' Q' E' s' k' q' => wpAny_bind ((looks_clsIn X₂ hcl) A' _ E' s' k' (wpAny_pure q'))) (by simp [List.dropWhile_cons]) X₂ hal (I₂.type.andThen (looks_subIn X₂ T.veC)) hxC (by decide) ?_
  refine kxs_callWith (i := "ValueError.__init__") (x := x) (by rfl) ?_
  refine evalArgs_plain (Calls.spliced_cons (Calls.Constant_str (k := kk) (pos := q4) (Calls.spliced_nil ?_)))
  refine ⟨Heap.get?_push_at rfl rfl, ?_⟩
  have hC₃ : (h₂.push (kxs_mw "ValueError.__init__" x)).get? C = some (excClassObj nm q C N bs bm true sn sub ab col dd k0 k1 k2 k3 k5 "ValueError.__new__") := Heap.get?_push_of_some _ (k₂ _ _ hC₁)
  have hx₃ : (h₂.push (kxs_mw "ValueError.__init__" x)).get? x = some (excO C t0) := Heap.get?_push_of_some _ (k₂ _ _ hx₁)
  refine q_call_bw hC₃ hx₃ (Heap.get?_push_at rfl rfl) (one_size _) (fun h₄ t1 k₄ hx₄ => ?_)
  have kall : ∀ b o, b ≠ x → s.heap.get? b = some o → h₄.get? b = some o := fun b o hb e => k₄ b o hb (Heap.get?_push_of_some _ (k₂ _ _ (k _ _ e)))
  have k14 : ∀ b o, b ≠ x → h₁.get? b = some o → h₄.get? b = some o := fun b o hb e => k₄ b o hb (Heap.get?_push_of_some _ (k₂ _ _ e))
  have X₄ : K.In h₄ := fun a o e => by
    by_cases ha : a = x
    · rw [ha, hnx] at e; cases e
    · exact kall a o ha (X a o e)
  have hLx : s.heap.objs.size ≠ x := hxL
  have hns₄ : h₄.Ns s.heap.objs.size fun y => ([(("self" : Str), Value.ref x), (f, v)] : List (Str × Value)).reverse.lookup y := by
    obtain ⟨o, es, ep, e1, r⟩ := hns
    exact ⟨o, es, ep, k14 _ _ hLx e1, r⟩
  have sz₄ : s.heap.objs.size ≤ h₄.objs.size := Nat.le_of_lt hns₄.lt
  refine wpAt_of_wpAny ?_
  refine wpAny_execs_cons (plainObj_wpAny_Assign_Attribute ?_ (by rfl))
  refine ldX hns₄ (T.lk2 _ _) (ldX hns₄ (T.lk1 _ _) ?_ rfl T.sc4 (by decide)) rfl T.sc1 T.dbg
  refine set_plain X₄ (ox := excO C t1) (od := none) ⟨hx₄, rfl, rfl, trivial⟩ T.sa ?_
  refine exc_osa X₄ hx₄ hcl (show refsVE (.ref C :: bm) = true from hbm) rfl T.noN (fun h₅ tk₅ dx k₅ dn dne hx₅ hn₅ => ?_)
  show wpAny _ _ (execs _ _) _ _ _
  exact wpAny_execs_nil (hq h₅ tk₅ dx t1 ⟨fun b o hb e => k₅ b o hb (kall b o hb e), hx₅, Nat.le_trans sz₄ dn, dne, hn₅⟩)
end
/-- a made error -/
structure OwnMade (f : Str) (h h' : Heap) (e C d : Addr) (v : Value) : Prop where
  keep : ∀ b o, h.get? b = some o → h'.get? b = some o
  new : h.objs.size ≤ e
  obj : ∃ oe vs, h'.get? e = some oe ∧ oe.cls = .ref C ∧ oe.dict = some d ∧ oe.data = .fields vs ∧ vs[1]? = some .none
  dbig : h.objs.size ≤ d
  dne : d ≠ e
  ns : h'.Ns1 d (fun y => if y = f then some v else none)
section
variable {prog : Program} {w : World} {A : Around} {R : Result → Shared → Prop} {s : Shared} {K : Frag} {mg : Str → Option Value} {C fI : Addr} {cn f : Str}
theorem own_made (T : OwnTxt prog K mg cn f C fI) {v : Value} (X : K.In s.heap) (hlim : s.heap.NoLimit) (hgl : s.heap.Ns mainGlobals mg) (hbl : ∃ mb, s.heap.Ns builtinsNs mb ∧ ∀ x : Str, x ≠ "__name__" → mb x = bootBuiltins x)
    (hroom : A.depth + 1 < recursionLimit)
    (hq : ∀ h' tk e d, OwnMade f s.heap h' e C d v → R (.ok (.ret (.ref e))) { s with heap := h', toks := tk }) :
    codeAny (model prog w) A (.call (.ref C) ⟨[v], []⟩) R s := by
  obtain ⟨nm, q, N, bs, bm, sn, sub, ab, col, dd, k0, k1, k2, k3, k5, hC, hbm, _⟩ := T.cls
  obtain ⟨mb, hmb, hmb2⟩ := hbl
  obtain ⟨hp, g, dr, tk, os⟩ := s
  have k : ∀ b o, hp.get? b = some o → ((hp.push (kdv_tup [v])).push (excO C hp.objs.size)).get? b = some o := fun b o e => Heap.get?_push_of_some _ (Heap.get?_push_of_some _ e)
  have hget : ((hp.push (kdv_tup [v])).push (excO C hp.objs.size)).get? (hp.objs.size + 1) = some (excO C hp.objs.size) := by heap_get
  have hnx : K.lookup (hp.objs.size + 1) = none := by
    cases e : K.lookup (hp.objs.size + 1) with
    | none => rfl
    | some o =>
      have z : hp.get? (hp.objs.size + 1) = some o := X _ _ e
      exact absurd (Nat.lt_of_succ_lt (Heap.lt_size z)) (Nat.lt_irrefl _)
  refine call_own F.excBase_ValueError (fun X => refsVE_contains X bm hbm) (X _ _ hC) (looks_findIn X T.iC) (fun self => bind_fn X self T.tC) (one_size v) ?_
  refine own_init (s := ⟨(hp.push (kdv_tup [v])).push (excO C hp.objs.size), g, dr, tk, os⟩) T (X.keeps k) (hlim.keeps k) (hgl.keeps k) ⟨mb, hmb.keeps k, hmb2⟩ hget hnx ?_ fun h' tk' dx t1 ⟨k', hx, dn, dne, hns⟩ => ?_
  · show A.depth + 1 < recursionLimit
    exact hroom
  · have old : ∀ b o, hp.get? b = some o → h'.get? b = some o := fun b o e => k' b o (Nat.ne_of_lt (Nat.lt_succ_of_lt (Heap.lt_size e))) (k b o e)
    have z : hp.objs.size + 1 + 1 ≤ dx := by
      first
        | (simpa only [Heap.size_push] using dn)
        | exact dn
        | (have q := dn; rw [Heap.size_push, Heap.size_push] at q; exact q)
    exact ⟨rfl, hq h' tk' (hp.objs.size + 1) dx ⟨old, Nat.le_succ _, ⟨_, _, hx, rfl, rfl, rfl, rfl⟩, Nat.le_trans (Nat.le_trans (Nat.le_succ _) (Nat.le_succ _)) z, dne, hns⟩⟩
end
end QX
end PySem
namespace L2
open PySem PySem.Spec PyProof.Rows
theorem relO_one {f : Str} {v : V} {v' : Value} (r : RelV v v') (g : Str) : RelO (List.lookup g [(f, v)]) (if g = f then some v' else none) := by
  by_cases hw : g = f
  · subst hw
    rw [if_pos rfl]
    have q : List.lookup g [(g, v)] = some v := by simp [List.lookup]
    rw [q]
    exact r
  · rw [if_neg hw]
    have qw : (g == f) = false := by simpa using hw
    have q2 : List.lookup g [(f, v)] = none := by simp [List.lookup, qw]
    rw [q2]
    trivial
section
variable {X : Cx} {C fI : Addr} {cn f : Str}
/-- C(e) -/
def tMkOwn (C : Addr) (f : Str) (ta : TA) : St → Hp → XK → Prop := fun σ H Q => ta σ H fun vs H1 => ∃ v, vs = [v] ∧ ∀ d, H1 d = none → Q (.ref C) (some d) (upd H1 d (.xd [(f, v)]))
theorem pmk_ownS {a : Expr} {ta : TA} {p pos : Pos} {k : Nat} (T : PySem.QX.OwnTxt X.prog X.K X.mg cn f C fI) (hr : Room k X.A) (ha : PA X [a] ta) (hg : Gl X cn) (hdb : (cn == ("__debug__" : Str)) = false := by decide)
    (he : starEach (a :: []) X.env = (false, eval a X.env) :: starEach [] X.env := by rfl) (hpl : (backTo pos (starEach [] X.env)).any (·.1) = false := by rfl) :
    PMk X (.Call (.Name cn p) [a] [] pos) (tMkOwn C f ta) := by
  intro pins s σ H Q I h
  refine wpAny_Call_Name_kw (ld_glob I hg T.gC ?_ hdb)
  refine PySem.W.callWith_K (h₀ := X.base) I.ok.mod.kin T.kC (thn (ha.run pos pins s σ H _ I h) fun us s1 hh => ?_) he hpl
  obtain ⟨vs, H1, I1, r1, v, ev, q1⟩ := hh
  subst ev
  refine ⟨I1.kIn, ?_⟩
  cases r1 with
  | cons rv rn =>
    rename_i v' us'
    cases rn
    show wpAny _ _ (call (.ref C) [v']) _ _ _
    have hlim := I1.nolimit
    have hgl := I1.mod.glob.keeps I1.bk
    have hbl : ∃ mb, s1.heap.Ns builtinsNs mb ∧ ∀ x : Str, x ≠ "__name__" → mb x = bootBuiltins x := by
      obtain ⟨mb, h1, h2⟩ := I1.mod.blt
      exact ⟨mb, h1.keeps I1.bk, h2⟩
    obtain ⟨hp, g, dr, tk, os⟩ := s1
    refine wpAny_call (PySem.QX.own_made T I1.kIn hlim hgl hbl (by have := hr.dp; omega) fun h' tk' e d M => ?_)
    show MkP X pins σ Q (.ref e) ⟨h', g, dr, tk', os⟩
    obtain ⟨oe, fv, hoe, hc, hd, hdat, h1⟩ := M.obj
    have hns := M.ns
    obtain ⟨G', g1, g2⟩ := restrict h' fun b => decide (b ≠ e)
    have gk : ∀ b, b ≠ e → G'.get? b = h'.get? b := fun b hb => g1 b (decide_eq_true hb)
    have ge : G'.get? e = none := g2 e (by simp)
    have old : ∀ b o, hp.get? b = some o → G'.get? b = some o := fun b o q => (gk b (Nat.ne_of_lt (Nat.lt_of_lt_of_le (Heap.lt_size q) M.new))).trans (M.keep b o q)
    have ob : ObjOk X.prog X.w (upd H1 d (.xd [(f, v)])) G' d (.xd [(f, v)]) :=
      ⟨_, hns.at (fun o q => (gk d M.dne).trans q), fun g => relO_one rv g⟩
    have J : Inv X pins σ (upd H1 d (.xd [(f, v)])) ⟨G', g, dr, tk', os⟩ := I1.laid (t' := tk') old M.dbig ob
    refine ⟨e, oe, fv, ⟨G', g, dr, tk', os⟩, _, .ref C, some d, rfl, J, fun b o q => ?_, ge, hoe, ⟨hc, hd⟩, hdat, h1, ?_, rfl, I1.bare, raises_own T.exC T.tyC, q1 d (I1.hok.fresh M.dbig)⟩
    · by_cases hb : b = e
      · have q' : G'.get? b = some o := q
        rw [hb, ge] at q'; cases q'
      · exact (gk b hb).symm.trans q
    · rw [upd_ne (Ne.symm M.dne)]
      exact I1.hok.fresh M.new
/-- raise C(e) -/
def tRaiseS (C : Addr) (f : Str) (W : WX) (ta : TA) : TS := fun _ σ H => tMkOwn C f ta σ H fun cls d H' => W cls d σ H'
theorem ps_raiseS {a : Expr} {ta : TA} {W : WX} {p pos pos2 : Pos} {k : Nat} (hc : X.calm = true) (T : PySem.QX.OwnTxt X.prog X.K X.mg cn f C fI) (hr : Room k X.A) (tk : Takes X W) (ha : PA X [a] ta) (hg : Gl X cn) (hdb : (cn == ("__debug__" : Str)) = false := by decide)
    (he : starEach (a :: []) X.env = (false, eval a X.env) :: starEach [] X.env := by rfl) (hpl : (backTo pos (starEach [] X.env)).any (·.1) = false := by rfl) :
    PS X (.Raise (some (.Call (.Name cn p) [a] [] pos)) none pos2) (tRaiseS C f W ta) := ps_raise hc tk (pmk_ownS T hr ha hg hdb he hpl)
/-- e.f, e the exception that the suite holds (at a; its class cls, its dict d) -/
def tByOwn (C : Addr) (f : Str) (a : Addr) (cls : Value) (d : Option Addr) (te : TE) : TE := fun σ H Q => te σ H fun x H1 => x = .ref a ∧ cls = .ref C ∧ ∃ (dd : Addr) (v : V), d = some dd ∧ H1 dd = some (.xd [(f, v)]) ∧ Q v H1
theorem pe_byOwn {a : Addr} {oe : Obj} {cls : Value} {d : Option Addr} {pn : List (Addr × Obj)} {e : Expr} {te : TE} {pos : Pos} (T : PySem.QX.OwnTxt X.prog X.K X.mg cn f C fI) (hz : Zc cls d oe) (hf : ∃ vs, oe.data = .fields vs) (he : PE (X.suite a ((a, oe) :: pn)) e te)
    (hb : attributeBase e f X.env (eval e X.env) = eval e X.env := by rfl) :
    PE (X.suite a ((a, oe) :: pn)) (.Attribute e f pos) (tByOwn C f a cls d te) := by
  refine ⟨fun pins s σ H Q I h => ?_⟩
  refine attr_of hb (thn (he.run pins s σ H _ I h) fun u s1 hh => ?_)
  obtain ⟨x, H1, I1, rx, ex, ec, dd, v, ed, ea, q⟩ := hh
  subst ex
  obtain rfl : u = Value.ref a := rx
  subst ec
  subst ed
  obtain ⟨ha, _⟩ := I1.pin (a, oe) (List.mem_append_left _ List.mem_cons_self)
  obtain ⟨vs, hd⟩ := hf
  have hx : ObjOk X.prog X.w H1 s1.heap dd (.xd [(f, v)]) := I1.hok dd _ ea
  obtain ⟨mA, hns, hr⟩ := hx
  obtain ⟨od, ho, hl⟩ := lookIn_ns hns
  have l : List.lookup f [(f, v)] = some v := by simp [List.lookup]
  obtain ⟨u, hu, ru⟩ := RelO.some_of (v := v) (o := mA f) (by rw [← l]; exact hr f)
  have J : PySem.W.InstAt s1.heap a oe C (some od) := ⟨ha, hz.1, by unfold PySem.W.notCls; rw [hd] <;> rfl, by rw [hz.2]; exact ho⟩
  exact HandSPX.exc_get I1.kIn J T.ga T.gg T.exC (PySem.W.findObj_own T.hdC T.noN rfl (by rw [hl, hu])) (handed_of ru) ⟨v, H1, I1.tok _, ru, q⟩
end
end L2
namespace L2
open PySem PySem.Spec PyProof.Rows
/-! ### a def that is called -/
structure CF (P : Program) (w : World) (K : PySem.W.Frag) (mg : Str → Option Value) (base : Heap) (CX : CXT) (k : Nat) (x : Str) (ps : List Str) (sp : Sp) : Prop where
  ex : ∃ f fd, FnOk P w K mg base CX k f fd ps sp ∧ mg x = some (.ref f) ∧ PySem.W.keepIn K (.ref f) = true ∧ Binds K fd ps []
section
variable {X : Cx} {CX : CXT} {k : Nat} {ps : List Str} {sp : Sp} {E : XK} {x : Str} {p pos : Pos} {e : Expr} {es : List Expr} {ta : TE} {t : TA}
theorem pe_cf (c : CF X.prog X.w X.K X.mg X.base CX k x ps sp) (hr : Room k X.A) (hx : Passes CX X E) (ha : PA X (e :: es) t) (hg : Gl X x := by rfl)
    (hdb : (x == ("__debug__" : Str)) = false := by decide) (he : starEach (e :: es) X.env = (false, eval e X.env) :: starEach es X.env := by rfl) (hpl : (backTo pos (starEach es X.env)).any (·.1) = false := by rfl) :
    PE X (.Call (.Name x p) (e :: es) [] pos) (tCall sp [] E t) := by
  obtain ⟨f, fd, F, hm, hk, hb⟩ := c.ex
  exact pe_call F hr hg hm hk hb .nil hx ha hdb he hpl
theorem pe_cfS {E : St → XK} (c : CF X.prog X.w X.K X.mg X.base CX k x ps sp) (hr : Room k X.A) (hx : ∀ σ, PassesAt CX X σ (E σ)) (ha : PA X (e :: es) t) (hg : Gl X x := by rfl)
    (hdb : (x == ("__debug__" : Str)) = false := by decide) (he : starEach (e :: es) X.env = (false, eval e X.env) :: starEach es X.env := by rfl) (hpl : (backTo pos (starEach es X.env)).any (·.1) = false := by rfl) :
    PE X (.Call (.Name x p) (e :: es) [] pos) (tCallS sp E t) := by
  obtain ⟨f, fd, F, hm, hk, hb⟩ := c.ex
  exact pe_callS F hr hg hm hk hb hx ha hdb he hpl
end
/-! ### kinds -/
inductive Kd where | non | bl | int | str | lst | tup | dct
  deriving DecidableEq
def Kd.ty : Kd → String
  | .non => "NoneType" | .bl => "bool" | .int => "int" | .str => "str" | .lst => "list" | .tup => "tuple" | .dct => "dict"
/-- x is of that kind -/
inductive IsK (H : Hp) : V → Kd → Prop where
  | non : IsK H .non .non
  | bl (b : Bool) : IsK H (.bl b) .bl
  | int (i : Int) : IsK H (.int i) .int
  | str (z : Str) : IsK H (.str z) .str
  | lst {a : Addr} {xs : List V} (h : H a = some (.lst xs)) : IsK H (.ref a) .lst
  | tup {a : Addr} {xs : List V} (h : H a = some (.tup xs)) : IsK H (.ref a) .tup
  | dct {a : Addr} {kvs : List (Key × V)} (h : H a = some (.dK kvs)) : IsK H (.ref a) .dct
theorem IsK.same {H H' : Hp} (s : Same H H') {x : V} {k : Kd} (h : IsK H x k) : IsK H' x k := by
  cases h with
  | non => exact .non
  | bl b => exact .bl b
  | int i => exact .int i
  | str z => exact .str z
  | lst h => exact .lst (s _ _ h)
  | tup h => exact .tup (s _ _ h)
  | dct h => exact .dct (s _ _ h)
theorem IsK.elt {H : Hp} {x : V} {k : Kd} (h : IsK H x k) : EltV H x := by
  cases h with
  | non => exact .flat rfl
  | bl b => exact .flat rfl
  | int i => exact .flat rfl
  | str z => exact .flat rfl
  | lst h => exact .lst h
  | tup h => exact .tup h
  | dct h => exact .dct h
theorem IsK.tyX {K : PySem.W.Frag} {H : Hp} {x : V} {k : Kd} (h : IsK H x k) : TyX K H x (.type k.ty) := by
  cases h with
  | non => exact .base .non
  | bl b => exact .base (.bl b)
  | int i => exact .base (.int i)
  | str z => exact .base (.str z)
  | lst h => exact .base (.lst h)
  | tup h => exact .base (.tup h)
  | dct h => exact .base (.dK h)
/-- isinstance of a kind -/
def isaB (k : Kd) (T : String) : Bool := match k with
  | .bl => T == "bool" || T == "int"
  | k => T == k.ty
theorem kit_str (k : Kd) : kitB k.ty "str" = some (isaB k "str") := by cases k <;> decide +kernel
theorem kit_tuple (k : Kd) : kitB k.ty "tuple" = some (isaB k "tuple") := by cases k <;> decide +kernel
theorem kit_list (k : Kd) : kitB k.ty "list" = some (isaB k "list") := by cases k <;> decide +kernel
theorem kit_dict (k : Kd) : kitB k.ty "dict" = some (isaB k "dict") := by cases k <;> decide +kernel
theorem kit_int (k : Kd) : kitB k.ty "int" = some (isaB k "int") := by cases k <;> decide +kernel
theorem kit_bool (k : Kd) : kitB k.ty "bool" = some (isaB k "bool") := by cases k <;> decide +kernel
def rIs (T : String) : List V → Hp → VK → Prop := fun xs H Q => ∃ (x : V) (k : Kd), xs = [x, .ty T] ∧ IsK H x k ∧ Q (.bl (isaB k T)) H
section
variable {X : Cx} {p p2 pos : Pos} {e : Expr} {te : TE}
theorem call_is {T : String} (hk : ∀ k : Kd, kitB k.ty T = some (isaB k T)) : CallR X (.builtin "isinstance") (rIs T) := fun pins s σ H xs us Q I r ⟨x, k, ex, ik, q⟩ =>
  call_isi pins s σ H xs us Q I r ⟨x, .ty T, .type k.ty, .type T, isaB k T, ex, .ty T, ik.tyX, kit_ty (hk k), q⟩
theorem pe_isi {T : String} (hk : ∀ k : Kd, kitB k.ty T = some (isaB k T)) (hm : X.mg "isinstance" = none) (hT : X.mg T = none) (he : PE X e te) (hb : bootBuiltins T = some (.type T) := by decide +kernel) (hg : Gl X "isinstance" := by rfl) (hgT : Gl X T := by rfl)
    (hn : (PySem.Str.ofString T) ≠ "__name__" := by decide +kernel) (hd : ((PySem.Str.ofString T) == ("__debug__" : Str)) = false := by decide +kernel)
    (hs : starEach [e, .Name T p2] X.env = (false, eval e X.env) :: starEach [.Name T p2] X.env := by rfl) (hs2 : starEach [.Name T p2] X.env = (false, eval (.Name T p2) X.env) :: starEach [] X.env := by rfl) (hpl : (backTo pos (starEach [.Name T p2] X.env)).any (·.1) = false := by rfl) :
    PE X (.Call (.Name "isinstance" p) [e, .Name T p2] [] pos) (tCB (rIs T) (tCons te (tCons (tC (.ty T)) tNil))) :=
  pe_callB (X := X) (p := p) (pos := pos) (call_is hk) hg hm (by decide +kernel) (pa_cons he (pa_cons (pe_bltn (v := .ty T) hgT hT hb rfl hn hd) pa_nil hs2) hs) (by decide) (by decide) hs hpl
end
/-! ### slices of a list or a tuple -/
def rSlQ (K : PySem.W.Frag) : V → Option Int → Option Int → Hp → VK → Prop := fun x lo hi H Q => ∃ a xs, x = .ref a ∧ ((SqL K H a xs ∧ ∀ p, H p = none → Q (.ref p) (upd H p (.lst (cutV xs lo hi)))) ∨
  (SqT K H a xs ∧ (HT.sIx xs.length 0 lo = 0 ∧ HT.sIx xs.length xs.length hi = xs.length → Q (.ref a) H) ∧ (¬ (HT.sIx xs.length 0 lo = 0 ∧ HT.sIx xs.length xs.length hi = xs.length) → ∀ p, H p = none → Q (.ref p) (upd H p (.tup (cutV xs lo hi))))))
theorem Same.new {H : Hp} {p : Addr} {o : HO} (h : H p = none) : Same H (upd H p o) := fun b u e => by rw [upd_ne (ne_of_none e h)]; exact e
theorem sl_both {X : Cx} : SlR X (fun x lo hi H Q => rSlL X.K x lo hi H Q ∨ rSlA X.K x lo hi H Q) := sl_list.or sl_tupA
theorem cut_take (xs : List V) (i : Nat) (h : i ≤ xs.length) : cutV xs none (some (i : Int)) = xs.take i := by
  unfold cutV
  rw [HT.sIx_none, HT.sIx_nat, List.drop_zero, Nat.sub_zero, Nat.min_eq_left h]
/-- xs[:i], xs a list or a tuple -/
theorem take_both {K : PySem.W.Frag} {H : Hp} {a : Addr} {xs : List V} {i : Nat} {Q : VK} (hq : SqL K H a xs ∨ SqT K H a xs) (hi : i < xs.length) (h : ∀ p H', Same H H' → (SqL K H' p (xs.take i) ∨ SqT K H' p (xs.take i)) → Q (.ref p) H') :
    rSlL K (.ref a) none (some (i : Int)) H Q ∨ rSlA K (.ref a) none (some (i : Int)) H Q := by
  rcases hq with hq | hq
  · refine .inl ⟨a, xs, rfl, hq, fun p hp => h p _ (Same.new hp) (.inl (SqL.of ?_))⟩
    rw [upd_same, cut_take xs i (Nat.le_of_lt hi)]
  · refine .inr ⟨a, xs, rfl, hq, fun z => ?_, fun _ p hp => h p _ (Same.new hp) (.inr (SqT.of ?_))⟩
    · rw [HT.sIx_nat] at z
      have := z.2
      omega
    · rw [upd_same, cut_take xs i (Nat.le_of_lt hi)]
/-! ### names -/
def lowC (c : Nat) : Bool := decide (97 ≤ c) && decide (c ≤ 122)
def nameS (z : Str) : Bool := decide (1 ≤ z.length) && decide (z.length ≤ 8) && z.cps.toList.all lowC
def nameV : V → Bool
  | .str z => nameS z
  | _ => false
/-- the first place of an item that is not right or stands ahead; pre: what stands ahead of the rest -/
def badFrom (ok : V → Bool) : List V → List V → Option Nat
  | _, [] => none
  | pre, x :: r => if ok x && !pre.contains x then badFrom ok (pre ++ [x]) r else some pre.length
theorem badFrom_cons {ok : V → Bool} {pre r : List V} {x : V} : badFrom ok pre (x :: r) = if ok x && !pre.contains x then badFrom ok (pre ++ [x]) r else some pre.length := rfl
theorem badFrom_congr {ok ok' : V → Bool} : ∀ {pre l : List V}, (∀ x ∈ l, ok x = ok' x) → badFrom ok pre l = badFrom ok' pre l
  | _, [], _ => rfl
  | pre, x :: r, h => by
    unfold badFrom
    rw [h x List.mem_cons_self, badFrom_congr (pre := pre ++ [x]) (l := r) fun y hy => h y (List.mem_cons_of_mem _ hy)]
def vOpt : Option Nat → V
  | none => .non
  | some k => .int k
theorem badFrom_none {ok : V → Bool} : ∀ {pre l : List V}, pre.Nodup → badFrom ok pre l = none → (∀ x ∈ l, ok x = true) ∧ (pre ++ l).Nodup
  | pre, [], hn, _ => ⟨fun _ h => (by cases h), by simpa using hn⟩
  | pre, x :: r, hn, h => by
    unfold badFrom at h
    by_cases c : (ok x && !pre.contains x) = true
    · rw [if_pos c] at h
      rw [Bool.and_eq_true] at c
      have hx : x ∉ pre := by
        intro z
        have e : pre.contains x = true := by simpa using z
        rw [e] at c
        exact absurd c.2 (by decide)
      have hn' : (pre ++ [x]).Nodup := by
        rw [List.nodup_append]
        refine ⟨hn, by simp, fun a ha b hb => ?_⟩
        have : b = x := by simpa using hb
        subst this
        intro e
        subst e
        exact hx ha
      have ih := badFrom_none (pre := pre ++ [x]) (l := r) hn' h
      refine ⟨fun y hy => ?_, by simpa using ih.2⟩
      rcases List.mem_cons.mp hy with e | hy
      · rw [e]; exact c.1
      · exact ih.1 y hy
    · rw [if_neg c] at h
      cases h
theorem badFrom_lt {ok : V → Bool} : ∀ {pre l : List V} {k : Nat}, badFrom ok pre l = some k → k < pre.length + l.length
  | pre, [], _, h => by cases h
  | pre, x :: r, k, h => by
    unfold badFrom at h
    by_cases c : (ok x && !pre.contains x) = true
    · rw [if_pos c] at h
      have ih := badFrom_lt h
      simp only [List.length_append, List.length_cons, List.length_nil] at ih ⊢
      omega
    · rw [if_neg c] at h
      cases h
      simp only [List.length_cons]
      omega
theorem strs_of : ∀ {l : List V}, (∀ x ∈ l, nameV x = true) → ∃ zs : List Str, l = zs.map V.str ∧ ∀ z ∈ zs, nameS z = true
  | [], _ => ⟨[], rfl, fun _ h => by cases h⟩
  | x :: r, h => by
    obtain ⟨zs, e, hz⟩ := strs_of (l := r) fun y hy => h y (List.mem_cons_of_mem _ hy)
    have hx := h x List.mem_cons_self
    cases x with
    | str z => exact ⟨z :: zs, by rw [e]; rfl, fun y hy => by
        rcases List.mem_cons.mp hy with q | hy
        · rw [q]; exact hx
        · exact hz y hy⟩
    | _ => cases hx
theorem cmp_low1 (c : Nat) : (!decide (([c] : List Nat) < [97])) = decide (97 ≤ c) := by
  by_cases h : 97 ≤ c
  · have q : ¬ (([c] : List Nat) < [97]) := by
      intro z
      cases z with
      | cons z => cases z
      | rel z => exact absurd z (by omega)
    rw [decide_eq_true h, decide_eq_false q]
    rfl
  · have q : (([c] : List Nat) < [97]) := List.Lex.rel (by omega)
    rw [decide_eq_false h, decide_eq_true q]
    rfl
theorem cmp_low2 (c : Nat) : (!decide (([122] : List Nat) < [c])) = decide (c ≤ 122) := by
  by_cases h : c ≤ 122
  · have q : ¬ (([122] : List Nat) < [c]) := by
      intro z
      cases z with
      | cons z => cases z
      | rel z => exact absurd z (by omega)
    rw [decide_eq_true h, decide_eq_false q]
    rfl
  · have q : (([122] : List Nat) < [c]) := List.Lex.rel (by omega)
    rw [decide_eq_false h, decide_eq_true q]
    rfl
/-- a comprehension's turn that keeps its item -/
theorem lcTurn {te : TE} {σ : St} {H : Hp} {R : VK} {N : Hp → Prop} (h : te σ H R) : tYes σ H (fun b H3 => if b = true then te σ H3 R else N H3) := h
/-! ### heaps -/
/-- all but st as it was -/
def SameBut (st : Addr) (H H' : Hp) : Prop := ∀ b o, b ≠ st → H b = some o → H' b = some o
theorem SameBut.refl (st : Addr) (H : Hp) : SameBut st H H := fun _ _ _ h => h
theorem SameBut.trans {st : Addr} {H H1 H2 : Hp} (a : SameBut st H H1) (b : SameBut st H1 H2) : SameBut st H H2 := fun c o n h => b c o n (a c o n h)
theorem Same.but {H H' : Hp} (s : Same H H') (st : Addr) : SameBut st H H' := fun b o _ h => s b o h
theorem Same.seqT {K : PySem.W.Frag} {H H' : Hp} {a : Addr} {xs : List V} (e : Same H H') (h : SqT K H a xs) : SqT K H' a xs := by
  rcases h with (h | ⟨o, h⟩) | h
  · exact .inl (.inl (e _ _ h))
  · exact .inl (.inr ⟨o, e _ _ h⟩)
  · exact .inr h
/-- a drawing state: a list of two ints -/
def StAt (H : Hp) (st : Addr) : Prop := ∃ n s : Int, H st = some (.lst [.int n, .int s]) ∧ 0 ≤ n ∧ 0 ≤ s ∧ s < 2147483629
theorem SameBut.set {st : Addr} {H : Hp} {o : HO} : SameBut st H (upd H st o) := fun b u n e => by rw [upd_ne n]; exact e
theorem StAt.same {H H' : Hp} {st : Addr} (s : Same H H') (h : StAt H st) : StAt H' st := by
  obtain ⟨n, z, e, r⟩ := h
  exact ⟨n, z, s _ _ e, r⟩
/-! ### names are unlike each other -/
theorem nodup_sub_length {α : Type} [DecidableEq α] : ∀ {l m : List α}, l.Nodup → (∀ x ∈ l, x ∈ m) → l.length ≤ m.length
  | [], _, _, _ => Nat.zero_le _
  | x :: l, m, hn, h => by
    obtain ⟨hx, hl⟩ := List.nodup_cons.mp hn
    have hm : x ∈ m := h x List.mem_cons_self
    have ih := nodup_sub_length (l := l) (m := m.erase x) hl fun y hy => by
      have hne : y ≠ x := fun e => hx (e ▸ hy)
      exact (List.mem_erase_of_ne hne).mpr (h y (List.mem_cons_of_mem _ hy))
    rw [List.length_erase_of_mem hm] at ih
    have : 0 < m.length := List.length_pos_of_mem hm
    simp only [List.length_cons]
    omega
/-! ### for x in xs, xs a list or a tuple -/
def iSeq (K : PySem.W.Frag) (i : Nat) : TI := fun σ H R => ∃ (a : Addr) (xs : List V), σ[i]? = some (some (.ref a)) ∧ (SqL K H a xs ∨ SqT K H a xs) ∧ ∀ (J : It) (G : Hp → Prop), Walk J xs.length G (YAt xs) → (∀ H', Same H H' → G H') → R J H
theorem pi_seq {X : Cx} {tg : Expr} (i : Nat) {x : Str} {pos : Pos} (hN : X.N[i]? = some x := by rfl) (hv : Vis X.env.scope x := by first | exact Or.inl rfl | exact Or.inr (Or.inl rfl) | exact Or.inr (Or.inr rfl)) (hd : (x == ("__debug__" : Str)) = false := by decide)
    (hcd : (x == ("__classdict__" : Str)) = false := by decide) : PI X tg (.Name x pos) (iSeq X.K i) := by
  refine ⟨fun pins s σ H R I h => ?_⟩
  obtain ⟨a, xs, e, hq, key⟩ := h
  rcases hq with hq | hq
  · exact (pi_list (pe_var hN hv hd hcd)).run pins s σ H R I ⟨_, e, a, rfl, ⟨xs, hq⟩, key _ _ walk_list fun H' s => s.seq hq⟩
  · exact (pi_tup (pe_var hN hv hd hcd)).run pins s σ H R I ⟨_, e, a, rfl, ⟨xs, hq⟩, key _ _ walk_tup fun H' s => s.seqT hq⟩
def hasB (kvs : List (Key × V)) (ss : List Str) : Bool := decide (kvs.length = ss.length) && ss.all fun z => (valV kvs (Sum.inr z)).isSome
/-- an item of a list or tuple that is asked -/
def GoodE (H : Hp) (x : V) : Prop := (∃ k, IsK H x k) ∧ ∀ z, x = .str z → z.length ≤ 1000
theorem GoodE.same {H H' : Hp} (s : Same H H') {x : V} (h : GoodE H x) : GoodE H' x := ⟨h.1.imp fun _ q => q.same s, h.2⟩
theorem GoodE.elt {H : Hp} {x : V} (h : GoodE H x) : EltV H x := by
  obtain ⟨⟨k, q⟩, _⟩ := h
  exact q.elt
theorem GoodE.str {H : Hp} {z : Str} (h : z.length ≤ 1000) : GoodE H (.str z) := ⟨⟨_, .str z⟩, fun y e => by
  cases e
  exact h⟩
end L2
namespace L2
open PySem PySem.Spec PyProof.Rows
/-- a dict comprehension over it -/
theorem dc_it {J : It} {n : Nat} {G : Hp → Prop} {Y : Nat → Hp → V → Hp → Prop} (w : Walk J n G Y) {g : TG} {tt : TT} {tk tv : TE} {vs : List Nat} {σ : St} {H1 : Hp} {D : Addr} {Qd : Hp → Prop} (Pv : Nat → Hp → Prop) (h0 : Pv 0 (upd H1 D (.dK []))) (hG : ∀ i H, i ≤ n → Pv i H → G H)
    (hs : ∀ i x H H', i < n → Pv i H → Y i H x H' → g x (wipe σ vs) H' fun σ2 H2 => wipe σ2 vs = wipe σ vs ∧ tt σ2 H2 fun b H3 =>
      if b = true then tk σ2 H3 fun y H4 => tv σ2 H4 fun z H5 => ∃ kvs k, y = kV k ∧ H5 D = some (.dK kvs) ∧ kvs.length < sizeLine ∧ Pv (i + 1) (upd H5 D (.dK (putK kvs k z))) else Pv (i + 1) H3) (hd : ∀ H, Pv n H → Qd H) :
    ∃ W : Nat → Nat → Hp → Prop, (∃ m, W 0 m (upd H1 D (.dK []))) ∧ ∀ i m H, W i m H →
      (J.stop i H ∧ Qd H) ∨ (J.go i H ∧ ∃ Nx : Hp → Prop, (∀ H', Nx H' → ∃ m', m' < m ∧ W (i + 1) m' H') ∧ ∀ x H', J.yld i H x H' → g x (wipe σ vs) H' fun σ2 H2 => wipe σ2 vs = wipe σ vs ∧ tt σ2 H2 fun b H3 =>
        if b = true then tk σ2 H3 fun y H4 => tv σ2 H4 fun z H5 => ∃ kvs k, y = kV k ∧ H5 D = some (.dK kvs) ∧ kvs.length < sizeLine ∧ Nx (upd H5 D (.dK (putK kvs k z))) else Nx H3) := by
  refine ⟨fun i m H => m = n - i ∧ i ≤ n ∧ Pv i H, ⟨n, by simp, Nat.zero_le _, h0⟩, ?_⟩
  rintro i m H ⟨rfl, hi, p⟩
  have q := hG i H hi p
  by_cases hlt : i < n
  · exact .inr ⟨w.goes i H hlt q, Pv (i + 1), fun H' p' => ⟨n - (i + 1), by omega, rfl, hlt, p'⟩, fun x H' y => hs i x H H' hlt p (w.yields i H x H' hlt q y)⟩
  · have e : i = n := by omega
    subst e
    exact .inl ⟨w.stops H q, hd H p⟩
theorem dcTurn {tk tv : TE} {σ : St} {H : Hp} {R : V → VK} {N : Hp → Prop} (h : tk σ H fun y H4 => tv σ H4 (R y)) : tYes σ H (fun b H3 => if b = true then tk σ H3 (fun y H4 => tv σ H4 (R y)) else N H3) := h
/-- a dict from names to objects -/
def RowsG (H : Hp) (d : Addr) (ps : List Str) (cnt : Str → HO) : Prop := ∃ ad : Str → Addr, H d = some (.dK (ps.map fun a => (Sum.inr a, V.ref (ad a)))) ∧ ∀ a ∈ ps, H (ad a) = some (cnt a) ∧ ad a ≠ d
theorem RowsG.same {H H' : Hp} (s : Same H H') {d : Addr} {ps : List Str} {cnt : Str → HO} (h : RowsG H d ps cnt) : RowsG H' d ps cnt := by
  obtain ⟨ad, e, q⟩ := h
  exact ⟨ad, s _ _ e, fun a ha => ⟨s _ _ (q a ha).1, (q a ha).2⟩⟩
theorem RowsG.nil {H : Hp} {d : Addr} {cnt : Str → HO} (h : H d = some (.dK [])) : RowsG H d [] cnt := ⟨fun _ => 0, h, fun _ h => by cases h⟩
theorem valV_rows {ad : Str → Addr} : ∀ {ps : List Str} {a : Str}, a ∈ ps → valV (ps.map fun a => ((Sum.inr a : Key), V.ref (ad a))) (Sum.inr a) = some (.ref (ad a))
  | [], _, h => by cases h
  | b :: ps, a, h => by
    rw [List.map_cons]
    by_cases e : b = a
    · rw [valV_pos (by rw [e]), e]
    · rw [valV_neg (fun q => e (Sum.inr.inj q))]
      refine valV_rows ?_
      rcases List.mem_cons.mp h with q | q
      · exact absurd q.symm e
      · exact q
theorem valV_rows_none {ad : Str → Addr} : ∀ {ps : List Str} {a : Str}, a ∉ ps → valV (ps.map fun a => ((Sum.inr a : Key), V.ref (ad a))) (Sum.inr a) = none
  | [], _, _ => rfl
  | b :: ps, a, h => by
    rw [List.map_cons, valV_neg (fun q => h (by rw [Sum.inr.inj q]; exact List.mem_cons_self))]
    exact valV_rows_none fun q => h (List.mem_cons_of_mem _ q)
theorem RowsG.snoc {H H1 : Hp} {D p : Addr} {qs : List Str} {cnt : Str → HO} {a : Str} (R : RowsG H D qs cnt) (s : Same H H1) (ha : a ∉ qs) (hp : H1 p = some (cnt a)) (hpd : p ≠ D) :
    ∃ kvs, H1 D = some (.dK kvs) ∧ kvs.length = qs.length ∧ RowsG (upd H1 D (.dK (putK kvs (Sum.inr a) (.ref p)))) D (qs ++ [a]) cnt := by
  obtain ⟨ad, e, q⟩ := R
  refine ⟨_, s _ _ e, by rw [List.length_map], fun x => if x = a then p else ad x, ?_, fun x hx => ?_⟩
  · rw [upd_same, putK_new _ (valV_rows_none ha), List.map_append]
    have e1 : (qs.map fun x => ((Sum.inr x : Key), V.ref (if x = a then p else ad x))) = qs.map fun x => (Sum.inr x, V.ref (ad x)) := by
      refine List.map_congr_left fun x hx => ?_
      rw [if_neg (fun z : x = a => ha (z ▸ hx))]
    rw [e1]
    simp
  · by_cases hxa : x = a
    · subst hxa
      show upd H1 D _ (if x = x then p else ad x) = some (cnt x) ∧ (if x = x then p else ad x) ≠ D
      rw [if_pos rfl, upd_ne hpd]
      exact ⟨hp, hpd⟩
    · show upd H1 D _ (if x = a then p else ad x) = some (cnt x) ∧ (if x = a then p else ad x) ≠ D
      rw [if_neg hxa]
      have hx' : x ∈ qs := by
        rcases List.mem_append.mp hx with h | h
        · exact h
        · exact absurd (by simpa using h) hxa
      rw [upd_ne (q x hx').2]
      exact ⟨s _ _ (q x hx').1, (q x hx').2⟩
/-- a list of texts, as it stands -/
def lstO (ss : List Str) : HO := .lst (ss.map V.str)
/-- a dict of indexes -/
def rnkO (ss : List Str) : HO := .dK (ss.zipIdx.map fun q => (Sum.inr q.1, V.int (q.2 : Nat)))
def opn (ws : Str → List Str) (a : Str) : List Str := (ws a).filter fun b => decide (a ∈ ws b)
theorem take_snoc {α : Type} {l : List α} {i : Nat} {x : α} (h : l[i]? = some x) : l.take (i + 1) = l.take i ++ [x] := by
  rw [List.take_add_one, h]
  rfl
theorem not_mem_take {α : Type} {l : List α} (hn : l.Nodup) {i : Nat} {x : α} (h : l[i]? = some x) : x ∉ l.take i := by
  intro hm
  obtain ⟨j, hj⟩ := List.mem_iff_getElem?.mp hm
  have hji : j < i := by
    have := (List.getElem?_eq_some_iff.mp hj).1
    rw [List.length_take] at this
    omega
  rw [List.getElem?_take_of_lt hji] at hj
  have := nd_ix hn hj h
  omega
/-! ### the scope of a comprehension -/
def cScope (e : Expr) : Scope := match e with
  | .DictComp _ _ _ sc _ => sc
  | .ListComp _ _ sc _ => sc
  | _ => { kind := .function, names := [], isGenerator := false, isCoroutine := false }
def retE (b : List Stmt) (i : Nat) : Expr := match b.getD i (.Pass ⟨0, 0, 0, 0⟩) with
  | .Return (some e) _ => e
  | .Assign _ e _ => e
  | .Expr e _ => e
  | _ => .Constant .none 0 ⟨0, 0, 0, 0⟩
theorem lookup_rel {env : Env} : ∀ {names : List (Str × NameKind)} {x : Str}, names.lookup x = some .cell ∨ names.lookup x = some .free →
    (names.map fun (n, k) => if (k == NameKind.free && env.scope.kind == .function && env.kindOf n == some .cell) then (n, NameKind.cell) else (n, k)).lookup x = some .cell ∨
    (names.map fun (n, k) => if (k == NameKind.free && env.scope.kind == .function && env.kindOf n == some .cell) then (n, NameKind.cell) else (n, k)).lookup x = some .free
  | [], _, h => by simp at h
  | (n, k) :: r, x, h => by
    have ih := @lookup_rel env r x
    rw [List.map_cons]
    by_cases e : x = n
    · subst e
      have hk : k = .cell ∨ k = .free := by simpa [List.lookup] using h
      by_cases c : (k == NameKind.free && env.scope.kind == .function && env.kindOf x == some .cell) = true
      · refine .inl ?_
        simp only [if_pos c]
        simp [List.lookup]
      · simp only [if_neg c]
        rcases hk with hk | hk
        · exact .inl (by simp [List.lookup, hk])
        · exact .inr (by simp [List.lookup, hk])
    · have e' : (x == n) = false := by simpa using e
      have h' : r.lookup x = some .cell ∨ r.lookup x = some .free := by simpa [List.lookup, e'] using h
      have q := ih h'
      by_cases c : (k == NameKind.free && env.scope.kind == .function && env.kindOf n == some .cell) = true
      · simp only [if_pos c]
        simpa [List.lookup, e'] using q
      · simp only [if_neg c]
        simpa [List.lookup, e'] using q
/-- a comprehension within a comprehension -/
theorem BlkOk.rel {N : List Str} {sc scope : Scope} {own : List (Str × Nat)} {env : Env} (h : BlkOk N sc scope own) : BlkOk N (relabel sc env) scope own :=
  ⟨h.kind, h.uniq, h.ix, fun y hy e => lookup_rel (h.free y hy e), h.own⟩
/-! ### rules that name the written part, for a block within a block -/
section
variable {X : Cx} {K : PySem.W.Frag}
theorem pi_listK {tg e : Expr} {te : TE} (hK : X.K = K) (he : PE X e te) : PI X tg e (iList K te) := by
  subst hK
  exact pi_list he
theorem op_inSK (hK : X.K = K) (hu : X.A.units + 64 < cLine) : OpR X (compareOp .In) (rInS K false) := by
  subst hK
  exact op_inS hu
theorem pi_enumK {e : Expr} {ta : TA} {p pos tpos : Pos} {elts : List Expr} {kk : Nat} (hK : X.K = K) (hg : Gl X "enumerate") (hm : X.mg "enumerate" = none) (ha : PA X [e] ta) (hs : starEach [e] X.env = [(false, eval e X.env)] := by rfl) :
    PI X (.Tuple elts kk tpos) (.Call (.Name "enumerate" p) [e] [] pos) (iEnumT K ta) := by
  subst hK
  exact pi_enumT hg hm ha hs
theorem pg_tupK {es : List Expr} {k : Nat} {t : TGs} {n : Nat} {pos : Pos} (hK : X.K = K) (hc : X.calm = true) (h : PGs X es t)
    (hn : (assignEach es X.env).length = n := by rfl) (hst : (assignEach es X.env).findIdx? (·.1) = none := by rfl) : PG X (.Tuple es k pos) (gTup K n t) := by
  subst hK
  exact pg_tup hc h hn hst
end
theorem valV_rnk_none : ∀ {ss : List Str} {k : Nat} {a : Str}, a ∉ ss → valV ((ss.zipIdx k).map fun q => ((Sum.inr q.1 : Key), V.int (q.2 : Nat))) (Sum.inr a) = none
  | [], _, _, _ => rfl
  | b :: ss, k, a, h => by
    rw [List.zipIdx_cons, List.map_cons, valV_neg (fun q => h (by
      have e : b = a := Sum.inr.inj q
      rw [e]; exact List.mem_cons_self))]
    exact valV_rnk_none fun q => h (List.mem_cons_of_mem _ q)
theorem zip_snoc {ss : List Str} {b : Str} : ((ss ++ [b]).zipIdx.map fun q => ((Sum.inr q.1 : Key), V.int (q.2 : Nat))) = (ss.zipIdx.map fun q => ((Sum.inr q.1 : Key), V.int (q.2 : Nat))) ++ [(Sum.inr b, V.int (ss.length : Nat))] := by
  rw [List.zipIdx_append, List.map_append]
  simp
theorem call_listK {X : Cx} {K : PySem.W.Frag} (hK : X.K = K) : CallR X (.type "list") (fun xs H Q => ∃ p ys, xs = [.ref p] ∧ (SqL K H p ys ∨ SqT K H p ys) ∧ ∀ l, H l = none → Q (.ref l) (upd H l (.lst ys))) := by
  subst hK
  exact call_list_of
end L2
namespace Qp
open PySem L2
def topS (i : Nat) : Stmt := PySem.Challenge.pw_quietpairs_k60_whole_middle_algebra.main.body.getD i (.Pass ⟨0, 0, 0, 0⟩)
abbrev swall : Stmt := topS 0
abbrev scopied : Stmt := topS 2
abbrev sBadPeopleinit : Stmt := inClass (topS 4) 0
abbrev sBadWishesinit : Stmt := inClass (topS 5) 0
abbrev sNoPersoninit : Stmt := inClass (topS 6) 0
abbrev sNotOpeninit : Stmt := inClass (topS 7) 0
abbrev sNoDealinginit : Stmt := inClass (topS 8) 0
abbrev sNotCalminit : Stmt := inClass (topS 9) 0
abbrev sisname : Stmt := topS 11
abbrev shaskeys : Stmt := topS 12
abbrev sbadindex : Stmt := topS 13
abbrev sislot : Stmt := topS 14
abbrev sisdealing : Stmt := topS 16
abbrev sfits : Stmt := topS 17
abbrev scheckdealing : Stmt := topS 18
abbrev sabove : Stmt := topS 19
abbrev squarrels : Stmt := topS 20
abbrev siscalm : Stmt := topS 21
abbrev smiddle : Stmt := topS 23
abbrev scheckpeople : Stmt := topS 26
abbrev scheckwishes : Stmt := topS 27
abbrev sopenrows : Stmt := topS 28
abbrev srankrows : Stmt := topS 29
abbrev sGroupinit : Stmt := inClass (topS 30) 0
abbrev sGrouppeople : Stmt := inClass (topS 30) 1
abbrev sGroupwishes : Stmt := inClass (topS 30) 2
abbrev sGroupopento : Stmt := inClass (topS 30) 3
abbrev sGrouprank : Stmt := inClass (topS 30) 4
abbrev sGrouppairs : Stmt := inClass (topS 30) 5
abbrev sGroupwithwishes : Stmt := inClass (topS 30) 6
abbrev sGroupwithout : Stmt := inClass (topS 30) 7
abbrev sGroupjoined : Stmt := inClass (topS 30) 8
abbrev sGrouprenamed : Stmt := inClass (topS 30) 9
abbrev sGroupinside : Stmt := inClass (topS 30) 10
abbrev sGroupoutside : Stmt := inClass (topS 30) 11
abbrev sGroupexchanged : Stmt := inClass (topS 30) 12
abbrev sGroupstruck : Stmt := inClass (topS 30) 13
abbrev sGrouplen : Stmt := inClass (topS 30) 14
abbrev sGroupcontains : Stmt := inClass (topS 30) 15
abbrev sGroupgetitem : Stmt := inClass (topS 30) 16
abbrev sGroupiter : Stmt := inClass (topS 30) 17
abbrev sGroupeq : Stmt := inClass (topS 30) 18
abbrev sGrouphas : Stmt := inClass (topS 30) 19
abbrev sGroupcheckperson : Stmt := inClass (topS 30) 20
abbrev sGroupcheckopen : Stmt := inClass (topS 30) 21
abbrev sGroupcheckplaces : Stmt := inClass (topS 30) 22
abbrev sGroupchecknames : Stmt := inClass (topS 30) 23
abbrev sGroupchecklot : Stmt := inClass (topS 30) 24
abbrev sGroupwithrow : Stmt := inClass (topS 30) 25
abbrev sGroupwithonly : Stmt := inClass (topS 30) 26
abbrev sLisinteger : Stmt := topS 32
abbrev sLcell : Stmt := topS 33
abbrev sLtake : Stmt := topS 34
abbrev sLname : Stmt := topS 35
abbrev sLnames : Stmt := topS 36
abbrev sLmixed : Stmt := topS 37
abbrev sLothers : Stmt := topS 38
abbrev sLcopy : Stmt := topS 39
abbrev sLmutual : Stmt := topS 40
abbrev sLpairs : Stmt := topS 41
abbrev sLrather : Stmt := topS 42
abbrev sLquarrels : Stmt := topS 43
abbrev sLisdealing : Stmt := topS 44
abbrev sLiscalm : Stmt := topS 45
abbrev sLturned : Stmt := topS 46
abbrev sLsame : Stmt := topS 47
abbrev sLmany : Stmt := topS 48
abbrev sLblocks : Stmt := topS 49
abbrev sLblocklists : Stmt := topS 50
abbrev sLoneofall : Stmt := topS 51
abbrev sLmiddlefits : Stmt := topS 52
abbrev slaw : Stmt := topS 53
theorem scwall : FnScope ["k"] ["k"] (defScope swall) := ⟨rfl, rfl, rfl, by decide +kernel, rfl, by decide +kernel, by decide +kernel⟩
theorem sccopied : FnScope ["value", "item", "key"] ["value"] (defScope scopied) := ⟨rfl, rfl, rfl, by decide +kernel, rfl, by decide +kernel, by decide +kernel⟩
theorem scisname : FnScope ["value", "letter"] ["value"] (defScope sisname) := ⟨rfl, rfl, rfl, by decide +kernel, rfl, by decide +kernel, by decide +kernel⟩
theorem schaskeys : FnScope ["value", "names", "name"] ["value", "names"] (defScope shaskeys) := ⟨rfl, rfl, rfl, by decide +kernel, rfl, by decide +kernel, by decide +kernel⟩
theorem scbadindex : FnScope ["items", "names", "index", "item"] ["items", "names"] (defScope sbadindex) := ⟨rfl, rfl, rfl, by decide +kernel, rfl, by decide +kernel, by decide +kernel⟩
theorem scislot : FnScope ["value", "names"] ["value", "names"] (defScope sislot) := ⟨rfl, rfl, rfl, by decide +kernel, rfl, by decide +kernel, by decide +kernel⟩
theorem scisdealing : FnScope ["group", "x", "a"] ["group", "x"] (defScope sisdealing) := ⟨rfl, rfl, rfl, by decide +kernel, rfl, by decide +kernel, by decide +kernel⟩
theorem scfits : FnScope ["group", "x", "a", "b"] ["group", "x", "a"] (defScope sfits) := ⟨rfl, rfl, rfl, by decide +kernel, rfl, by decide +kernel, by decide +kernel⟩
theorem sccheckdealing : FnScope ["group", "x"] ["group", "x"] (defScope scheckdealing) := ⟨rfl, rfl, rfl, by decide +kernel, rfl, by decide +kernel, by decide +kernel⟩
theorem scabove : FnScope ["group", "x", "a", "row"] ["group", "x", "a"] (defScope sabove) := ⟨rfl, rfl, rfl, by decide +kernel, rfl, by decide +kernel, by decide +kernel⟩
theorem scquarrels : FnScope ["group", "x", "above", "a", "b"] ["group", "x"] (defScope squarrels) := ⟨rfl, rfl, rfl, by decide +kernel, rfl, by decide +kernel, by decide +kernel⟩
theorem sciscalm : FnScope ["group", "x"] ["group", "x"] (defScope siscalm) := ⟨rfl, rfl, rfl, by decide +kernel, rfl, by decide +kernel, by decide +kernel⟩
theorem scmiddle : FnScope ["group", "one", "two", "three", "index", "x", "a", "dealt", "ranks"] ["group", "one", "two", "three"] (defScope smiddle) := ⟨rfl, rfl, rfl, by decide +kernel, rfl, by decide +kernel, by decide +kernel⟩
theorem sccheckpeople : FnScope ["people", "index", "person"] ["people"] (defScope scheckpeople) := ⟨rfl, rfl, rfl, by decide +kernel, rfl, by decide +kernel, by decide +kernel⟩
theorem sccheckwishes : FnScope ["people", "wishes", "person", "other"] ["people", "wishes"] (defScope scheckwishes) := ⟨rfl, rfl, rfl, by decide +kernel, rfl, by decide +kernel, by decide +kernel⟩
theorem scopenrows : FnScope ["wishes", "a", "b"] ["wishes"] (defScope sopenrows) := ⟨rfl, rfl, rfl, by decide +kernel, rfl, by decide +kernel, by decide +kernel⟩
theorem scrankrows : FnScope ["rows", "a", "index", "b"] ["rows"] (defScope srankrows) := ⟨rfl, rfl, rfl, by decide +kernel, rfl, by decide +kernel, by decide +kernel⟩
theorem scGroupinit : FnScope ["self", "people", "wishes", "a"] ["self", "people", "wishes"] (defScope sGroupinit) := ⟨rfl, rfl, rfl, by decide +kernel, rfl, by decide +kernel, by decide +kernel⟩
theorem scGrouppeople : FnScope ["self"] ["self"] (defScope sGrouppeople) := ⟨rfl, rfl, rfl, by decide +kernel, rfl, by decide +kernel, by decide +kernel⟩
theorem scGroupwishes : FnScope ["self", "a"] ["self", "a"] (defScope sGroupwishes) := ⟨rfl, rfl, rfl, by decide +kernel, rfl, by decide +kernel, by decide +kernel⟩
theorem scGroupopento : FnScope ["self", "a"] ["self", "a"] (defScope sGroupopento) := ⟨rfl, rfl, rfl, by decide +kernel, rfl, by decide +kernel, by decide +kernel⟩
theorem scGrouprank : FnScope ["self", "a", "b"] ["self", "a", "b"] (defScope sGrouprank) := ⟨rfl, rfl, rfl, by decide +kernel, rfl, by decide +kernel, by decide +kernel⟩
theorem scGrouppairs : FnScope ["self", "a", "b"] ["self"] (defScope sGrouppairs) := ⟨rfl, rfl, rfl, by decide +kernel, rfl, by decide +kernel, by decide +kernel⟩
theorem scGroupwithwishes : FnScope ["self", "a", "wishes"] ["self", "a", "wishes"] (defScope sGroupwithwishes) := ⟨rfl, rfl, rfl, by decide +kernel, rfl, by decide +kernel, by decide +kernel⟩
theorem scGroupwithout : FnScope ["self", "a"] ["self", "a"] (defScope sGroupwithout) := ⟨rfl, rfl, rfl, by decide +kernel, rfl, by decide +kernel, by decide +kernel⟩
theorem scGroupjoined : FnScope ["self", "name", "wishes", "places"] ["self", "name", "wishes", "places"] (defScope sGroupjoined) := ⟨rfl, rfl, rfl, by decide +kernel, rfl, by decide +kernel, by decide +kernel⟩
theorem scGrouprenamed : FnScope ["self", "names"] ["self", "names"] (defScope sGrouprenamed) := ⟨rfl, rfl, rfl, by decide +kernel, rfl, by decide +kernel, by decide +kernel⟩
theorem scGroupinside : FnScope ["self", "lot"] ["self", "lot"] (defScope sGroupinside) := ⟨rfl, rfl, rfl, by decide +kernel, rfl, by decide +kernel, by decide +kernel⟩
theorem scGroupoutside : FnScope ["self", "lot"] ["self", "lot"] (defScope sGroupoutside) := ⟨rfl, rfl, rfl, by decide +kernel, rfl, by decide +kernel, by decide +kernel⟩
theorem scGroupexchanged : FnScope ["self", "a", "k"] ["self", "a", "k"] (defScope sGroupexchanged) := ⟨rfl, rfl, rfl, by decide +kernel, rfl, by decide +kernel, by decide +kernel⟩
theorem scGroupstruck : FnScope ["self", "a", "b"] ["self", "a", "b"] (defScope sGroupstruck) := ⟨rfl, rfl, rfl, by decide +kernel, rfl, by decide +kernel, by decide +kernel⟩
theorem scGrouplen : FnScope ["self"] ["self"] (defScope sGrouplen) := ⟨rfl, rfl, rfl, by decide +kernel, rfl, by decide +kernel, by decide +kernel⟩
theorem scGroupcontains : FnScope ["self", "x"] ["self", "x"] (defScope sGroupcontains) := ⟨rfl, rfl, rfl, by decide +kernel, rfl, by decide +kernel, by decide +kernel⟩
theorem scGroupgetitem : FnScope ["self", "at"] ["self", "at"] (defScope sGroupgetitem) := ⟨rfl, rfl, rfl, by decide +kernel, rfl, by decide +kernel, by decide +kernel⟩
theorem scGroupiter : FnScope ["self"] ["self"] (defScope sGroupiter) := ⟨rfl, rfl, rfl, by decide +kernel, rfl, by decide +kernel, by decide +kernel⟩
theorem scGroupeq : FnScope ["self", "other"] ["self", "other"] (defScope sGroupeq) := ⟨rfl, rfl, rfl, by decide +kernel, rfl, by decide +kernel, by decide +kernel⟩
theorem scGrouphas : FnScope ["self", "value"] ["self", "value"] (defScope sGrouphas) := ⟨rfl, rfl, rfl, by decide +kernel, rfl, by decide +kernel, by decide +kernel⟩
theorem scGroupcheckperson : FnScope ["self", "value"] ["self", "value"] (defScope sGroupcheckperson) := ⟨rfl, rfl, rfl, by decide +kernel, rfl, by decide +kernel, by decide +kernel⟩
theorem scGroupcheckopen : FnScope ["self", "a", "b"] ["self", "a", "b"] (defScope sGroupcheckopen) := ⟨rfl, rfl, rfl, by decide +kernel, rfl, by decide +kernel, by decide +kernel⟩
theorem scGroupcheckplaces : FnScope ["self", "places"] ["self", "places"] (defScope sGroupcheckplaces) := ⟨rfl, rfl, rfl, by decide +kernel, rfl, by decide +kernel, by decide +kernel⟩
theorem scGroupchecknames : FnScope ["self", "names"] ["self", "names"] (defScope sGroupchecknames) := ⟨rfl, rfl, rfl, by decide +kernel, rfl, by decide +kernel, by decide +kernel⟩
theorem scGroupchecklot : FnScope ["self", "lot"] ["self", "lot"] (defScope sGroupchecklot) := ⟨rfl, rfl, rfl, by decide +kernel, rfl, by decide +kernel, by decide +kernel⟩
theorem scGroupwithrow : FnScope ["self", "a", "row"] ["self", "a", "row"] (defScope sGroupwithrow) := ⟨rfl, rfl, rfl, by decide +kernel, rfl, by decide +kernel, by decide +kernel⟩
theorem scGroupwithonly : FnScope ["self", "people"] ["self", "people"] (defScope sGroupwithonly) := ⟨rfl, rfl, rfl, by decide +kernel, rfl, by decide +kernel, by decide +kernel⟩
theorem scLisinteger : FnScope ["_law_actual"] ["_law_actual"] (defScope sLisinteger) := ⟨rfl, rfl, rfl, by decide +kernel, rfl, by decide +kernel, by decide +kernel⟩
theorem scLcell : FnScope ["_law_script", "_law_k", "_law_number", "_law_seed"] ["_law_script", "_law_k"] (defScope sLcell) := ⟨rfl, rfl, rfl, by decide +kernel, rfl, by decide +kernel, by decide +kernel⟩
theorem scLtake : FnScope ["_law_state", "_law_many_here", "_law_digit", "_law_mixed_here"] ["_law_state", "_law_many_here"] (defScope sLtake) := ⟨rfl, rfl, rfl, by decide +kernel, rfl, by decide +kernel, by decide +kernel⟩
theorem scLname : FnScope ["_law_state", "_law_taken", "_law_letters", "_law_size", "_law_k", "_law_name_here", "_law_last", "_law_other"] ["_law_state", "_law_taken"] (defScope sLname) := ⟨rfl, rfl, rfl, by decide +kernel, rfl, by decide +kernel, by decide +kernel⟩
theorem scLnames : FnScope ["_law_state", "_law_many_here", "_law_names_here", "_law_k"] ["_law_state", "_law_many_here"] (defScope sLnames) := ⟨rfl, rfl, rfl, by decide +kernel, rfl, by decide +kernel, by decide +kernel⟩
theorem scLmixed : FnScope ["_law_state", "_law_items", "_law_pool", "_law_row", "_law_k"] ["_law_state", "_law_items"] (defScope sLmixed) := ⟨rfl, rfl, rfl, by decide +kernel, rfl, by decide +kernel, by decide +kernel⟩
theorem scLothers : FnScope ["_law_names_here", "_law_a", "_law_b"] ["_law_names_here", "_law_a"] (defScope sLothers) := ⟨rfl, rfl, rfl, by decide +kernel, rfl, by decide +kernel, by decide +kernel⟩
theorem scLcopy : FnScope ["_law_wishes", "_law_copy_here", "_law_a"] ["_law_wishes"] (defScope sLcopy) := ⟨rfl, rfl, rfl, by decide +kernel, rfl, by decide +kernel, by decide +kernel⟩
theorem scLmutual : FnScope ["_law_names_here", "_law_wishes", "_law_mutual_here", "_law_a", "_law_b"] ["_law_names_here", "_law_wishes"] (defScope sLmutual) := ⟨rfl, rfl, rfl, by decide +kernel, rfl, by decide +kernel, by decide +kernel⟩
theorem scLpairs : FnScope ["_law_mutual_here", "_law_rows", "_law_a", "_law_b"] ["_law_mutual_here"] (defScope sLpairs) := ⟨rfl, rfl, rfl, by decide +kernel, rfl, by decide +kernel, by decide +kernel⟩
theorem scLrather : FnScope ["_law_mutual_here", "_law_a", "_law_b", "_law_held"] ["_law_mutual_here", "_law_a", "_law_b", "_law_held"] (defScope sLrather) := ⟨rfl, rfl, rfl, by decide +kernel, rfl, by decide +kernel, by decide +kernel⟩
theorem scLquarrels : FnScope ["_law_mutual_here", "_law_x", "_law_rows", "_law_pair", "_law_a", "_law_b"] ["_law_mutual_here", "_law_x"] (defScope sLquarrels) := ⟨rfl, rfl, rfl, by decide +kernel, rfl, by decide +kernel, by decide +kernel⟩
theorem scLisdealing : FnScope ["_law_mutual_here", "_law_x", "_law_a"] ["_law_mutual_here", "_law_x"] (defScope sLisdealing) := ⟨rfl, rfl, rfl, by decide +kernel, rfl, by decide +kernel, by decide +kernel⟩
theorem scLiscalm : FnScope ["_law_mutual_here", "_law_x"] ["_law_mutual_here", "_law_x"] (defScope sLiscalm) := ⟨rfl, rfl, rfl, by decide +kernel, rfl, by decide +kernel, by decide +kernel⟩
theorem scLturned : FnScope ["_law_x", "_law_turned_here", "_law_a"] ["_law_x"] (defScope sLturned) := ⟨rfl, rfl, rfl, by decide +kernel, rfl, by decide +kernel, by decide +kernel⟩
theorem scLsame : FnScope ["_law_actual", "_law_due", "_law_k", "_law_key"] ["_law_actual", "_law_due"] (defScope sLsame) := ⟨rfl, rfl, rfl, by decide +kernel, rfl, by decide +kernel, by decide +kernel⟩
theorem scLmany : FnScope ["_law_state", "_law_top"] ["_law_state", "_law_top"] (defScope sLmany) := ⟨rfl, rfl, rfl, by decide +kernel, rfl, by decide +kernel, by decide +kernel⟩
theorem scLblocks : FnScope ["_law_state", "_law_names_here", "_law_order", "_law_blocks_here", "_law_at", "_law_turn", "_law_size"] ["_law_state", "_law_names_here"] (defScope sLblocks) := ⟨rfl, rfl, rfl, by decide +kernel, rfl, by decide +kernel, by decide +kernel⟩
theorem scLblocklists : FnScope ["_law_state", "_law_names_here", "_law_blocks_here", "_law_wishes", "_law_block", "_law_k", "_law_ring", "_law_head", "_law_tail", "_law_b"] ["_law_state", "_law_names_here", "_law_blocks_here"] (defScope sLblocklists) := ⟨rfl, rfl, rfl, by decide +kernel, rfl, by decide +kernel, by decide +kernel⟩
theorem scLoneofall : FnScope ["_law_state", "_law_blocks_here", "_law_x", "_law_block", "_law_shift", "_law_k", "_law_a", "_law_b"] ["_law_state", "_law_blocks_here"] (defScope sLoneofall) := ⟨rfl, rfl, rfl, by decide +kernel, rfl, by decide +kernel, by decide +kernel⟩
theorem scLmiddlefits : FnScope ["_law_group", "_law_mutual_here", "_law_xs", "_law_x", "_law_a", "_law_y"] ["_law_group", "_law_mutual_here", "_law_xs"] (defScope sLmiddlefits) := ⟨rfl, rfl, rfl, by decide +kernel, rfl, by decide +kernel, by decide +kernel⟩
theorem sclaw : FnScope ["_law_script", "_law_state", "_law_names_here", "_law_blocks_here", "_law_wishes", "_law_group", "_law_mutual_here", "_law_xs", "_law_inner", "_law_other", "_law_again", "_law_twice", "_law_left", "_law_one", "_law_two", "_law_k"] ["_law_script"] (defScope slaw) := ⟨rfl, rfl, rfl, by decide +kernel, rfl, by decide +kernel, by decide +kernel⟩
/-- built-in names that the module does not bind -/
structure Bl (mg : Str → Option Value) : Prop where
  len : mg "len" = none
  isi : mg "isinstance" = none
  all : mg "all" = none
  enum : mg "enumerate" = none
  str : mg "str" = none
  tup : mg "tuple" = none
  lst : mg "list" = none
  dct : mg "dict" = none
  srt : mg "sorted" = none
  rng : mg "range" = none
  abs : mg "abs" = none
  int : mg "int" = none
  min : mg "min" = none
  bool : mg "bool" = none
  rev : mg "reversed" = none
  iter : mg "iter" = none
  any : mg "any" = none
  max : mg "max" = none
end Qp
namespace Qp
open PySem L2
section
variable {P : Program} {w : World} {K : PySem.W.Frag} {mg : Str → Option Value} {base : Heap}
/-- is_name(value) -/
def spIsName : Sp := fun vs H Q _ => ∃ (x : V) (k : Kd), vs = [x] ∧ IsK H x k ∧ (∀ z, x = .str z → z.length ≤ 1000) ∧ ∀ H', Same H H' → Q (.bl (nameV x)) H'
theorem ok_isname {f : Addr} {fd : FuncData} (F : Fun K "is_name" "is_name" sisname f fd) (B : Bl mg) : FnOk P w K mg base CX0 1 f fd ["value"] spIsName := by
  refine F.ok scisname (fun vs H Q E h => ?_) (fun cdv A outer s H vs Q E hr h => ?_)
  · obtain ⟨x, k, rfl, _⟩ := h
    rfl
  · obtain ⟨x, k, rfl, ik, hz, kq⟩ := h
    refine ⟨_, pss_one (ps_ret (pe_and (pe_isi kit_str B.isi B.str (pv 0)) (pe_and (pe_chain op_le op_le pe_int (pe_callB call_len (by rfl) B.len PySem.boot_len (pa_cons (pv 0) pa_nil)) pe_int)
      (pe_one (pe_callB (cr_all rfl) (by rfl) B.all (by decide +kernel) (pa_cons (pe_lc (own := [("letter", 1)]) (g := gName 1) (tt := tYes) rfl scisname.nd (pi_str (pv 0)) (blkOk_by (own := [("letter", 1)]) (N := ["value", "letter"]) (sc := defScope sisname) (by decide +kernel))
        (fun _ _ _ _ _ => pg_name (i := 1) scisname.nd rfl (Or.inl rfl)) (fun _ _ _ _ _ => pts_nil) (fun _ _ _ _ _ => pe_chain op_le_str op_le_str pe_str (pv 1) pe_str)) pa_nil)))))), ?_⟩
    refine ⟨_, rfl, x, k, rfl, ik, ?_⟩
    cases ik with
    | str z =>
      refine ⟨true, rfl, iteT ?_⟩
      have hl := hz z rfl
      have e2 : sizeLine = 16777216 := sizeLine_eq
      refine ⟨_, rfl, .str z, z.length, rfl, ⟨by omega, rfl⟩, _, _, rfl, rfl, _, rfl, ?_⟩
      have nf : ∀ {b : Bool}, nameS z = b → nameV (V.str z) = b := fun e => e
      refine ite2 (fun h1 => ?_) (fun h1 => ?_)
      · refine ⟨_, _, rfl, rfl, _, rfl, ite2 (fun h2 => ?_) (fun h2 => ?_)⟩
        · refine ⟨_, rfl, z, rfl, fun D hD => lc_it walk_str (fun i H' => H' = upd H D (.lst (((z.cps.toList.take i).map lowC).map V.bl))) rfl (fun _ _ _ _ => True.intro) ?_ ?_⟩
          · rintro i y H1 H' hi rfl ⟨rfl, c, hc, rfl⟩
            have ea : ("a" : Str).cps.toList = [97] := by decide +kernel
            have ez : ("z" : Str).cps.toList = [122] := by decide +kernel
            have k1 : (!decide (((⟨#[c]⟩ : Str).cps.toList) < ("a" : Str).cps.toList)) = decide (97 ≤ c) := by rw [ea]; exact cmp_low1 c
            have k2 : (!decide (("z" : Str).cps.toList < ((⟨#[c]⟩ : Str).cps.toList))) = decide (c ≤ 122) := by rw [ez]; exact cmp_low2 c
            have hc' : z.cps.toList[i]? = some c := by rw [Array.getElem?_toList]; exact hc
            have tk : (((z.cps.toList.take (i + 1)).map lowC).map V.bl) = (((z.cps.toList.take i).map lowC).map V.bl) ++ [V.bl (lowC c)] := by
              rw [List.take_add_one, hc']
              simp
            have sz : z.cps.toList.length = z.length := by simp [Str.length]
            have fin : ∀ b, b = lowC c → ∃ acc, (upd H D (.lst (((z.cps.toList.take i).map lowC).map V.bl))) D = some (.lst acc) ∧ acc.length < sizeLine ∧
                upd (upd H D (.lst (((z.cps.toList.take i).map lowC).map V.bl))) D (.lst (acc ++ [V.bl b])) = upd H D (.lst (((z.cps.toList.take (i + 1)).map lowC).map V.bl)) := by
              intro b eb
              refine ⟨_, upd_same, ?_, ?_⟩
              · rw [List.length_map, List.length_map, List.length_take]
                omega
              · rw [upd_upd, eb, tk]
            refine ⟨rfl, lcTurn ⟨_, rfl, _, _, rfl, rfl, _, rfl, ite2 (fun h3 => ?_) (fun h3 => ?_)⟩⟩
            · refine ⟨_, _, rfl, rfl, fin _ ?_⟩
              rw [k1] at h3
              rw [k2]
              unfold lowC
              rw [h3, Bool.true_and]
            · refine fin _ ?_
              rw [k1] at h3
              unfold lowC
              cases e : decide (97 ≤ c) with
              | true => exact absurd e h3
              | false => rw [Bool.false_and]
          · rintro H' rfl
            refine ⟨D, z.cps.toList.map lowC, rfl, SqL.of ?_, ?_⟩
            · rw [upd_same, List.take_of_length_le (by simp)]
            · have e : nameV (V.str z) = ((z.cps.toList.map lowC).all id) := by
                refine nf ?_
                have h1' : decide (1 ≤ z.length) = true := by
                  have := of_decide_eq_true h1
                  exact decide_eq_true (by omega)
                have h2' : decide (z.length ≤ 8) = true := by
                  have := of_decide_eq_true h2
                  exact decide_eq_true (by omega)
                unfold nameS
                rw [h1', h2', List.all_map]
                rfl
              rw [← e]
              exact kq _ (Same.new hD)
        · have e : nameV (V.str z) = false := by
            refine nf ?_
            have h2' : decide (z.length ≤ 8) = false := decide_eq_false fun q => h2 (decide_eq_true (by omega))
            unfold nameS
            rw [h2', Bool.and_false, Bool.false_and]
          have q := kq H (Same.refl H)
          rw [e] at q
          exact q
      · have e : nameV (V.str z) = false := by
          refine nf ?_
          have h1' : decide (1 ≤ z.length) = false := decide_eq_false fun q => h1 (decide_eq_true (by omega))
          unfold nameS
          rw [h1', Bool.false_and, Bool.false_and]
        have q := kq H (Same.refl H)
        rw [e] at q
        exact ⟨false, rfl, iteF q⟩
    | _ => exact ⟨false, rfl, iteF (kq H (Same.refl H))⟩
end
end Qp
namespace Qp
open PySem L2
section
variable {P : Program} {w : World} {K : PySem.W.Frag} {mg : Str → Option Value} {base : Heap}
/-- bad_index(items, names) -/
def spBad (K : PySem.W.Frag) : Sp := fun vs H Q _ => ∃ (a b : Addr) (xs : List V) (ss : List Str), vs = [.ref a, .ref b] ∧ (SqL K H a xs ∨ SqT K H a xs) ∧ (SqL K H b (ss.map V.str) ∨ SqT K H b (ss.map V.str)) ∧ (∀ x ∈ xs, EltV H x) ∧
  ∀ H', Same H H' → Q (vOpt (badFrom (fun x => inS x ss) [] xs)) H'
theorem sq_same {K : PySem.W.Frag} {H H' : Hp} {a : Addr} {xs : List V} (s : Same H H') (h : SqL K H a xs ∨ SqT K H a xs) : SqL K H' a xs ∨ SqT K H' a xs := h.imp s.seq s.seqT
theorem ok_bad {f : Addr} {fd : FuncData} (F : Fun K "bad_index" "bad_index" sbadindex f fd) (B : Bl mg) : FnOk P w K mg base CX0 1 f fd ["items", "names"] (spBad K) := by
  refine F.ok scbadindex (fun vs H Q E h => ?_) (fun cdv A outer s H vs Q E hr h => ?_)
  · obtain ⟨a, b, xs, ss, rfl, _⟩ := h
    rfl
  · obtain ⟨a, b, xs, ss, rfl, ha, hb, hx, kq⟩ := h
    refine ⟨_, pss_cons (ps_for PassesOwn.never rfl (pi_enumT (by rfl) B.enum (pa_cons (pv 0) pa_nil))
        (pg_tup rfl (pgs_cons (pg_name (i := 2) scbadindex.nd rfl (Or.inl rfl)) (pgs_cons (pg_name (i := 3) scbadindex.nd rfl (Or.inl rfl)) pgs_nil)))
        (pss_one (ps_if (PW.pt (pw_or (pt_cmpR (op_notInS hr.units) (pv 3) (pv 1) (by rfl)) (pw_or1 (pt_cmpR (op_inS hr.units) (pv 3) (pe_slice sl_both (pv 0) po_none (po_some (pv 2))) (by rfl)))))
          (pss_one (ps_ret (pv 2))) pss_nil)))
      (pss_one (ps_ret pe_non)), ?_⟩
    refine ⟨_, rfl, a, xs, rfl, ha, fun J G wk hG => for_it wk (fun i σ H' => ∃ (v2 v3 : Option V) (zs : List Str), σ = [some (.ref a), some (.ref b), v2, v3] ∧ Same H H' ∧ xs.take i = zs.map V.str ∧
      badFrom (fun x => inS x ss) (xs.take i) (xs.drop i) = badFrom (fun x => inS x ss) [] xs) ⟨none, none, [], rfl, Same.refl H, rfl, rfl⟩ (fun i σ H' _ ⟨_, _, _, _, s, _⟩ => hG H' s) ?_ ?_⟩
    · rintro i v σ H1 H2 hi ⟨v2, v3, zs, rfl, s, htk, hbf⟩ ⟨T, x, y, rfl, hT, rfl, ex, ey⟩
      cases ex
      have ey : xs[i]? = some y := ey
      have s2 : Same H (upd H1 T (.tup [.int (i : Nat), y])) := s.trans (Same.new hT)
      have hlen : xs.drop i = y :: xs.drop (i + 1) := by
        have h1 := (List.getElem?_eq_some_iff.mp ey)
        rw [List.drop_eq_getElem_cons hi, h1.2]
      have htk2 : xs.take (i + 1) = xs.take i ++ [y] := by
        rw [List.take_add_one, ey]
        rfl
      have hli : (xs.take i).length = i := by
        rw [List.length_take]
        omega
      rw [hlen, badFrom_cons] at hbf
      have ey' : EltV (upd H1 T (.tup [.int (i : Nat), y])) y := (hx y (List.mem_of_getElem? ey)).same s2
      refine ⟨T, [.int (i : Nat), y], rfl, SqT.of upd_same, rfl, _, _, rfl, _, _, rfl, rfl, ?_⟩
      refine ⟨_, rfl, _, rfl, b, ss, rfl, sq_same s2 hb, ey', _, rfl, ?_⟩
      cases e1 : inS y ss with
      | false =>
        refine iteT (iteT ⟨_, rfl, ?_⟩)
        have q := kq _ s2
        rw [← hbf, e1, Bool.false_and, if_neg Bool.false_ne_true, hli] at q
        exact q
      | true =>
        obtain ⟨z, hz, rfl⟩ := inS_iff.mp e1
        refine iteF ⟨_, rfl, _, rfl, _, rfl, _, rfl, take_both (sq_same s2 ha) hi fun p H3 s3 hp => ⟨p, zs, rfl, by rw [← htk]; exact hp, ey'.same s3, _, rfl, ?_⟩⟩
        have ec : (xs.take i).contains (V.str z) = inS (V.str z) zs := by
          rw [htk, inS_str]
          simp
        cases e2 : inS (V.str z) zs with
        | true =>
          refine iteT ⟨_, rfl, ?_⟩
          have q := kq _ (s2.trans s3)
          rw [← hbf, e1, ec, e2, Bool.not_true, Bool.and_false, if_neg Bool.false_ne_true, hli] at q
          exact q
        | false =>
          refine iteF ⟨_, _, zs ++ [z], rfl, s2.trans s3, by rw [htk2, htk, List.map_append]; rfl, ?_⟩
          rw [e1, ec, e2, Bool.not_false, Bool.true_and, if_pos rfl] at hbf
          rw [htk2]
          exact hbf
    · rintro σ H1 ⟨v2, v3, zs, rfl, s, htk, hbf⟩
      have q := kq H1 s
      rw [← hbf, List.drop_length] at q
      exact q
end
end Qp
namespace L2
open PySem PySem.Spec PyProof.Rows
/-- no dict, whatever it is -/
def NotD (K : PySem.W.Frag) (H : Hp) (x : V) : Prop := ∀ H', Same H H' → ∃ t, TyX K H' x t ∧ PySem.W.kitOne K t (.type "dict") = some false
theorem NotD.same {K : PySem.W.Frag} {H H' : Hp} (s : Same H H') {x : V} (h : NotD K H x) : NotD K H' x := fun H2 s2 => h H2 (s.trans s2)
def rNotD (K : PySem.W.Frag) : List V → Hp → VK → Prop := fun xs H Q => ∃ x : V, xs = [x, .ty "dict"] ∧ NotD K H x ∧ Q (.bl false) H
section
variable {X : Cx} {p p2 pos : Pos} {e : Expr} {te : TE}
theorem call_notD : CallR X (.builtin "isinstance") (rNotD X.K) := fun pins s σ H xs us Q I r ⟨x, ex, hx, q⟩ => by
  obtain ⟨t, h1, h2⟩ := hx H (Same.refl H)
  exact call_isi pins s σ H xs us Q I r ⟨x, .ty "dict", t, .type "dict", false, ex, .ty "dict", h1, h2, q⟩
/-- isinstance(e, dict), e of a kind or no dict at all -/
theorem pe_isiD (hm : X.mg "isinstance" = none) (hT : X.mg "dict" = none) (he : PE X e te) (hg : Gl X "isinstance" := by rfl) (hgT : Gl X "dict" := by rfl)
    (hs : starEach [e, .Name "dict" p2] X.env = (false, eval e X.env) :: starEach [.Name "dict" p2] X.env := by rfl) (hs2 : starEach [.Name "dict" p2] X.env = (false, eval (.Name "dict" p2) X.env) :: starEach [] X.env := by rfl) (hpl : (backTo pos (starEach [.Name "dict" p2] X.env)).any (·.1) = false := by rfl) :
    PE X (.Call (.Name "isinstance" p) [e, .Name "dict" p2] [] pos) (tCB (fun xs H Q => rIs "dict" xs H Q ∨ rNotD X.K xs H Q) (tCons te (tCons (tC (.ty "dict")) tNil))) :=
  pe_callB (X := X) (p := p) (pos := pos) ((call_is kit_dict).or call_notD) hg hm (by decide +kernel) (pa_cons he (pa_cons (pe_bltn (v := .ty "dict") hgT hT (by decide +kernel) rfl (by decide +kernel) (by decide +kernel)) pa_nil hs2) hs) (by decide) (by decide) hs hpl
end
end L2
namespace Qp
open PySem L2
section
variable {P : Program} {w : World} {K : PySem.W.Frag} {mg : Str → Option Value} {base : Heap}
/-- has_keys(value, names) -/
def spHas (K : PySem.W.Frag) : Sp := fun vs H Q _ => (∃ (x : V) (b : Addr), vs = [x, .ref b] ∧ NotD K H x ∧ ∀ H', Same H H' → Q (.bl false) H') ∨ ∃ (x : V) (k : Kd) (b : Addr) (ss : List Str), vs = [x, .ref b] ∧ IsK H x k ∧ (SqL K H b (ss.map V.str) ∨ SqT K H b (ss.map V.str)) ∧ ss.length ≤ 1000 ∧
  (k ≠ .dct → ∀ H', Same H H' → Q (.bl false) H') ∧ ∀ d kvs, x = .ref d → H d = some (.dK kvs) → ∀ H', Same H H' → Q (.bl (hasB kvs ss)) H'
theorem ok_has {f : Addr} {fd : FuncData} (F : Fun K "has_keys" "has_keys" shaskeys f fd) (B : Bl mg) : FnOk P w K mg base CX0 1 f fd ["value", "names"] (spHas K) := by
  refine F.ok schaskeys (fun vs H Q E h => ?_) (fun cdv A outer s H vs Q E hr h => ?_)
  · rcases h with ⟨x, b, rfl, _⟩ | ⟨x, k, b, ss, rfl, _⟩ <;> rfl
  · have hu := hu_of hr
    refine ⟨_, pss_one (ps_ret (pe_and (pe_isiD B.isi B.dct (pv 0)) (pe_and (pe_cmpR op_eq (pe_callB call_lenD (by rfl) B.len PySem.boot_len (pa_cons (pv 0) pa_nil)) (pe_callB call_len_seq (by rfl) B.len PySem.boot_len (pa_cons (pv 1) pa_nil)) (nomark _))
      (pe_one (pe_callB (cr_all rfl) (by rfl) B.all (by decide +kernel) (pa_cons (pe_lc (own := [("name", 2)]) (g := gName 2) (tt := tYes) rfl schaskeys.nd (pi_seq 1) (blkOk_by (own := [("name", 2)]) (N := ["value", "names", "name"]) (sc := defScope shaskeys) (by decide +kernel))
        (fun _ _ _ _ _ => pg_name (i := 2) schaskeys.nd rfl (Or.inl rfl)) (fun _ _ _ _ _ => pts_nil) (fun _ _ _ _ _ => pe_cmp (pc_din hu (pv 2) (pv 0)) rfl)) pa_nil)))))), ?_⟩
    rcases h with ⟨x, b, rfl, hx, kq⟩ | ⟨x, k, b, ss, rfl, ik, hb, hl, kn, kq⟩
    · exact ⟨_, rfl, .inr ⟨x, rfl, hx, _, rfl, iteF (kq H (Same.refl H))⟩⟩
    refine ⟨_, rfl, .inl ⟨x, k, rfl, ik, ?_⟩⟩
    cases ik with
    | @dct d kvs hd =>
      have kq' := kq d kvs rfl hd
      have e2 : sizeLine = 16777216 := sizeLine_eq
      refine ⟨true, rfl, iteT ?_⟩
      refine ⟨_, rfl, d, kvs, rfl, hd, _, rfl, b, _, rfl, hb, rfl, ?_⟩
      by_cases hc : kvs.length = ss.length
      · have e1 : decide (V.int (kvs.length : Int) = V.int ((ss.map V.str).length : Int)) = true := by
          rw [List.length_map, hc]
          exact decide_eq_true rfl
        refine ⟨_, rfl, ?_⟩
        rw [e1]
        refine iteT ⟨b, ss.map V.str, rfl, hb, fun J G wk hG D hD => lc_it wk (fun i H' => Same H H' ∧ H' D = some (.lst (((ss.take i).map fun z => (valV kvs (Sum.inr z)).isSome).map V.bl))) ⟨Same.new hD, upd_same⟩ (fun i H' _ z => hG H' z.1) ?_ ?_⟩
        · rintro i y H1 H' hi ⟨s1, hD1⟩ ⟨rfl, hy⟩
          rw [List.getElem?_map] at hy
          cases ez : ss[i]? with
          | none => rw [ez] at hy; cases hy
          | some z =>
            rw [ez] at hy
            cases hy
            refine ⟨rfl, lcTurn ⟨_, rfl, _, rfl, d, _, rfl, DGet.k (k := Sum.inr z) (s1 _ _ hd), _, hD1, ?_, fun b' o' e' => ?_, ?_⟩⟩
            · rw [List.length_map, List.length_map, List.length_take]
              omega
            · rw [upd_ne (ne_of_none e' hD)]
              exact s1 _ _ e'
            · rw [upd_same, List.take_add_one, ez]
              simp
        · rintro H' ⟨s1, hD1⟩
          refine ⟨D, ss.map fun z => (valV kvs (Sum.inr z)).isSome, rfl, SqL.of ?_, ?_⟩
          · rw [hD1, List.take_of_length_le (by simp)]
          · have e : hasB kvs ss = (ss.map fun z => (valV kvs (Sum.inr z)).isSome).all id := by
              unfold hasB
              rw [decide_eq_true hc, Bool.true_and, List.all_map]
              rfl
            rw [← e]
            exact kq' _ s1
      · have e1 : decide (V.int (kvs.length : Int) = V.int ((ss.map V.str).length : Int)) = false := by
          rw [List.length_map]
          refine decide_eq_false fun z => hc ?_
          have := V.int.inj z
          omega
        refine ⟨_, rfl, ?_⟩
        rw [e1]
        have e : hasB kvs ss = false := by
          unfold hasB
          rw [decide_eq_false hc, Bool.false_and]
        have q := kq' H (Same.refl H)
        rw [e] at q
        exact iteF q
    | _ => exact ⟨false, rfl, iteF (kn (by intro z; cases z) H (Same.refl H))⟩
/-- is_lot(value, names) -/
def spLot (K : PySem.W.Frag) : Sp := fun vs H Q _ => ∃ (x : V) (k : Kd) (b : Addr) (ss : List Str), vs = [x, .ref b] ∧ IsK H x k ∧ (SqL K H b (ss.map V.str) ∨ SqT K H b (ss.map V.str)) ∧
  (k ≠ .lst → ∀ H', Same H H' → Q (.bl false) H') ∧ ∀ a xs, x = .ref a → H a = some (.lst xs) → (∀ y ∈ xs, EltV H y) ∧ ∀ H', Same H H' → Q (.bl (decide (vOpt (badFrom (fun x => inS x ss) [] xs) = .non))) H'
theorem ok_lot {f : Addr} {fd : FuncData} (F : Fun K "is_lot" "is_lot" sislot f fd) (B : Bl mg) (cB : CF P w K mg base CX0 1 "bad_index" ["items", "names"] (spBad K)) : FnOk P w K mg base CX0 2 f fd ["value", "names"] (spLot K) := by
  refine F.ok scislot (fun vs H Q E h => ?_) (fun cdv A outer s H vs Q E hr h => ?_)
  · obtain ⟨x, k, b, ss, rfl, _⟩ := h
    rfl
  · obtain ⟨x, k, b, ss, rfl, ik, hb, kn, kq⟩ := h
    refine ⟨_, pss_one (ps_ret (pe_and (pe_isi kit_list B.isi B.lst (pv 0)) (pe_one (pe_cmp (pc_isN (pe_cf cB hr pass0 (pa_cons (pv 0) (pa_cons (pv 1) pa_nil)))) rfl)))), ?_⟩
    refine ⟨_, rfl, x, k, rfl, ik, ?_⟩
    cases ik with
    | @lst a xs ha =>
      obtain ⟨hx, kq⟩ := kq a xs rfl ha
      exact ⟨true, rfl, iteT ⟨_, rfl, _, rfl, a, b, xs, ss, rfl, .inl (SqL.of ha), hb, hx, kq⟩⟩
    | _ => exact ⟨false, rfl, iteF (kn (by intro z; cases z) H (Same.refl H))⟩
end
end Qp
namespace Qp
open PySem L2
/-- what is wrong with people: none, or the index of BadPeople -/
def dueP : Option (List V) → Option Int
  | none => some (-1)
  | some xs => if xs.length ≤ 16 then (badFrom nameV [] xs).map Int.ofNat else some (-1)
section
variable {P : Program} {w : World} {K : PySem.W.Frag} {mg : Str → Option Value} {base : Heap}
/-- an error of the class at C with one field leaves -/
def Leaves (C : Addr) (f : Str) (v : V) (H : Hp) (E : XK) : Prop := ∀ (d : Addr) (H' : Hp), Same H H' → H' d = some (.xd [(f, v)]) → E (.ref C) (some d) H'
theorem Leaves.go {C : Addr} {f : Str} {v : V} {H H1 : Hp} {E : XK} (h : Leaves C f v H E) (s : Same H H1) (d : Addr) (hd : H1 d = none) : E (.ref C) (some d) (upd H1 d (.xd [(f, v)])) := h d _ (s.trans (Same.new hd)) upd_same
/-- people as a tuple, or none -/
def TupOf (H : Hp) (x : V) (o : Option (List V)) : Prop := ∃ k, IsK H x k ∧ match o with
  | none => k ≠ .tup
  | some xs => ∃ a, x = .ref a ∧ H a = some (.tup xs) ∧ (∀ y ∈ xs, GoodE H y) ∧ xs.length ≤ 1000
/-- _check_people(people) -/
def spCP (C : Addr) : Sp := fun vs H Q E => ∃ (x : V) (o : Option (List V)), vs = [x] ∧ TupOf H x o ∧ (dueP o = none → ∀ H', Same H H' → Q .non H') ∧ ∀ i, dueP o = some i → Leaves C "index" (.int i) H E
theorem names_ok {xs : List V} {zs : List Str} (h : xs.filter nameV = zs.map V.str) : badFrom (fun x => inS x zs) [] xs = badFrom nameV [] xs := by
  refine badFrom_congr fun x hx => ?_
  cases e : nameV x with
  | true =>
    have hm : x ∈ xs.filter nameV := List.mem_filter.mpr ⟨hx, e⟩
    rw [h] at hm
    obtain ⟨z, hz, rfl⟩ := List.mem_map.mp hm
    exact inS_iff.mpr ⟨z, hz, rfl⟩
  | false =>
    cases e2 : inS x zs with
    | false => rfl
    | true =>
      obtain ⟨z, hz, rfl⟩ := inS_iff.mp e2
      have hm : V.str z ∈ zs.map V.str := List.mem_map.mpr ⟨z, hz, rfl⟩
      rw [← h] at hm
      have := (List.mem_filter.mp hm).2
      rw [e] at this
      cases this
theorem ok_cp {f C fI : Addr} {fd : FuncData} {tk : Tok} (F : Fun K "_check_people" "_check_people" scheckpeople f fd) (B : Bl mg) (T : PySem.QX.OwnTxt P K mg "BadPeople" "index" C fI) (hM : mg "MOST_PEOPLE" = some (.int 16 tk))
    (cN : CF P w K mg base CX0 1 "is_name" ["value"] spIsName) (cB : CF P w K mg base CX0 1 "bad_index" ["items", "names"] (spBad K)) : FnOk P w K mg base (L2.CX P w) 2 f fd ["people"] (spCP C) := by
  refine F.okX sccheckpeople (fun vs H Q E h => ?_) (fun cdv A outer s H vs Q E hr h => ?_)
  · obtain ⟨x, o, rfl, _⟩ := h
    rfl
  · obtain ⟨x, o, rfl, ⟨k, ik, hx⟩, kq, kx⟩ := h
    refine ⟨_, pss_cons (ps_if (PW.pt (pw_or (pt_not (pt_val (pe_isi kit_tuple B.isi B.tup (pv 0)))) (pw_or1 (pt_cmpR op_gt (pe_callB call_len_seq (by rfl) B.len PySem.boot_len (pa_cons (pv 0) pa_nil)) (pe_glob (v := .int 16) rfl hM ⟨_, rfl⟩) (nomark _)))))
        (pss_one (ps_raiseS rfl T hr (takes_of rfl rfl rfl rfl) (pa_cons (pe_un un_neg pe_int) pa_nil) rfl)) pss_nil)
      (pss_cons (ps_set (i := 1) sccheckpeople.nd rfl (Or.inl rfl) (pe_cf cB hr pass0 (pa_cons (pv 0) (pa_cons
          (pe_lc (own := [("person", 2)]) (g := gName 2) rfl sccheckpeople.nd (pi_seq 0) (blkOk_by (own := [("person", 2)]) (N := ["people", "index", "person"]) (sc := defScope scheckpeople) (by decide +kernel))
            (fun _ _ _ _ _ => pg_name (i := 2) sccheckpeople.nd rfl (Or.inl rfl)) (fun _ _ _ _ _ => pts_one (pt_val (pe_cf cN hr pass0 (pa_cons (pv 2) pa_nil)))) (fun _ _ _ _ _ => pv 2)) pa_nil))))
      (pss_one (ps_if (pt_cmp (pc_notN (pv 1))) (pss_one (ps_raiseS rfl T hr (takes_of rfl rfl rfl rfl) (pa_cons (pv 1) pa_nil) rfl)) pss_nil))), ?_⟩
    refine ⟨_, rfl, x, k, rfl, ik, _, rfl, ?_⟩
    cases o with
    | none =>
      have e : isaB k "tuple" = false := by
        have hk : k ≠ .tup := hx
        cases k <;> first | rfl | exact absurd rfl hk
      rw [e]
      refine iteT (iteT ?_)
      exact ⟨_, rfl, _, rfl, fun d hd => (kx (-1) rfl).go (Same.refl H) d hd⟩
    | some xs =>
      obtain ⟨a, rfl, ha, hg, hlen⟩ := hx
      have e : isaB k "tuple" = true := by
        cases ik with
        | lst h => rw [ha] at h; cases h
        | tup h => rfl
        | dct h => rw [ha] at h; cases h
      rw [e]
      refine iteF ⟨_, rfl, a, xs, rfl, .inr (SqT.of ha), _, _, rfl, rfl, _, rfl, ?_⟩
      refine ite2 (fun h1 => ?_) (fun h1 => ?_)
      · have h2 := of_decide_eq_true h1
        have e2 : dueP (some xs) = some (-1) := if_neg (by omega)
        exact ⟨_, rfl, _, rfl, fun d hd => (kx (-1) e2).go (Same.refl H) d hd⟩
      · have h2 : xs.length ≤ 16 := by
          have q : ¬ ((16 : Int) < xs.length) := fun z => h1 (decide_eq_true z)
          omega
        have e2 : dueP (some xs) = (badFrom nameV [] xs).map Int.ofNat := if_pos h2
        have esz : sizeLine = 16777216 := sizeLine_eq
        refine ⟨_, rfl, a, xs, rfl, .inr (SqT.of ha), fun J G wk hG D hD => lc_it wk (fun i H' => Same H H' ∧ H' D = some (.lst ((xs.take i).filter nameV))) ⟨Same.new hD, upd_same⟩ (fun i H' _ z => hG H' z.1) ?_ ?_⟩
        · rintro i y H1 H' hi ⟨s1, hD1⟩ ⟨rfl, hy⟩
          obtain ⟨⟨ky, iy⟩, hz⟩ := hg y (List.mem_of_getElem? hy)
          refine ⟨rfl, _, rfl, y, ky, rfl, iy.same s1, hz, fun H2 s2 => ⟨_, rfl, ?_⟩⟩
          have tk : (xs.take (i + 1)).filter nameV = (xs.take i).filter nameV ++ [y].filter nameV := by
            rw [List.take_add_one, hy, List.filter_append]
            rfl
          have hD2 := s2 _ _ hD1
          have hlt : ((xs.take i).filter nameV).length < sizeLine := by
            have q1 := List.length_filter_le nameV (xs.take i)
            rw [List.length_take] at q1
            omega
          cases en : nameV y with
          | true =>
            refine iteT ⟨_, rfl, _, hD2, hlt, fun b' o' e' => ?_, ?_⟩
            · rw [upd_ne (ne_of_none e' hD)]
              exact s2 _ _ (s1 _ _ e')
            · rw [upd_same, tk, List.filter_cons_of_pos (by exact en)]
              rfl
          | false =>
            refine iteF ⟨s1.trans s2, ?_⟩
            rw [hD2, tk, List.filter_cons_of_neg (by rw [en]; decide), List.filter_nil, List.append_nil]
        · rintro H1 ⟨s1, hD1⟩
          obtain ⟨zs, ez, _⟩ := strs_of (l := xs.filter nameV) fun y hy => (List.mem_filter.mp hy).2
          rw [List.take_of_length_le (Nat.le_refl _), ez] at hD1
          refine ⟨a, D, xs, zs, rfl, .inr (SqT.of (s1 _ _ ha)), .inl (SqL.of hD1), fun y hy => (hg y hy).elt.same s1, fun H2 s2 => ?_⟩
          rw [names_ok ez]
          refine ⟨_, rfl, _, rfl, ?_⟩
          cases eb : badFrom nameV [] xs with
          | none =>
            refine iteF (kq ?_ H2 (s1.trans s2))
            rw [e2, eb]
            rfl
          | some i =>
            refine iteT ⟨_, rfl, _, rfl, fun d hd => (kx i ?_).go (s1.trans s2) d hd⟩
            rw [e2, eb]
            rfl
end
end Qp
namespace Qp
open PySem L2
/-- a list, or something else -/
def LstOf (H : Hp) (v : V) (o : Option (List V)) : Prop := ∃ k, IsK H v k ∧ match o with
  | none => k ≠ .lst
  | some xs => ∃ a, v = .ref a ∧ H a = some (.lst xs) ∧ ∀ y ∈ xs, EltV H y
theorem LstOf.same {H H' : Hp} (s : Same H H') {v : V} {o : Option (List V)} (h : LstOf H v o) : LstOf H' v o := by
  obtain ⟨k, ik, q⟩ := h
  refine ⟨k, ik.same s, ?_⟩
  cases o with
  | none => exact q
  | some xs =>
    obtain ⟨a, e, h, hy⟩ := q
    exact ⟨a, e, s _ _ h, fun y m => (hy y m).same s⟩
/-- the wishes of p are as they should be -/
def okW (ps : List Str) (p : Str) : Option (List V) → Bool
  | none => false
  | some xs => decide (vOpt (badFrom (fun x => inS x (ps.filter fun z => !decide (z = p))) [] xs) = .non)
section
variable {P : Program} {w : World} {K : PySem.W.Frag} {mg : Str → Option Value} {base : Heap}
/-- _check_wishes(people, wishes) -/
def spCW (C : Addr) : Sp := fun vs H Q E => ∃ (a : Addr) (x : V) (k : Kd) (ps : List Str), vs = [.ref a, x] ∧ H a = some (.tup (ps.map V.str)) ∧ ps.length ≤ 60 ∧ IsK H x k ∧
  (k ≠ .dct → Leaves C "person" (.str "") H E) ∧
  ∀ d kvs, x = .ref d → H d = some (.dK kvs) → (hasB kvs ps = false → Leaves C "person" (.str "") H E) ∧ (hasB kvs ps = true → ∃ wo : Str → Option (List V),
    (∀ p ∈ ps, ∃ v, valV kvs (Sum.inr p) = some v ∧ LstOf H v (wo p)) ∧ ((∀ p ∈ ps, okW ps p (wo p) = true) → ∀ H', Same H H' → Q .non H') ∧
    ∀ (ys pre post : List Str) (p : Str), ys.Perm ps → PyProof.Rows.sortedS ys = true → ys = pre ++ p :: post → (∀ q ∈ pre, okW ps q (wo q) = true) → okW ps p (wo p) = false → Leaves C "person" (.str p) H E)
theorem ok_cw {f C fI : Addr} {fd : FuncData} (F : Fun K "_check_wishes" "_check_wishes" scheckwishes f fd) (B : Bl mg) (T : PySem.QX.OwnTxt P K mg "BadWishes" "person" C fI)
    (cH : CF P w K mg base CX0 1 "has_keys" ["value", "names"] (spHas K)) (cL : CF P w K mg base CX0 2 "is_lot" ["value", "names"] (spLot K)) : FnOk P w K mg base (L2.CX P w) 3 f fd ["people", "wishes"] (spCW C) := by
  refine F.okX sccheckwishes (fun vs H Q E h => ?_) (fun cdv A outer s H vs Q E hr h => ?_)
  · obtain ⟨a, x, k, ps, rfl, _⟩ := h
    rfl
  · obtain ⟨a, x, k, ps, rfl, ha, hlen, ik, kn, kq⟩ := h
    have hu := hu_of hr
    have esz : sizeLine = 16777216 := sizeLine_eq
    refine ⟨_, pss_cons (ps_if (pt_not (pt_val (pe_cf cH (hr.mono (by decide)) pass0 (pa_cons (pv 1) (pa_cons (pv 0) pa_nil))))) (pss_one (ps_raiseS rfl T hr (takes_of rfl rfl rfl rfl) (pa_cons pe_str pa_nil) rfl)) pss_nil)
      (pss_one (ps_for (passes_of rfl) rfl (pi_list (pe_callB cr_sortedST (by rfl) B.srt (by decide +kernel) (pa_cons (pv 0) pa_nil))) (pg_name (i := 2) sccheckwishes.nd rfl (Or.inr rfl))
        (pss_one (ps_if (pt_not (pt_val (pe_cf cL hr pass0 (pa_cons (pe_dget hu (pv 1) (pv 2) (fun _ _ => rfl)) (pa_cons
          (pe_lc (own := [("other", 3)]) (g := gName 3) rfl sccheckwishes.nd (pi_seq 0) (blkOk_by (own := [("other", 3)]) (N := ["people", "wishes", "person", "other"]) (sc := defScope scheckwishes) (by decide +kernel))
            (fun _ _ _ _ _ => pg_name (i := 3) sccheckwishes.nd rfl (Or.inl rfl)) (fun _ _ _ _ _ => pts_one (pt_cmpR op_ne (pv 3) (pv 2) (nomark _))) (fun _ _ _ _ _ => pv 3)) pa_nil)))))
          (pss_one (ps_raiseS rfl T hr (takes_of rfl rfl rfl rfl) (pa_cons (pv 2) pa_nil) rfl)) pss_nil)))), ?_⟩
    refine ⟨_, rfl, _, rfl, .inr ⟨x, k, a, ps, rfl, ik, .inr (SqT.of ha), by omega, fun hk H1 s1 => ?_, fun d kvs ex hd H1 s1 => ?_⟩⟩
    · exact ⟨false, rfl, iteT ⟨_, rfl, fun d hd => (kn hk).go s1 d hd⟩⟩
    · subst ex
      obtain ⟨k1, k2⟩ := kq d kvs rfl hd
      refine ⟨_, rfl, ?_⟩
      cases eb : hasB kvs ps with
      | false => exact iteT ⟨_, rfl, fun d hd => (k1 eb).go s1 d hd⟩
      | true =>
        obtain ⟨wo, hw, kok, kbad⟩ := k2 eb
        refine iteF ⟨_, rfl, a, ps, rfl, SqT.of (s1 _ _ ha), by omega, fun ys l hp hs hl => ⟨l, rfl, ⟨_, SqL.of upd_same⟩, ?_⟩⟩
        have s2 : Same H (upd H1 l (.lst (ys.map V.str))) := s1.trans (Same.new hl)
        refine for_it (walk_list (xs := ys.map V.str)) (fun i σ H' => ∃ (v2 : Option V), σ = [some (.ref a), some (.ref d), v2, none] ∧ Same (upd H1 l (.lst (ys.map V.str))) H' ∧ ∀ q ∈ ys.take i, okW ps q (wo q) = true)
          ⟨none, rfl, Same.refl _, fun q hq => by simp at hq⟩ (fun i σ H' _ ⟨_, _, s3, _⟩ => SqL.of (s3 _ _ upd_same)) ?_ ?_
        · rintro i y σ Hx H2 hi ⟨v2, rfl, s3, hok⟩ ⟨rfl, hy⟩
          rw [List.length_map] at hi
          rw [List.getElem?_map] at hy
          cases ep : ys[i]? with
          | none => rw [ep] at hy; cases hy
          | some p =>
            rw [ep] at hy
            cases hy
            have hpm : p ∈ ps := hp.mem_iff.mp (List.mem_of_getElem? ep)
            obtain ⟨v, hv, hlv⟩ := hw p hpm
            have s4 : Same H H2 := s2.trans s3
            refine ⟨_, rfl, _, rfl, d, v, rfl, by rw [← hv]; exact DGet.k (k := Sum.inr p) (s4 _ _ hd), a, ps.map V.str, rfl, .inr (SqT.of (s4 _ _ ha)), fun J G wk hG D hD => lc_it wk (fun j H' => Same H2 H' ∧ H' D = some (.lst (((ps.take j).filter fun z => !decide (z = p)).map V.str))) ⟨Same.new hD, upd_same⟩ (fun j H' _ z => hG H' z.1) ?_ ?_⟩
            · rintro j y H3 H' hj ⟨s5, hD5⟩ ⟨rfl, hy⟩
              rw [List.length_map] at hj
              rw [List.getElem?_map] at hy
              cases eo : ps[j]? with
              | none => rw [eo] at hy; cases hy
              | some z =>
                rw [eo] at hy
                cases hy
                refine ⟨rfl, _, rfl, _, rfl, rfl, _, rfl, ?_⟩
                have tk : (ps.take (j + 1)).filter (fun z => !decide (z = p)) = (ps.take j).filter (fun z => !decide (z = p)) ++ [z].filter (fun z => !decide (z = p)) := by
                  rw [List.take_add_one, eo, List.filter_append]
                  rfl
                have hlt : (((ps.take j).filter fun z => !decide (z = p)).map V.str).length < sizeLine := by
                  have q1 := List.length_filter_le (fun z => !decide (z = p)) (ps.take j)
                  rw [List.length_take] at q1
                  rw [List.length_map]
                  omega
                by_cases ez : z = p
                · have e1 : decide (V.str z = V.str p) = true := decide_eq_true (by rw [ez])
                  rw [e1]
                  refine iteF ⟨s5, ?_⟩
                  rw [hD5, tk, List.filter_cons_of_neg (by rw [decide_eq_true ez]; decide), List.filter_nil, List.append_nil]
                · have e1 : decide (V.str z = V.str p) = false := decide_eq_false fun q => ez (V.str.inj q)
                  rw [e1]
                  refine iteT ⟨_, rfl, _, hD5, hlt, fun b' o' e' => ?_, ?_⟩
                  · rw [upd_ne (ne_of_none e' hD)]
                    exact s5 _ _ e'
                  · rw [upd_same, tk, List.filter_cons_of_pos (by rw [decide_eq_false ez]; decide), List.filter_nil, List.map_append]
                    rfl
            · rintro H3 ⟨s5, hD5⟩
              rw [List.length_map, List.take_of_length_le (Nat.le_refl _)] at hD5
              have s6 : Same H H3 := s4.trans s5
              obtain ⟨kv, ikv, hq⟩ := hlv.same s6
              have go_ok : okW ps p (wo p) = true → ∀ H4, Same H3 H4 → ∃ v2 : Option V, ([some (.ref a), some (.ref d), v2, none].set 2 (some (V.str p)) : List (Option V)) = [some (.ref a), some (.ref d), some (V.str p), none] := fun _ _ _ => ⟨none, rfl⟩
              have step : okW ps p (wo p) = true → ∀ q ∈ ys.take (i + 1), okW ps q (wo q) = true := fun e q hq => by
                rw [List.take_add_one, ep] at hq
                rcases List.mem_append.mp hq with h | h
                · exact hok q h
                · have : q = p := by simpa using h
                  rw [this]
                  exact e
              have bad : okW ps p (wo p) = false → Leaves C "person" (.str p) H E := fun e => by
                have hd1 : ys.drop i = p :: ys.drop (i + 1) := by
                  have h1 := (List.getElem?_eq_some_iff.mp ep)
                  rw [List.drop_eq_getElem_cons h1.1, h1.2]
                have es : ys = ys.take i ++ p :: ys.drop (i + 1) := by rw [← hd1, List.take_append_drop]
                exact kbad ys (ys.take i) (ys.drop (i + 1)) p hp hs es hok e
              refine ⟨v, kv, D, ps.filter (fun z => !decide (z = p)), rfl, ikv, .inl (SqL.of hD5), fun hk H4 s7 => ?_, fun av xs ev hav => ⟨fun y hy => ?_, fun H4 s7 => ?_⟩⟩
              · have e1 : okW ps p (wo p) = false := by
                  cases e : wo p with
                  | none => rfl
                  | some xs =>
                    rw [e] at hq
                    obtain ⟨a', e', h', _⟩ := hq
                    subst e'
                    cases ikv with
                    | lst h => exact absurd rfl hk
                    | tup h => rw [h'] at h; cases h
                    | dct h => rw [h'] at h; cases h
                exact ⟨_, rfl, iteT ⟨_, rfl, _, rfl, fun d' hd' => (bad e1).go (s6.trans s7) d' hd'⟩⟩
              · cases e : wo p with
                | none =>
                  rw [e] at hq
                  subst ev
                  cases ikv with
                  | lst h => exact absurd rfl hq
                  | tup h => rw [hav] at h; cases h
                  | dct h => rw [hav] at h; cases h
                | some xs' =>
                  rw [e] at hq
                  obtain ⟨a', e', h', hy'⟩ := hq
                  rw [ev] at e'
                  cases e'
                  rw [hav] at h'
                  cases h'
                  exact hy' y hy
              · have e1 : okW ps p (wo p) = decide (vOpt (badFrom (fun x => inS x (ps.filter fun z => !decide (z = p))) [] xs) = .non) := by
                  cases e : wo p with
                  | none =>
                    rw [e] at hq
                    subst ev
                    cases ikv with
                    | lst h => exact absurd rfl hq
                    | tup h => rw [hav] at h; cases h
                    | dct h => rw [hav] at h; cases h
                  | some xs' =>
                    rw [e] at hq
                    obtain ⟨a', e', h', hy'⟩ := hq
                    rw [ev] at e'
                    cases e'
                    rw [hav] at h'
                    cases h'
                    rfl
                refine ⟨_, rfl, ?_⟩
                rw [← e1]
                cases eo : okW ps p (wo p) with
                | false => exact iteT ⟨_, rfl, _, rfl, fun d' hd' => (bad eo).go (s6.trans s7) d' hd'⟩
                | true => exact iteF ⟨some (V.str p), rfl, s3.trans (s5.trans s7), step eo⟩
        · rintro σ H2 ⟨v2, rfl, s3, hok⟩
          rw [List.length_map, List.take_of_length_le (Nat.le_refl _)] at hok
          exact kok (fun q hq => hok q (hp.mem_iff.mpr hq)) _ (s2.trans s3)
end
end Qp
namespace Qp
open PySem L2
section
variable {P : Program} {w : World} {K : PySem.W.Frag} {mg : Str → Option Value} {base : Heap}
/-- _open_rows(wishes) -/
def spOR : Sp := fun vs H Q _ => ∃ (d : Addr) (ps : List Str) (ws : Str → List Str), vs = [.ref d] ∧ RowsG H d ps (fun a => lstO (ws a)) ∧ ps.Nodup ∧ ps.length ≤ 1000 ∧ (∀ a ∈ ps, (ws a).length ≤ 1000 ∧ ∀ b ∈ ws a, b ∈ ps) ∧
  ∀ D H', Same H H' → RowsG H' D ps (fun a => lstO (opn ws a)) → Q (.ref D) H'
theorem ok_or {f : Addr} {fd : FuncData} (F : Fun K "_open_rows" "_open_rows" sopenrows f fd) : FnOk P w K mg base CX0 1 f fd ["wishes"] spOR := by
  refine F.ok scopenrows (fun vs H Q E h => ?_) (fun cdv A outer s H vs Q E hr h => ?_)
  · obtain ⟨d, ps, ws, rfl, _⟩ := h
    rfl
  · obtain ⟨d, ps, ws, rfl, hR, hnd, hlen, hcl, kq⟩ := h
    have hu := hu_of hr
    have esz : sizeLine = 16777216 := sizeLine_eq
    refine ⟨_, pss_one (ps_ret (pe_lock (pe_dc (own := [("a", 1)]) (g := gName 1) (tt := tYes) rfl scopenrows.nd (pi_keys (pv 0)) (blkOk_by (own := [("a", 1)]) (N := ["wishes", "a", "b"]) (sc := defScope sopenrows) (by decide +kernel))
      (fun _ _ _ _ _ => pg_name (i := 1) scopenrows.nd rfl (Or.inr rfl)) (fun _ _ _ _ _ => pts_nil) (fun _ _ _ _ _ => pv 1)
      (fun _ _ _ _ _ => pe_lc (own := [("b", 2)]) (g := gName 2) rfl scopenrows.nd (pi_listK (K := K) rfl (pe_dget hu (pv 0) (pv 1) (fun _ _ => rfl))) (blkOk_by (own := [("b", 2)]) (N := ["wishes", "a", "b"]) (sc := cScope (retE (defBody sopenrows) 0)) (by decide +kernel)).rel
        (fun _ _ _ _ _ => pg_name (i := 2) scopenrows.nd rfl (Or.inl rfl)) (fun _ _ _ _ _ => pts_one (pt_cmpR (op_inSK (K := K) rfl hr.units) (pv 1) (pe_dget hu (pv 0) (pv 2) (fun _ _ => rfl)) (by rfl))) (fun _ _ _ _ _ => pv 2))))), ?_⟩
    obtain ⟨ad, hd, hrows⟩ := hR
    refine ⟨d, _, hd, True.intro, fun od => ?_⟩
    have sl : ∀ b o, b ≠ d → H b = some o → (upd H d (.frz od (.dK (ps.map fun a => (Sum.inr a, V.ref (ad a)))))) b = some o := fun b o n e => by rw [upd_ne n]; exact e
    generalize hL : upd H d (.frz od (.dK (ps.map fun a => (Sum.inr a, V.ref (ad a))))) = HL at sl
    have hf : HL d = some (.frz od (.dK (ps.map fun a => (Sum.inr a, V.ref (ad a))))) := by rw [← hL]; exact upd_same
    have back : ∀ H', Same HL H' → Same H (upd H' d (.dK (ps.map fun a => (Sum.inr a, V.ref (ad a))))) := fun H' s b o e => by
      by_cases hb : b = d
      · rw [hb, upd_same]
        rw [hb, hd] at e
        exact e
      · rw [upd_ne hb]
        exact s _ _ (sl b o hb e)
    have look : ∀ H', Same HL H' → ∀ a ∈ ps, DGet H' d (.str a) (some (.ref (ad a))) ∧ H' (ad a) = some (lstO (ws a)) := fun H' s a ha =>
      ⟨.inl ⟨_, Sum.inr a, .inr ⟨od, s _ _ hf⟩, rfl, (valV_rows ha).symm⟩, s _ _ (sl _ _ (hrows a ha).2 (hrows a ha).1)⟩
    refine ⟨_, rfl, d, od, rfl, .inl ⟨_, hf, fun D hD => dc_it walk_keys (fun i H' => Same HL H' ∧ RowsG H' D (ps.take i) (fun a => lstO (opn ws a))) ⟨Same.new hD, RowsG.nil upd_same⟩ (fun i H' _ z => z.1 _ _ hf) ?_ ?_⟩⟩
    · rintro i x Hx H1 hi ⟨s1, hR1⟩ ⟨rfl, k, v, hk, rfl⟩
      rw [List.length_map] at hi
      rw [List.getElem?_map] at hk
      cases ea : ps[i]? with
      | none => rw [ea] at hk; cases hk
      | some a =>
        rw [ea] at hk
        cases hk
        have ha : a ∈ ps := List.mem_of_getElem? ea
        obtain ⟨g1, g2⟩ := look H1 s1 a ha
        obtain ⟨hl1, hl2⟩ := hcl a ha
        have gL : SqL K H1 (ad a) ((ws a).map V.str) := SqL.of g2
        refine ⟨rfl, dcTurn ⟨_, rfl, _, rfl, _, rfl, d, _, rfl, g1, _, rfl, ⟨_, gL⟩, fun L hL2 => lc_it (walk_list (xs := (ws a).map V.str)) (fun j H' => Same H1 H' ∧ H' L = some (.lst ((((ws a).take j).filter fun b => decide (a ∈ ws b)).map V.str))) ⟨Same.new hL2, upd_same⟩ (fun j H' _ z => z.1.seq gL) ?_ ?_⟩⟩
        · rintro j y Hy H2 hj ⟨s2, hL3⟩ ⟨rfl, hy⟩
          rw [List.length_map] at hj
          rw [List.getElem?_map] at hy
          cases eb : (ws a)[j]? with
          | none => rw [eb] at hy; cases hy
          | some b =>
            rw [eb] at hy
            cases hy
            have hb : b ∈ ps := hl2 b (List.mem_of_getElem? eb)
            obtain ⟨g3, g4⟩ := look H2 (s1.trans s2) b hb
            have g4' : SqL K H2 (ad b) ((ws b).map V.str) := SqL.of g4
            refine ⟨rfl, _, rfl, _, rfl, _, rfl, d, _, rfl, g3, ad b, ws b, rfl, .inl g4', .flat rfl, _, rfl, ?_⟩
            have einS : inS (kV (Sum.inr a)) (ws b) = decide (a ∈ ws b) := inS_str
            rw [einS]
            have tk : ((ws a).take (j + 1)).filter (fun b => decide (a ∈ ws b)) = ((ws a).take j).filter (fun b => decide (a ∈ ws b)) ++ [b].filter (fun b => decide (a ∈ ws b)) := by
              rw [take_snoc eb, List.filter_append]
            have hlt : ((((ws a).take j).filter fun b => decide (a ∈ ws b)).map V.str).length < sizeLine := by
              have q1 := List.length_filter_le (fun b => decide (a ∈ ws b)) ((ws a).take j)
              rw [List.length_take] at q1
              rw [List.length_map]
              omega
            by_cases em : a ∈ ws b
            · rw [decide_eq_true em]
              refine iteT ⟨_, rfl, _, hL3, hlt, fun b' o' e' => ?_, ?_⟩
              · rw [upd_ne (ne_of_none e' hL2)]
                exact s2 _ _ e'
              · rw [upd_same, tk, List.filter_cons_of_pos (by exact decide_eq_true em), List.filter_nil, List.map_append]
                rfl
            · rw [decide_eq_false em]
              refine iteF ⟨s2, ?_⟩
              rw [hL3, tk, List.filter_cons_of_neg (by rw [decide_eq_false em]; decide), List.filter_nil, List.append_nil]
        · rintro H2 ⟨s2, hL3⟩
          rw [List.length_map, List.take_of_length_le (Nat.le_refl _)] at hL3
          have hDL : L ≠ D := by
            obtain ⟨ad2, e2, _⟩ := hR1
            intro z
            rw [z, e2] at hL2
            cases hL2
          obtain ⟨kvs, h1, h2, h3⟩ := hR1.snoc s2 (not_mem_take hnd ea) (p := L) hL3 hDL
          refine ⟨kvs, Sum.inr a, rfl, h1, ?_, ?_, ?_⟩
          · rw [h2, List.length_take]
            omega
          · intro b o e
            have hbD : b ≠ D := ne_of_none e hD
            rw [upd_ne hbD]
            exact s2 _ _ (s1 _ _ e)
          · rw [take_snoc ea]
            exact h3
    · rintro H1 ⟨s1, hR1⟩
      rw [List.length_map, List.take_of_length_le (Nat.le_refl _)] at hR1
      refine ⟨s1 _ _ hf, kq D _ (back H1 s1) ?_⟩
      obtain ⟨ad2, e2, q2⟩ := hR1
      have hDd : D ≠ d := fun z => by
        rw [z, hf] at hD
        cases hD
      refine ⟨ad2, by rw [upd_ne hDd]; exact e2, fun a ha => ⟨?_, (q2 a ha).2⟩⟩
      have hne : ad2 a ≠ d := fun z => by
        have q := (q2 a ha).1
        rw [z, s1 _ _ hf] at q
        cases q
      rw [upd_ne hne]
      exact (q2 a ha).1
end
end Qp
namespace Qp
open PySem L2
section
variable {P : Program} {w : World} {K : PySem.W.Frag} {mg : Str → Option Value} {base : Heap}
/-- _rank_rows(rows) -/
def spRR : Sp := fun vs H Q _ => ∃ (d : Addr) (ps : List Str) (ws : Str → List Str), vs = [.ref d] ∧ RowsG H d ps (fun a => lstO (ws a)) ∧ ps.Nodup ∧ ps.length ≤ 1000 ∧ (∀ a ∈ ps, (ws a).length ≤ 1000 ∧ (ws a).Nodup) ∧
  ∀ D H', Same H H' → RowsG H' D ps (fun a => rnkO (ws a)) → Q (.ref D) H'
theorem ok_rr {f : Addr} {fd : FuncData} (F : Fun K "_rank_rows" "_rank_rows" srankrows f fd) (B : Bl mg) : FnOk P w K mg base CX0 1 f fd ["rows"] spRR := by
  refine F.ok scrankrows (fun vs H Q E h => ?_) (fun cdv A outer s H vs Q E hr h => ?_)
  · obtain ⟨d, ps, ws, rfl, _⟩ := h
    rfl
  · obtain ⟨d, ps, ws, rfl, hR, hnd, hlen, hcl, kq⟩ := h
    have hu := hu_of hr
    have esz : sizeLine = 16777216 := sizeLine_eq
    refine ⟨_, pss_one (ps_ret (pe_lock (pe_dc (own := [("a", 1)]) (g := gName 1) (tt := tYes) rfl scrankrows.nd (pi_keys (pv 0)) (blkOk_by (own := [("a", 1)]) (N := ["rows", "a", "index", "b"]) (sc := defScope srankrows) (by decide +kernel))
      (fun _ _ _ _ _ => pg_name (i := 1) scrankrows.nd rfl (Or.inl rfl)) (fun _ _ _ _ _ => pts_nil) (fun _ _ _ _ _ => pv 1)
      (fun _ _ _ _ _ => pe_dc (own := [("index", 2), ("b", 3)]) (g := gTup K 2 (gCons (gName 2) (gCons (gName 3) gNil))) (tt := tYes) rfl scrankrows.nd (pi_enumK (K := K) rfl (by rfl) B.enum (pa_cons (pe_dget hu (pv 0) (pv 1) (fun _ _ => rfl)) pa_nil))
        (blkOk_by (own := [("index", 2), ("b", 3)]) (N := ["rows", "a", "index", "b"]) (sc := cScope (retE (defBody srankrows) 0)) (by decide +kernel)).rel
        (fun _ _ _ _ _ => pg_tupK (K := K) rfl rfl (pgs_cons (pg_name (i := 2) scrankrows.nd rfl (Or.inl rfl)) (pgs_cons (pg_name (i := 3) scrankrows.nd rfl (Or.inl rfl)) pgs_nil))) (fun _ _ _ _ _ => pts_nil) (fun _ _ _ _ _ => pv 3) (fun _ _ _ _ _ => pv 2))))), ?_⟩
    obtain ⟨ad, hd, hrows⟩ := hR
    refine ⟨d, _, hd, True.intro, fun od => ?_⟩
    have sl : ∀ b o, b ≠ d → H b = some o → (upd H d (.frz od (.dK (ps.map fun a => (Sum.inr a, V.ref (ad a)))))) b = some o := fun b o n e => by rw [upd_ne n]; exact e
    generalize hL : upd H d (.frz od (.dK (ps.map fun a => (Sum.inr a, V.ref (ad a))))) = HL at sl
    have hf : HL d = some (.frz od (.dK (ps.map fun a => (Sum.inr a, V.ref (ad a))))) := by rw [← hL]; exact upd_same
    have back : ∀ H', Same HL H' → Same H (upd H' d (.dK (ps.map fun a => (Sum.inr a, V.ref (ad a))))) := fun H' s b o e => by
      by_cases hb : b = d
      · rw [hb, upd_same]
        rw [hb, hd] at e
        exact e
      · rw [upd_ne hb]
        exact s _ _ (sl b o hb e)
    have look : ∀ H', Same HL H' → ∀ a ∈ ps, DGet H' d (.str a) (some (.ref (ad a))) ∧ H' (ad a) = some (lstO (ws a)) := fun H' s a ha =>
      ⟨.inl ⟨_, Sum.inr a, .inr ⟨od, s _ _ hf⟩, rfl, (valV_rows ha).symm⟩, s _ _ (sl _ _ (hrows a ha).2 (hrows a ha).1)⟩
    refine ⟨_, rfl, d, od, rfl, .inl ⟨_, hf, fun D hD => dc_it walk_keys (fun i H' => Same HL H' ∧ RowsG H' D (ps.take i) (fun a => rnkO (ws a))) ⟨Same.new hD, RowsG.nil upd_same⟩ (fun i H' _ z => z.1 _ _ hf) ?_ ?_⟩⟩
    · rintro i x Hx H1 hi ⟨s1, hR1⟩ ⟨rfl, k, v, hk, rfl⟩
      rw [List.length_map] at hi
      rw [List.getElem?_map] at hk
      cases ea : ps[i]? with
      | none => rw [ea] at hk; cases hk
      | some a =>
        rw [ea] at hk
        cases hk
        have ha : a ∈ ps := List.mem_of_getElem? ea
        obtain ⟨g1, g2⟩ := look H1 s1 a ha
        obtain ⟨hl1, hl2⟩ := hcl a ha
        have gL : SqL K H1 (ad a) ((ws a).map V.str) := SqL.of g2
        refine ⟨rfl, dcTurn ⟨_, rfl, _, rfl, _, rfl, d, _, rfl, g1, ad a, (ws a).map V.str, rfl, .inl gL, fun J G wk hG L hL2 => dc_it wk (fun j H' => Same H1 H' ∧ H' L = some (rnkO ((ws a).take j))) ⟨Same.new hL2, upd_same⟩ (fun j H' _ z => hG H' z.1) ?_ ?_⟩⟩
        · rintro j y H2 Hy hj ⟨s2, hL3⟩ ⟨T, x, y, rfl, hT, rfl, ex, ey⟩
          cases ex
          rw [List.length_map] at hj
          have ey : ((ws a).map V.str)[j]? = some y := ey
          rw [List.getElem?_map] at ey
          cases eb : (ws a)[j]? with
          | none => rw [eb] at ey; cases ey
          | some b =>
            rw [eb] at ey
            cases ey
            have hTL : L ≠ T := ne_of_none hL3 hT
            refine ⟨T, [.int (j : Nat), .str b], rfl, SqT.of upd_same, rfl, _, _, rfl, _, _, rfl, rfl, rfl, dcTurn ⟨_, rfl, _, rfl, _, Sum.inr b, rfl, by rw [upd_ne hTL]; exact hL3, ?_, fun b' o' e' => ?_, ?_⟩⟩
            · rw [List.length_map, List.length_zipIdx, List.length_take]
              omega
            · rw [upd_ne (ne_of_none e' hL2), upd_ne (ne_of_none (s2 _ _ e') hT)]
              exact s2 _ _ e'
            · have hlt : ((ws a).take j).length = j := by
                rw [List.length_take]
                omega
              rw [upd_same, putK_new _ (valV_rnk_none (not_mem_take hl2 eb)), take_snoc eb]
              unfold rnkO
              rw [zip_snoc, hlt]
        · rintro H2 ⟨s2, hL3⟩
          rw [List.length_map, List.take_of_length_le (Nat.le_refl _)] at hL3
          have hDL : L ≠ D := by
            obtain ⟨ad2, e2, _⟩ := hR1
            intro z
            rw [z, e2] at hL2
            cases hL2
          obtain ⟨kvs, h1, h2, h3⟩ := hR1.snoc s2 (not_mem_take hnd ea) (p := L) hL3 hDL
          refine ⟨kvs, Sum.inr a, rfl, h1, ?_, ?_, ?_⟩
          · rw [h2, List.length_take]
            omega
          · intro b o e
            have hbD : b ≠ D := ne_of_none e hD
            rw [upd_ne hbD]
            exact s2 _ _ (s1 _ _ e)
          · rw [take_snoc ea]
            exact h3
    · rintro H1 ⟨s1, hR1⟩
      rw [List.length_map, List.take_of_length_le (Nat.le_refl _)] at hR1
      refine ⟨s1 _ _ hf, kq D _ (back H1 s1) ?_⟩
      obtain ⟨ad2, e2, q2⟩ := hR1
      have hDd : D ≠ d := fun z => by
        rw [z, hf] at hD
        cases hD
      refine ⟨ad2, by rw [upd_ne hDd]; exact e2, fun a ha => ⟨?_, (q2 a ha).2⟩⟩
      have hne : ad2 a ≠ d := fun z => by
        have q := (q2 a ha).1
        rw [z, s1 _ _ hf] at q
        cases q
      rw [upd_ne hne]
      exact (q2 a ha).1
end
end Qp
namespace Qp
open PySem L2
/-- a group's attributes -/
def gF (a d1 d2 d3 : Addr) : List (Str × V) := putF "_ranks" (.ref d3) (putF "_opens" (.ref d2) (putF "_wishes" (.ref d1) (putF "_people" (.ref a) [])))
theorem n12 : ¬ ("_wishes" : Str) = "_people" := by decide +kernel
theorem n13 : ¬ ("_opens" : Str) = "_people" := by decide +kernel
theorem n14 : ¬ ("_ranks" : Str) = "_people" := by decide +kernel
theorem n23 : ¬ ("_opens" : Str) = "_wishes" := by decide +kernel
theorem n24 : ¬ ("_ranks" : Str) = "_wishes" := by decide +kernel
theorem n34 : ¬ ("_ranks" : Str) = "_opens" := by decide +kernel
theorem gF_people (a d1 d2 d3 : Addr) : (gF a d1 d2 d3).lookup ("_people" : Str) = some (.ref a) := by
  unfold gF
  rw [lookup_putF, if_neg (fun z => n14 z.symm), lookup_putF, if_neg (fun z => n13 z.symm), lookup_putF, if_neg (fun z => n12 z.symm), lookup_putF, if_pos rfl]
theorem gF_wishes (a d1 d2 d3 : Addr) : (gF a d1 d2 d3).lookup ("_wishes" : Str) = some (.ref d1) := by
  unfold gF
  rw [lookup_putF, if_neg (fun z => n24 z.symm), lookup_putF, if_neg (fun z => n23 z.symm), lookup_putF, if_pos rfl]
theorem gF_opens (a d1 d2 d3 : Addr) : (gF a d1 d2 d3).lookup ("_opens" : Str) = some (.ref d2) := by
  unfold gF
  rw [lookup_putF, if_neg (fun z => n34 z.symm), lookup_putF, if_pos rfl]
theorem gF_ranks (a d1 d2 d3 : Addr) : (gF a d1 d2 d3).lookup ("_ranks" : Str) = some (.ref d3) := by
  unfold gF
  rw [lookup_putF, if_pos rfl]
theorem gF_no (a d1 d2 d3 : Addr) {m : Str} (h1 : ¬ m = "_people") (h2 : ¬ m = "_wishes") (h3 : ¬ m = "_opens") (h4 : ¬ m = "_ranks") : (gF a d1 d2 d3).lookup m = none := by
  unfold gF
  rw [lookup_putF, if_neg h4, lookup_putF, if_neg h3, lookup_putF, if_neg h2, lookup_putF, if_neg h1]
  rfl
/-- a Group of the people ps with the wishes ws stands at p -/
def GroupAt (C : Addr) (H : Hp) (p : Addr) (ps : List Str) (ws : Str → List Str) : Prop := ∃ dx a d1 d2 d3, H p = some (.ins C dx (gF a d1 d2 d3)) ∧ H a = some (.tup (ps.map V.str)) ∧
  RowsG H d1 ps (fun x => lstO (ws x)) ∧ RowsG H d2 ps (fun x => lstO (opn ws x)) ∧ RowsG H d3 ps (fun x => rnkO (opn ws x))
/-- what the walk asks of the class -/
structure GTxt (K : PySem.W.Frag) (mg : Str → Option Value) (C : Addr) : Prop where
  cl : Cls K C
  n1 : NoAttr K C "_people"
  n2 : NoAttr K C "_wishes"
  n3 : NoAttr K C "_opens"
  n4 : NoAttr K C "_ranks"
  mgC : mg "Group" = some (.ref C)
theorem Leaves.on {C : Addr} {f : Str} {v : V} {H H1 : Hp} {E : XK} (h : Leaves C f v H E) (s : Same H H1) : Leaves C f v H1 E := fun d H' s' e => h d H' (s.trans s') e
def unS : Option (List V) → List Str
  | none => []
  | some xs => xs.filterMap fun x => match x with
    | .str z => some z
    | _ => none
theorem unS_map : ∀ zs : List Str, unS (some (zs.map V.str)) = zs
  | [] => rfl
  | z :: zs => by
    have ih := unS_map zs
    show z :: unS (some (zs.map V.str)) = z :: zs
    rw [ih]
theorem _root_.L2.RowsG.but {H H' : Hp} {p C dx : Addr} {fs : List (Str × V)} {d : Addr} {ps : List Str} {cnt : Str → HO} (R : RowsG H d ps cnt) (s : SameBut p H H') (hp : H p = some (.ins C dx fs)) (hc : ∀ a, cnt a ≠ .ins C dx fs) : RowsG H' d ps cnt := by
  obtain ⟨ad, e, q⟩ := R
  refine ⟨ad, s _ _ (ne_of e hp (by intro z; cases z)) e, fun a ha => ⟨s _ _ (ne_of (q a ha).1 hp (hc a)) (q a ha).1, (q a ha).2⟩⟩
theorem lst_ins (ss : List Str) (C dx : Addr) (fs : List (Str × V)) : lstO ss ≠ .ins C dx fs := by intro z; cases z
theorem rnk_ins (ss : List Str) (C dx : Addr) (fs : List (Str × V)) : rnkO ss ≠ .ins C dx fs := by intro z; cases z
section
variable {P : Program} {w : World} {K : PySem.W.Frag} {mg : Str → Option Value} {base : Heap}
/-- Group.__init__(self, people, wishes) -/
def spGI (C B W : Addr) : Sp := fun vs H Q E => ∃ (p dx : Addr) (x y : V) (o : Option (List V)) (k : Kd), vs = [.ref p, x, y] ∧ H p = some (.ins C dx []) ∧ TupOf H x o ∧ IsK H y k ∧
  (∀ i, dueP o = some i → Leaves B "index" (.int i) H E) ∧
  ∀ (a : Addr) (ps : List Str), dueP o = none → o = some (ps.map V.str) → x = .ref a → ps.Nodup → (∀ z ∈ ps, nameS z = true) → ps.length ≤ 16 →
    (k ≠ .dct → Leaves W "person" (.str "") H E) ∧
    ∀ d kvs, y = .ref d → H d = some (.dK kvs) → (hasB kvs ps = false → Leaves W "person" (.str "") H E) ∧ (hasB kvs ps = true → ∃ wo : Str → Option (List V),
      (∀ p ∈ ps, ∃ v, valV kvs (Sum.inr p) = some v ∧ LstOf H v (wo p)) ∧
      ((∀ p ∈ ps, okW ps p (wo p) = true) → ∀ (ws : Str → List Str) (H' : Hp), (∀ p ∈ ps, wo p = some ((ws p).map V.str)) → (∀ p ∈ ps, (ws p).Nodup ∧ (∀ q ∈ ws p, q ∈ ps ∧ q ≠ p) ∧ (ws p).length ≤ 1000) → SameBut p H H' → GroupAt C H' p ps ws → Q .non H') ∧
      ∀ (ys pre post : List Str) (p : Str), ys.Perm ps → PyProof.Rows.sortedS ys = true → ys = pre ++ p :: post → (∀ q ∈ pre, okW ps q (wo q) = true) → okW ps p (wo p) = false → Leaves W "person" (.str p) H E)
theorem due_none {xs : List V} (h : dueP (some xs) = none) : ∃ ps : List Str, xs = ps.map V.str ∧ ps.Nodup ∧ (∀ z ∈ ps, nameS z = true) ∧ ps.length ≤ 16 := by
  unfold dueP at h
  by_cases c : xs.length ≤ 16
  · simp only [if_pos c] at h
    cases e : badFrom nameV [] xs with
    | some i => rw [e] at h; cases h
    | none =>
      obtain ⟨h1, h2⟩ := badFrom_none List.nodup_nil e
      obtain ⟨ps, rfl, hz⟩ := strs_of h1
      rw [List.length_map] at c
      refine ⟨ps, rfl, ?_, hz, c⟩
      rw [List.nil_append] at h2
      exact List.Pairwise.of_map V.str (fun a b h e => h (by rw [e])) h2
  · simp only [if_neg c] at h
    cases h
theorem okW_some {ps : List Str} {p : Str} {o : Option (List V)} (h : okW ps p o = true) : ∃ zs : List Str, o = some (zs.map V.str) ∧ zs.Nodup ∧ ∀ q ∈ zs, q ∈ ps ∧ q ≠ p := by
  cases o with
  | none => cases h
  | some xs =>
    have h1 := of_decide_eq_true h
    cases e : badFrom (fun x => inS x (ps.filter fun z => !decide (z = p))) [] xs with
    | some i => rw [e] at h1; cases h1
    | none =>
      obtain ⟨g1, g2⟩ := badFrom_none List.nodup_nil e
      rw [List.nil_append] at g2
      have : ∃ zs : List Str, xs = zs.map V.str := by
        clear h h1 e g2
        induction xs with
        | nil => exact ⟨[], rfl⟩
        | cons x r ih =>
          obtain ⟨zs, ez⟩ := ih fun y hy => g1 y (List.mem_cons_of_mem _ hy)
          obtain ⟨z, _, hz⟩ := inS_iff.mp (g1 x List.mem_cons_self)
          exact ⟨z :: zs, by rw [hz, ez]; rfl⟩
      obtain ⟨zs, rfl⟩ := this
      refine ⟨zs, rfl, List.Pairwise.of_map V.str (fun a b h e => h (by rw [e])) g2, fun q hq => ?_⟩
      obtain ⟨z, hz, e2⟩ := inS_iff.mp (g1 (.str q) (List.mem_map.mpr ⟨q, hq, rfl⟩))
      cases e2
      obtain ⟨z1, z2⟩ := List.mem_filter.mp hz
      exact ⟨z1, by simpa using z2⟩
theorem ok_gi {f C CB CW : Addr} {fd : FuncData} (F : Fun K "__init__" "Group.__init__" sGroupinit f fd) (B : Bl mg) (T : GTxt K mg C) (cP : CF P w K mg base (L2.CX P w) 2 "_check_people" ["people"] (spCP CB)) (cW : CF P w K mg base (L2.CX P w) 3 "_check_wishes" ["people", "wishes"] (spCW CW))
    (cO : CF P w K mg base CX0 1 "_open_rows" ["wishes"] spOR) (cR : CF P w K mg base CX0 1 "_rank_rows" ["rows"] spRR) : FnOk P w K mg base (L2.CX P w) 4 f fd ["self", "people", "wishes"] (spGI C CB CW) := by
  refine F.okX scGroupinit (fun vs H Q E h => ?_) (fun cdv A outer s H vs Q E hr h => ?_)
  · obtain ⟨p, dx, x, y, o, k, rfl, _⟩ := h
    rfl
  · obtain ⟨p, dx, x, y, o, k, rfl, hp, hx, hy, kP, kW⟩ := h
    have hu := hu_of hr
    have esz : sizeLine = 16777216 := sizeLine_eq
    have hr1 : Room 1 _ := hr.mono (by decide)
    have hr2 : Room 2 _ := hr.mono (by decide)
    refine ⟨_, pss_cons (ps_expr (pe_cf cP hr2 (passes_call (takes_of rfl rfl rfl rfl) (fun _ _ _ _ h => h)) (pa_cons (pv 1) pa_nil)))
      (pss_cons (ps_expr (pe_cf cW hr (passes_call (takes_of rfl rfl rfl rfl) (fun _ _ _ _ h => h)) (pa_cons (pv 1) (pa_cons (pv 2) pa_nil))))
      (pss_cons (ps_fld (pv 0) (pv 1) rfl)
      (pss_cons (ps_fld (pv 0) (pe_dc (own := [("a", 3)]) (g := gName 3) (tt := tYes) rfl scGroupinit.nd (pi_seq 1) (blkOk_by (own := [("a", 3)]) (N := ["self", "people", "wishes", "a"]) (sc := defScope sGroupinit) (by decide +kernel))
        (fun _ _ _ _ _ => pg_name (i := 3) scGroupinit.nd rfl (Or.inl rfl)) (fun _ _ _ _ _ => pts_nil) (fun _ _ _ _ _ => pv 3)
        (fun _ _ _ _ _ => pe_callTy (call_listK (K := K) rfl) (by rfl) B.lst (by decide +kernel) (pa_cons (pe_dget hu (pv 2) (pv 3) (fun _ _ => rfl)) pa_nil))) rfl)
      (pss_cons (ps_fld (pv 0) (pe_cf cO hr1 pass0 (pa_cons (pe_fld (pv 0) rfl) pa_nil)) rfl)
      (pss_one (ps_fld (pv 0) (pe_cf cR hr1 pass0 (pa_cons (pe_fld (pv 0) rfl) pa_nil)) rfl)))))), ?_⟩
    refine ⟨_, rfl, x, o, rfl, hx, fun hdue H1 s1 => ?_, fun i hi => kP i hi⟩
    cases o with
    | none => cases hdue
    | some xs =>
      obtain ⟨ps, rfl, hnd, hnm, hl16⟩ := due_none hdue
      obtain ⟨kx, ikx, a, rfl, ha, hgood, _⟩ := hx
      obtain ⟨kW1, kW2⟩ := kW a ps hdue rfl rfl hnd hnm hl16
      refine ⟨_, rfl, _, rfl, a, y, k, ps, rfl, s1 _ _ ha, by omega, hy.same s1, fun hk => (kW1 hk).on s1, fun d kvs ey hd1 => ?_⟩
      subst ey
      have hd : H d = some (.dK kvs) := by
        cases hy with
        | lst h => rw [s1 _ _ h] at hd1; cases hd1
        | tup h => rw [s1 _ _ h] at hd1; cases hd1
        | dct h =>
          rw [s1 _ _ h] at hd1
          cases hd1
          exact h
      obtain ⟨k1, k2⟩ := kW2 d kvs rfl hd
      refine ⟨fun e => (k1 e).on s1, fun e => ?_⟩
      obtain ⟨wo, hw, kok, kbad⟩ := k2 e
      refine ⟨wo, fun q hq => ?_, fun hok H2 s2' => ?_, fun ys pre post q hys hs es hpre hq => (kbad ys pre post q hys hs es hpre hq).on s1⟩
      · obtain ⟨v, hv, hl⟩ := hw q hq
        exact ⟨v, hv, hl.same s1⟩
      · have s2 : Same H H2 := s1.trans s2'
        have hws : ∀ q ∈ ps, wo q = some ((unS (wo q)).map V.str) ∧ (unS (wo q)).Nodup ∧ (∀ r ∈ unS (wo q), r ∈ ps ∧ r ≠ q) ∧ (unS (wo q)).length ≤ 1000 := fun q hq => by
          obtain ⟨zs, ez, hz1, hz2⟩ := okW_some (hok q hq)
          rw [ez, unS_map]
          refine ⟨rfl, hz1, hz2, ?_⟩
          have := nodup_sub_length hz1 fun r hr => (hz2 r hr).1
          omega
        have K2 := fun H' => kok hok (fun q => unS (wo q)) H' (fun q hq => (hws q hq).1) (fun q hq => (hws q hq).2)
        generalize hwsd : (fun q => unS (wo q)) = ws at K2
        have hws' : ∀ q ∈ ps, wo q = some ((ws q).map V.str) ∧ (ws q).Nodup ∧ (∀ r ∈ ws q, r ∈ ps ∧ r ≠ q) ∧ (ws q).length ≤ 1000 := by
          rw [← hwsd]
          exact hws
        have hp2 := s2 _ _ hp
        -- self._people = people
        refine ⟨_, rfl, _, rfl, p, C, dx, _, rfl, hp2, T.cl, T.n1, (by show 0 < 1000; decide), ?_⟩
        have b3 : SameBut p H (upd H2 p (.ins C dx (putF "_people" (.ref a) []))) := (s2.but p).trans SameBut.set
        generalize hH3 : upd H2 p (.ins C dx (putF "_people" (.ref a) [])) = H3 at b3
        have hp3 : H3 p = some (.ins C dx (putF "_people" (.ref a) [])) := by rw [← hH3]; exact upd_same
        have nap : a ≠ p := ne_of ha hp (by intro z; cases z)
        have ndp : d ≠ p := ne_of hd hp (by intro z; cases z)
        -- self._wishes = {a: list(wishes[a]) for a in people}
        refine ⟨a, ps.map V.str, rfl, .inr (SqT.of (b3 _ _ nap ha)), fun J G wk hG D hD => dc_it wk (fun i H' => Same H3 H' ∧ RowsG H' D (ps.take i) (fun x => lstO (ws x))) ⟨Same.new hD, RowsG.nil upd_same⟩ (fun i H' _ z => hG H' z.1) ?_ ?_⟩
        · rintro i z Hz H4 hi ⟨s4, R4⟩ ⟨rfl, hz⟩
          rw [List.length_map] at hi
          rw [List.getElem?_map] at hz
          cases ez : ps[i]? with
          | none => rw [ez] at hz; cases hz
          | some q =>
            rw [ez] at hz
            cases hz
            have hq : q ∈ ps := List.mem_of_getElem? ez
            obtain ⟨v, hv, kv, ikv, hl⟩ := hw q hq
            obtain ⟨e1, _⟩ := hws' q hq
            rw [e1] at hl
            obtain ⟨av, rfl, hav, _⟩ := hl
            have navp : av ≠ p := ne_of hav hp (by intro z; cases z)
            refine ⟨rfl, dcTurn ⟨_, rfl, _, rfl, _, rfl, d, _, rfl, by rw [← hv]; exact DGet.k (k := Sum.inr q) (s4 _ _ (b3 _ _ ndp hd)), av, _, rfl, .inl (SqL.of (s4 _ _ (b3 _ _ navp hav))), fun L hL => ?_⟩⟩
            have hLD : L ≠ D := by
              obtain ⟨ad2, e2, _⟩ := R4
              intro z
              rw [z, e2] at hL
              cases hL
            obtain ⟨kv2, h1, h2, h3⟩ := R4.snoc (Same.new (o := .lst ((ws q).map V.str)) hL) (not_mem_take hnd ez) (p := L) upd_same hLD
            refine ⟨kv2, Sum.inr q, rfl, h1, ?_, ?_, ?_⟩
            · rw [h2, List.length_take]
              omega
            · intro b o e
              rw [upd_ne (ne_of_none e hD), upd_ne (ne_of_none (s4 _ _ e) hL)]
              exact s4 _ _ e
            · rw [take_snoc ez]
              exact h3
        · rintro H4 ⟨s4, R4⟩
          rw [List.length_map, List.take_of_length_le (Nat.le_refl _)] at R4
          have hp4 := s4 _ _ hp3
          have l1 := length_putF "_people" (V.ref a) []
          have l2 := length_putF "_wishes" (V.ref D) (putF "_people" (V.ref a) [])
          refine ⟨_, rfl, p, C, dx, _, rfl, hp4, T.cl, T.n2, Nat.lt_of_le_of_lt l1 (by show 1 < 1000; decide), ?_⟩
          have b5 : SameBut p H4 (upd H4 p (.ins C dx (putF "_wishes" (.ref D) (putF "_people" (.ref a) [])))) := SameBut.set
          have R5 := R4.but b5 hp4 (fun _ => lst_ins _ _ _ _)
          generalize hH5 : upd H4 p (.ins C dx (putF "_wishes" (.ref D) (putF "_people" (.ref a) []))) = H5 at b5 R5
          have hp5 : H5 p = some (.ins C dx (putF "_wishes" (.ref D) (putF "_people" (.ref a) []))) := by rw [← hH5]; exact upd_same
          have t5 : SameBut p H H5 := (b3.trans (s4.but p)).trans b5
          -- self._opens = _open_rows(self._wishes)
          refine ⟨_, rfl, p, C, dx, _, _, rfl, hp5, T.cl, T.n2, by rw [lookup_putF, if_pos rfl], D, ps, ws, rfl, R5, hnd, by omega, fun q hq => ⟨(hws' q hq).2.2.2, fun r hr => ((hws' q hq).2.2.1 r hr).1⟩, fun D2 H6 s6 R6 => ?_⟩
          have hp6 := s6 _ _ hp5
          refine ⟨_, rfl, p, C, dx, _, rfl, hp6, T.cl, T.n3, Nat.lt_of_le_of_lt l2 (Nat.lt_of_le_of_lt (Nat.add_le_add_right l1 1) (by show 2 < 1000; decide)), ?_⟩
          have b7 : SameBut p H6 (upd H6 p (.ins C dx (putF "_opens" (.ref D2) (putF "_wishes" (.ref D) (putF "_people" (.ref a) []))))) := SameBut.set
          have R7 := R6.but b7 hp6 (fun _ => lst_ins _ _ _ _)
          have R7w := (R5.same s6).but b7 hp6 (fun _ => lst_ins _ _ _ _)
          have l3 := length_putF "_opens" (V.ref D2) (putF "_wishes" (V.ref D) (putF "_people" (V.ref a) []))
          generalize hH7 : upd H6 p (.ins C dx (putF "_opens" (.ref D2) (putF "_wishes" (.ref D) (putF "_people" (.ref a) [])))) = H7 at b7 R7 R7w
          have hp7 : H7 p = some (.ins C dx (putF "_opens" (.ref D2) (putF "_wishes" (.ref D) (putF "_people" (.ref a) [])))) := by rw [← hH7]; exact upd_same
          have t7 : SameBut p H H7 := (t5.trans (s6.but p)).trans b7
          -- self._ranks = _rank_rows(self._opens)
          refine ⟨_, rfl, p, C, dx, _, _, rfl, hp7, T.cl, T.n3, by rw [lookup_putF, if_pos rfl], D2, ps, opn ws, rfl, R7, hnd, by omega, fun q hq => ⟨?_, (hws' q hq).2.1.filter _⟩, fun D3 H8 s8 R8 => ?_⟩
          · exact Nat.le_trans (List.length_filter_le _ _) (hws' q hq).2.2.2
          have hp8 := s8 _ _ hp7
          refine ⟨_, rfl, p, C, dx, _, rfl, hp8, T.cl, T.n4, Nat.lt_of_le_of_lt l3 (Nat.lt_of_le_of_lt (Nat.add_le_add_right (Nat.le_trans l2 (Nat.add_le_add_right l1 1)) 1) (by show 3 < 1000; decide)), ?_⟩
          have b9 : SameBut p H8 (upd H8 p (.ins C dx (gF a D D2 D3))) := SameBut.set
          refine K2 _ ((t7.trans (s8.but p)).trans b9) ⟨dx, a, D, D2, D3, upd_same, ?_, (R7w.same s8).but b9 hp8 (fun _ => lst_ins _ _ _ _), (R7.same s8).but b9 hp8 (fun _ => lst_ins _ _ _ _), R8.but b9 hp8 (fun _ => rnk_ins _ _ _ _)⟩
          exact ((t7.trans (s8.but p)).trans b9) _ _ nap ha
end
end Qp
namespace Qp
open PySem L2
section
variable {P : Program} {w : World} {K : PySem.W.Frag} {mg : Str → Option Value} {base : Heap}
/-- _law_take(state, many) -/
def spTake : Sp := fun vs H Q _ => ∃ (st : Addr) (m : Int), vs = [.ref st, .int m] ∧ 0 < m ∧ m < 1000 ∧ StAt H st ∧ ∀ (d n s : Int), 0 ≤ d → d < m → 0 ≤ n → 0 ≤ s → s < 2147483629 → Q (.int d) (upd H st (.lst [.int n, .int s]))
theorem ok_take {f : Addr} {fd : FuncData} (F : Fun K "_law_take" "_law_take" sLtake f fd) (B : Bl mg) : FnOk P w K mg base CX0 1 f fd ["_law_state", "_law_many_here"] spTake := by
  refine F.ok scLtake (fun vs H Q E h => ?_) (fun cdv A outer s H vs Q E hr h => ?_)
  · obtain ⟨st, m, rfl, _⟩ := h
    rfl
  · obtain ⟨st, m, rfl, hm0, hm1, ⟨n, z, hst, hn, hz0, hz1⟩, kq⟩ := h
    have it0 : PE (cxOf CX0 P w K mg base ["_law_state", "_law_many_here", "_law_digit", "_law_mixed_here"] "_law_take" (defScope sLtake) f cdv A outer s H E).nox (.Name "_law_state" ⟨0, 0, 0, 0⟩) (tVar 0) := pv 0
    refine ⟨_, pss_cons (ps_if (pt_cmpR op_gt (pe_ix ix_list (pv 0) pe_int (fun _ _ => rfl)) pe_int (nomark _))
        (pss_cons (ps_set (i := 2) scLtake.nd rfl (Or.inl rfl) (pe_op op_modN (pe_callTy call_int1 (by rfl) B.int (by decide +kernel) (pa_cons (pe_ix ix_list (pv 0) pe_int (fun _ _ => rfl)) pa_nil)) (pv 1)))
        (pss_cons (ps_asg (pe_op op_fdivN (pe_callTy call_int1 (by rfl) B.int (by decide +kernel) (pa_cons (pe_ix ix_list (pv 0) pe_int (fun _ _ => rfl)) pa_nil)) (pv 1)) (pg_sub (pv 0) pe_int set_list))
        (pss_one (ps_ret (pv 2))))) pss_nil)
      (pss_cons (ps_asg (pe_op op_modN (pe_callTy call_int1 (by rfl) B.int (by decide +kernel) (pa_cons (pe_op op_add (pe_op op_mul (pe_ix ix_list (pv 0) pe_int (fun _ _ => rfl)) pe_int) pe_int) pa_nil)) pe_int) (pg_sub (pv 0) pe_int set_list))
      (pss_cons (ps_set (i := 3) scLtake.nd rfl (Or.inl rfl) (pe_op op_modN (pe_callTy call_int1 (by rfl) B.int (by decide +kernel) (pa_cons (pe_op op_mul (pe_ix ix_list (pv 0) pe_int (fun _ _ => rfl))
        (pe_op op_add (pe_op op_fdivN (pe_ix ix_list (pv 0) pe_int (fun _ _ => rfl)) pe_int) pe_int)) pa_nil)) pe_int))
      (pss_one (ps_ret (pe_op op_modN (pe_callTy call_int1 (by rfl) B.int (by decide +kernel) (pa_cons (pe_op op_fdivN (pv 3) pe_int) pa_nil)) (pv 1)))))), ?_⟩
    have a0 : atI [V.int n, V.int z] 0 = some (.int n) := atI_nat (j := 0) rfl
    have a1 : atI [V.int n, V.int z] 1 = some (.int z) := atI_nat (j := 1) rfl
    refine ⟨_, rfl, st, _, 0, _, rfl, rfl, SqL.of hst, a0, _, _, rfl, rfl, _, rfl, ?_⟩
    refine ite2 (fun h1 => ?_) (fun h1 => ?_)
    · have h2 : 0 < n := of_decide_eq_true h1
      refine ⟨_, rfl, st, _, 0, _, rfl, rfl, SqL.of hst, a0, .inl ⟨_, rfl, _, rfl, _, _, rfl, rfl, by omega, ?_⟩⟩
      refine ⟨_, rfl, st, _, 0, _, rfl, rfl, SqL.of hst, a0, .inl ⟨_, rfl, _, rfl, _, _, rfl, rfl, ⟨by omega, by omega⟩, ?_⟩⟩
      refine ⟨_, rfl, st, [.int n, .int z], 0, 0, rfl, rfl, hst, by rfl, _, rfl, ?_⟩
      refine kq (n.fmod m) (n.fdiv m) z ?_ ?_ ?_ hz0 hz1
      · exact Int.fmod_nonneg_of_pos _ hm0
      · exact Int.fmod_lt_of_pos _ hm0
      · exact Int.fdiv_nonneg hn (by omega)
    · refine ⟨_, rfl, st, _, 1, _, rfl, rfl, SqL.of hst, a1, _, _, rfl, rfl, .inl ⟨by omega, by omega⟩, _, _, rfl, rfl, .inl ⟨_, rfl, _, _, rfl, rfl, (by show (2147483629 : Int) ≠ 0; decide), ?_⟩⟩
      have f0 : 0 ≤ (z * 48271 + 30103).fmod 2147483629 := Int.fmod_nonneg_of_pos _ (by decide)
      have f1 : (z * 48271 + 30103).fmod 2147483629 < 2147483629 := Int.fmod_lt_of_pos _ (by decide)
      generalize hz2 : (z * 48271 + 30103).fmod 2147483629 = z2 at f0 f1
      refine ⟨_, rfl, st, [.int n, .int z], 1, 1, rfl, rfl, hst, by rfl, ?_⟩
      have b1 : atI ([V.int n, V.int z].set 1 (V.int ((z * 48271 + 30103).fmod 2147483629))) 1 = some (V.int ((z * 48271 + 30103).fmod 2147483629)) := atI_nat (j := 1) rfl
      refine ⟨_, rfl, st, _, 1, _, rfl, rfl, SqL.of upd_same, b1, _, rfl, st, _, 1, _, rfl, rfl, SqL.of upd_same, b1, _, _, rfl, rfl, ⟨by decide, by decide⟩, _, _, rfl, rfl, _, _, rfl, rfl, .inl ⟨?_, ?_⟩, .inl ⟨_, rfl, _, _, rfl, rfl, (by show (2147483647 : Int) ≠ 0; decide), ?_⟩⟩
      · rw [hz2]
        omega
      · rw [hz2]
        omega
      · refine ⟨_, rfl, _, _, rfl, rfl, ⟨by decide, by decide⟩, .inl ⟨_, rfl, _, rfl, _, _, rfl, rfl, by omega, ?_⟩⟩
        have e : (upd H st (.lst ([V.int n, V.int z].set 1 (V.int ((z * 48271 + 30103).fmod 2147483629))))) = upd H st (.lst [.int n, .int z2]) := by rw [hz2]; rfl
        show Q _ (upd H st (.lst ([V.int n, V.int z].set 1 (V.int ((z * 48271 + 30103).fmod 2147483629)))))
        rw [e]
        exact kq _ n z2 (Int.fmod_nonneg_of_pos _ hm0) (Int.fmod_lt_of_pos _ hm0) hn f0 f1
/-- _law_cell(script, k) -/
def spCell (K : PySem.W.Frag) : Sp := fun vs H Q _ => ∃ (a : Addr) (ns : List Int), vs = [.ref a, .int 0] ∧ SqL K H a (ns.map V.int) ∧ ns.length ≤ 63 ∧ ∀ (p : Addr) (n s : Int), H p = none → 0 ≤ n → 0 ≤ s → s < 2147483629 → Q (.ref p) (upd H p (.lst [.int n, .int s]))
theorem ok_cell {f : Addr} {fd : FuncData} (F : Fun K "_law_cell" "_law_cell" sLcell f fd) (B : Bl mg) : FnOk P w K mg base CX0 1 f fd ["_law_script", "_law_k"] (spCell K) := by
  refine F.ok scLcell (fun vs H Q E h => ?_) (fun cdv A outer s H vs Q E hr h => ?_)
  · obtain ⟨a, ns, rfl, _⟩ := h
    rfl
  · obtain ⟨a, ns, rfl, ha, hl, kq⟩ := h
    have rest : ∀ num : Int, 0 ≤ num → ∃ t, PSs (cxOf CX0 P w K mg base ["_law_script", "_law_k", "_law_number", "_law_seed"] "_law_cell" (defScope sLcell) f cdv A outer s H E).nox ((defBody sLcell).drop 2) t ∧
        t { nx := fun _ H' => Q .non H', rt := Q } [some (.ref a), some (.int 0), some (.int num), none] H := fun num hnum => by
      refine ⟨_, pss_cons (ps_set (i := 3) scLcell.nd rfl (Or.inl rfl) (pe_op op_modN (pe_callTy call_int1 (by rfl) B.int (by decide +kernel) (pa_cons (pe_op op_add (pe_op op_add (pe_op op_add (pv 2) (pe_op op_mul pe_int (pv 1)))
            (pe_op op_mul pe_int (pe_callB (call_min2 rfl) (by rfl) B.min (by decide +kernel) (pa_cons (pe_callB call_len_seq (by rfl) B.len PySem.boot_len (pa_cons (pv 0) pa_nil)) (pa_cons pe_int pa_nil))))) pe_int) pa_nil)) pe_int))
        (pss_cons (ps_set (i := 3) scLcell.nd rfl (Or.inl rfl) (pe_op op_modN (pe_callTy call_int1 (by rfl) B.int (by decide +kernel) (pa_cons (pe_op op_add (pe_op op_add (pe_op op_mul (pe_op op_mul (pv 3) (pv 3)) (pv 3)) (pe_op op_mul pe_int (pv 3))) pe_int) pa_nil)) pe_int))
        (pss_cons (ps_if (pt_cmpR op_lt (pv 2) (pe_op op_pow pe_int pe_int) (nomark _)) (pss_one (ps_ret (pe_lst (pa_cons pe_int (pa_cons (pv 3) pa_nil))))) pss_nil)
        (pss_one (ps_ret (pe_lst (pa_cons (pv 2) (pa_cons (pv 3) pa_nil))))))), ?_⟩
      refine ⟨_, rfl, _, rfl, _, _, rfl, rfl, .inl ⟨by decide, by decide⟩, _, _, rfl, rfl, _, rfl, a, _, rfl, .inl ha, _, _, rfl, _, _, rfl, rfl, .inl ⟨by decide, by decide⟩, _, _, rfl, rfl, _, _, rfl, rfl, .inl ⟨_, rfl, _, _, rfl, rfl, (by show (2147483629 : Int) ≠ 0; decide), ?_⟩⟩
      generalize (num + 7919 * 0 + 104729 * (if (63 : Int) < (((ns.map V.int).length : Nat) : Int) then (63 : Int) else (((ns.map V.int).length : Nat) : Int)) + 17) = y
      have f0 : 0 ≤ y.fmod 2147483629 := Int.fmod_nonneg_of_pos _ (by decide)
      have f1 : y.fmod 2147483629 < 2147483629 := Int.fmod_lt_of_pos _ (by decide)
      have m0 : 0 ≤ y.fmod 2147483629 * y.fmod 2147483629 := Int.mul_nonneg f0 f0
      have m1 : y.fmod 2147483629 * y.fmod 2147483629 < 2 ^ 64 := by
        have q : y.fmod 2147483629 * y.fmod 2147483629 ≤ 2147483629 * 2147483629 := Int.mul_le_mul (by omega) (by omega) f0 (by decide)
        omega
      refine ⟨_, rfl, _, rfl, _, _, rfl, rfl, .inl ⟨by omega, by omega⟩, _, rfl, _, _, rfl, rfl, .inl ⟨by omega, by omega⟩, _, rfl, _, _, rfl, rfl, .inl ⟨by decide, by decide⟩, _, _, rfl, rfl, _, _, rfl, rfl, .inl ⟨_, rfl, _, _, rfl, rfl, (by show (2147483629 : Int) ≠ 0; decide), ?_⟩⟩
      have g0 : 0 ≤ (y.fmod 2147483629 * y.fmod 2147483629 * y.fmod 2147483629 + 69621 * y.fmod 2147483629 + 11).fmod 2147483629 := Int.fmod_nonneg_of_pos _ (by decide)
      have g1 : (y.fmod 2147483629 * y.fmod 2147483629 * y.fmod 2147483629 + 69621 * y.fmod 2147483629 + 11).fmod 2147483629 < 2147483629 := Int.fmod_lt_of_pos _ (by decide)
      refine ⟨_, rfl, _, _, rfl, rfl, ⟨by decide, by decide, by decide⟩, _, _, rfl, rfl, _, rfl, ite2 (fun _ => ?_) (fun _ => ?_)⟩
      · exact ⟨_, rfl, by show 2 ≤ sizeLine; decide, fun p hp => kq p 0 _ hp (by decide) g0 g1⟩
      · exact ⟨_, rfl, _, rfl, by show 2 ≤ sizeLine; decide, fun p hp => kq p num _ hp hnum g0 g1⟩
    have hnum : ∀ num : Int, 0 ≤ (if num < 0 then -num else num) := fun num => by
      by_cases h : num < 0
      · rw [if_pos h]
        omega
      · rw [if_neg h]
        omega
    by_cases h0 : 0 < ns.length
    · obtain ⟨n0, e0⟩ : ∃ n0, ns[0]? = some n0 := ⟨ns[0], by simp [h0]⟩
      obtain ⟨t, ht, hq⟩ := rest _ (hnum n0)
      refine ⟨_, pss_cons (ps_set (i := 2) scLcell.nd rfl (Or.inl rfl) pe_int)
        (pss_cons (ps_if (pt_cmpR op_lt (pv 1) (pe_callB call_len_seq (by rfl) B.len PySem.boot_len (pa_cons (pv 0) pa_nil)) (nomark _))
          (pss_one (ps_set (i := 2) scLcell.nd rfl (Or.inl rfl) (pe_callB call_abs (by rfl) B.abs (by decide +kernel) (pa_cons (pe_ix ix_list (pv 0) (pv 1) (fun _ _ => rfl)) pa_nil)))) pss_nil) ht), ?_⟩
      refine ⟨_, rfl, _, rfl, a, _, rfl, .inl ha, _, _, rfl, rfl, _, rfl, ?_⟩
      rw [decide_eq_true (show (0 : Int) < (((ns.map V.int).length : Nat) : Int) by rw [List.length_map]; omega)]
      refine iteT ⟨_, rfl, _, rfl, a, _, 0, .int n0, rfl, rfl, ha, atI_nat (j := 0) (by rw [List.getElem?_map, e0]; rfl), _, rfl, hq⟩
    · obtain ⟨t, ht, hq⟩ := rest 0 (Int.le_refl 0)
      refine ⟨_, pss_cons (ps_set (i := 2) scLcell.nd rfl (Or.inl rfl) pe_int)
        (pss_cons (ps_if (pt_cmpR op_lt (pv 1) (pe_callB call_len_seq (by rfl) B.len PySem.boot_len (pa_cons (pv 0) pa_nil)) (nomark _))
          (pss_one (ps_set (i := 2) scLcell.nd rfl (Or.inl rfl) (pe_callB call_abs (by rfl) B.abs (by decide +kernel) (pa_cons (pe_ix ix_list (pv 0) (pv 1) (fun _ _ => rfl)) pa_nil)))) pss_nil) ht), ?_⟩
      refine ⟨_, rfl, _, rfl, a, _, rfl, .inl ha, _, _, rfl, rfl, _, rfl, ?_⟩
      rw [decide_eq_false (show ¬ (0 : Int) < (((ns.map V.int).length : Nat) : Int) by rw [List.length_map]; omega)]
      exact iteF hq
end
end Qp
namespace Qp
open PySem L2 TL
theorem abc_at (d : Nat) (h : d < 26) : ("abcdefghijklmnopqrstuvwxyz" : Str).cps.toList[d]? = some (97 + d) := by
  have e : ("abcdefghijklmnopqrstuvwxyz" : Str).cps.toList = List.range' 97 26 := by decide +kernel
  rw [e, List.getElem?_range' h]
  simp
theorem abc_len : ("abcdefghijklmnopqrstuvwxyz" : Str).length = 26 := by decide +kernel
theorem joinL_one : ∀ cs : List Nat, joinL [] (cs.map fun c => [c]) = cs
  | [] => rfl
  | [c] => rfl
  | c :: d :: r => by
    have ih := joinL_one (d :: r)
    show [c] ++ ([] ++ joinL [] ((d :: r).map fun c => [c])) = c :: d :: r
    rw [ih]
    rfl
theorem str_ext {y z : Str} (h : y.cps.toList = z.cps.toList) : y = z := by
  cases y with
  | mk a =>
    cases z with
    | mk b =>
      have : a = b := by
        apply Array.toList_inj.mp
        exact h
      rw [this]
theorem join_one (cs : List Nat) : Txt.join ("" : Str) (cs.map fun c => (⟨#[c]⟩ : Str)) = ⟨cs.toArray⟩ := by
  apply str_ext
  rw [join_eq]
  have e := tl_join ("" : Str) (cs.map fun c => (⟨#[c]⟩ : Str))
  have e0 : tl ("" : Str) = [] := by decide +kernel
  have e1 : (cs.map fun c => (⟨#[c]⟩ : Str)).map tl = cs.map fun c => [c] := by
    rw [List.map_map]
    rfl
  rw [e0, e1, joinL_one] at e
  show tl (Str.join ("" : Str) (cs.map fun c => (⟨#[c]⟩ : Str))) = cs.toArray.toList
  rw [e]
theorem name_of {cs : List Nat} (h1 : 1 ≤ cs.length) (h2 : cs.length ≤ 8) (h : ∀ c ∈ cs, lowC c = true) : nameS ⟨cs.toArray⟩ = true := by
  unfold nameS
  have e : (⟨cs.toArray⟩ : Str).length = cs.length := by simp [Str.length]
  rw [e, decide_eq_true h1, decide_eq_true h2, Bool.true_and, Bool.true_and]
  show cs.toArray.toList.all lowC = true
  rw [List.all_eq_true]
  intro c hc
  exact h c (by simpa using hc)
theorem lst_ne_st (ts : List Str) (n s : Int) : (HO.lst (ts.map V.str)) ≠ .lst [.int n, .int s] := by
  intro z
  have e : ts.map V.str = [.int n, .int s] := HO.lst.inj z
  cases ts with
  | nil => cases e
  | cons a r => cases e
theorem low_of (d : Nat) (h : d < 26) : lowC (97 + d) = true := by
  unfold lowC
  rw [Bool.and_eq_true]
  exact ⟨decide_eq_true (by omega), decide_eq_true (by omega)⟩
theorem sum_one : ∀ cs : List Nat, ((cs.map fun c => (⟨#[c]⟩ : Str)).map (·.length)).sum = cs.length
  | [] => rfl
  | c :: cs => by
    have ih := sum_one cs
    rw [List.map_cons, List.map_cons, List.sum_cons, ih, List.length_cons]
    show 1 + cs.length = cs.length + 1
    omega
/-- the k-th further name -/
def other (cs : List Nat) (l : Int) (k : Nat) : Str := ⟨((cs.take 7) ++ [97 + ((l + (0 + (k : Int))).fmod 26).toNat]).toArray⟩
theorem other_inj {cs : List Nat} {l : Int} {j k : Nat} (h0 : 0 ≤ l) (hj : j < 26) (hk : k < 26) (h : other cs l j = other cs l k) : j = k := by
  unfold other at h
  have e := congrArg (fun z : Str => z.cps.toList) h
  simp only [List.toList_toArray] at e
  have e2 := List.append_cancel_left e
  have e3 : 97 + ((l + (0 + (j : Int))).fmod 26).toNat = 97 + ((l + (0 + (k : Int))).fmod 26).toNat := (List.cons.inj e2).1
  rw [Int.fmod_eq_emod_of_nonneg _ (by decide), Int.fmod_eq_emod_of_nonneg _ (by decide)] at e3
  omega
theorem other_name {cs : List Nat} {l : Int} {k : Nat} (h2 : cs.length ≤ 8) (h : ∀ c ∈ cs, lowC c = true) : nameS (other cs l k) = true := by
  refine name_of ?_ ?_ fun c hc => ?_
  · rw [List.length_append]
    exact Nat.le_add_left _ _
  · rw [List.length_append, List.length_take]
    show min 7 cs.length + 1 ≤ 8
    omega
  · rcases List.mem_append.mp hc with q | q
    · exact h c (List.mem_of_mem_take q)
    · have e : c = 97 + ((l + (0 + (k : Int))).fmod 26).toNat := by simpa using q
      have f0 : 0 ≤ (l + (0 + (k : Int))).fmod 26 := Int.fmod_nonneg_of_pos _ (by decide)
      have f1 : (l + (0 + (k : Int))).fmod 26 < 26 := Int.fmod_lt_of_pos _ (by decide)
      rw [e]
      exact low_of _ (by omega)
theorem SameBut.stay {st : Addr} {H H' : Hp} {b : Addr} {o : HO} (s : SameBut st H H') (n : b ≠ st) (h : H b = some o) : H' b = some o := s b o n h
section
variable {P : Program} {w : World} {K : PySem.W.Frag} {mg : Str → Option Value} {base : Heap}
/-- _law_name(state, taken) -/
def spName : Sp := fun vs H Q _ => ∃ (st tk : Addr) (ts : List Str), vs = [.ref st, .ref tk] ∧ StAt H st ∧ H tk = some (lstO ts) ∧ ts.length ≤ 25 ∧ ∀ (z : Str) (H' : Hp), SameBut st H H' → StAt H' st → nameS z = true → z ∉ ts → Q (.str z) H'
theorem ok_name {f : Addr} {fd : FuncData} (F : Fun K "_law_name" "_law_name" sLname f fd) (B : Bl mg) (cT : CF P w K mg base CX0 1 "_law_take" ["_law_state", "_law_many_here"] spTake) : FnOk P w K mg base CX0 2 f fd ["_law_state", "_law_taken"] spName := by
  refine F.ok scLname (fun vs H Q E h => ?_) (fun cdv A outer s H vs Q E hr h => ?_)
  · obtain ⟨st, tk, ts, rfl, _⟩ := h
    rfl
  · obtain ⟨st, tk, ts, rfl, hst, htk, htl, kq⟩ := h
    have esz : sizeLine = 16777216 := sizeLine_eq
    have nts : tk ≠ st := by
      obtain ⟨n, s, e, _⟩ := hst
      exact ne_of htk e (lst_ne_st ts n s)
    refine ⟨_, pss_cons (ps_set (i := 2) scLname.nd rfl (Or.inr rfl) pe_str)
      (pss_cons (ps_set (i := 3) scLname.nd rfl (Or.inl rfl) (pe_op op_add pe_int (pe_cf cT hr pass0 (pa_cons (pv 0) (pa_cons pe_int pa_nil)))))
      (pss_cons (ps_set (i := 5) scLname.nd rfl (Or.inl rfl) (pe_join pe_str (pe_lc (own := [("_law_k", 4)]) (g := gName 4) (tt := tYes) rfl scLname.nd (pi_range1 (by rfl) B.rng (pa_cons (pv 3) pa_nil))
          (blkOk_by (own := [("_law_k", 4)]) (N := ["_law_state", "_law_taken", "_law_letters", "_law_size", "_law_k", "_law_name_here", "_law_last", "_law_other"]) (sc := defScope sLname) (by decide +kernel))
          (fun _ _ _ _ _ => pg_name (i := 4) scLname.nd rfl (Or.inl rfl)) (fun _ _ _ _ _ => pts_nil) (fun _ _ _ _ _ => pe_ix ix_str (pv 2) (pe_cf cT hr pass0 (pa_cons (pv 0) (pa_cons pe_int pa_nil))) (fun _ _ => rfl)))))
      (pss_cons (ps_if (pt_cmpR (op_notInS hr.units) (pv 5) (pv 1) (by rfl)) (pss_one (ps_ret (pv 5))) pss_nil)
      (pss_cons (ps_set (i := 6) scLname.nd rfl (Or.inl rfl) (pe_cf cT hr pass0 (pa_cons (pv 0) (pa_cons pe_int pa_nil))))
      (pss_cons (ps_for PassesOwn.never rfl (pi_range1 (by rfl) B.rng (pa_cons pe_int pa_nil)) (pg_name (i := 4) scLname.nd rfl (Or.inl rfl))
        (pss_cons (ps_set (i := 7) scLname.nd rfl (Or.inl rfl) (pe_op op_add_str (pe_slice sl_str (pv 5) po_none (po_some pe_int))
            (pe_ix ix_str (pv 2) (pe_op op_modN (pe_callTy call_int1 (by rfl) B.int (by decide +kernel) (pa_cons (pe_op op_add (pv 6) (pv 4)) pa_nil)) pe_int) (fun _ _ => rfl))))
        (pss_one (ps_if (pt_cmpR (op_notInS hr.units) (pv 7) (pv 1) (by rfl)) (pss_one (ps_ret (pv 7))) pss_nil))))
      (pss_one (ps_ret pe_str))))))), ?_⟩
    refine ⟨_, rfl, st, 8, rfl, by decide, by decide, hst, fun d n0 s0 hd0 hd1 hn0 hs0 hs1 => ?_⟩
    generalize hH1 : upd H st (.lst [.int n0, .int s0]) = H1
    have s1 : SameBut st H H1 := by rw [← hH1]; exact SameBut.set
    have st1 : StAt H1 st := ⟨n0, s0, by rw [← hH1]; exact upd_same, hn0, hs0, hs1⟩
    refine ⟨_, _, rfl, rfl, ?_⟩
    refine ⟨⟨_, rfl⟩, _, rfl, (1 + d), rfl, by omega, by omega, fun D hD => lc_it (walk_range (lo := 0) (n := (1 + d).toNat)) (fun i H' => SameBut st H1 H' ∧ StAt H' st ∧ ∃ cs : List Nat, cs.length = i ∧ (∀ c ∈ cs, lowC c = true) ∧ H' D = some (.lst (cs.map fun c => V.str ⟨#[c]⟩))) ?_ (fun _ _ _ _ => True.intro) ?_ ?_⟩
    · exact ⟨(Same.new hD).but st, st1.same (Same.new hD), [], rfl, (fun _ h => by cases h), upd_same⟩
    · rintro i x Hx H2 hi ⟨sb, sa, cs, hlen, hlow, hD1⟩ ⟨rfl, rfl⟩
      have hDst : D ≠ st := by
        obtain ⟨n, s, e, _⟩ := st1
        intro z
        rw [z, e] at hD
        cases hD
      refine ⟨rfl, lcTurn ⟨_, rfl, _, rfl, st, 26, rfl, by decide, by decide, sa, fun e n2 s2 he0 he1 hn2 hs2 hs3 => ?_⟩⟩
      have hat : atI ("abcdefghijklmnopqrstuvwxyz" : Str).cps.toList e = some (97 + e.toNat) := by
        have q := atI_nat (abc_at e.toNat (by omega))
        rw [show ((e.toNat : Nat) : Int) = e by omega] at q
        exact q
      refine ⟨_, e, 97 + e.toNat, rfl, rfl, by rw [abc_len, esz]; decide, hat, _, by rw [upd_ne hDst]; exact hD1, by rw [List.length_map]; omega, ?_, ?_, cs ++ [97 + e.toNat], by rw [List.length_append, hlen]; rfl, fun c hc => ?_, ?_⟩
      · intro b o hb hbo
        by_cases hbD : b = D
        · subst hbD
          rw [hD] at hbo
          cases hbo
        · rw [upd_ne hbD, upd_ne hb]
          exact sb b o hb hbo
      · exact ⟨n2, s2, by rw [upd_ne (Ne.symm hDst)]; exact upd_same, hn2, hs2, hs3⟩
      · rcases List.mem_append.mp hc with q | q
        · exact hlow c q
        · have : c = 97 + e.toNat := by simpa using q
          rw [this]
          exact low_of _ (by omega)
      · rw [upd_same, List.map_append]
        rfl
    · rintro H2 ⟨sb, sa, cs, hlen, hlow, hD1⟩
      have ek : cs.map (fun c => V.str ⟨#[c]⟩) = (cs.map fun c => (⟨#[c]⟩ : Str)).map V.str := by
        rw [List.map_map]
        rfl
      have hc1 : 1 ≤ cs.length := by omega
      have hc8 : cs.length ≤ 8 := by omega
      have sB := s1.trans sb
      have hn := name_of hc1 hc8 hlow
      refine ⟨_, D, cs.map fun c => (⟨#[c]⟩ : Str), rfl, rfl, .inl (SqL.of (by rw [hD1, ek])), ?_, ?_⟩
      · rw [sum_one, List.length_map, show ("" : Str).length = 0 from rfl, Nat.mul_zero]
        omega
      rw [join_one]
      refine ⟨_, rfl, _, rfl, tk, ts, rfl, .inl (SqL.of (sB _ _ nts htk)), .flat rfl, _, rfl, ?_⟩
      rw [if_pos rfl, inS_str]
      by_cases hm : (⟨cs.toArray⟩ : Str) ∈ ts
      · rw [decide_eq_true hm]
        refine iteF ⟨_, rfl, st, 26, rfl, by decide, by decide, sa, fun l n2 s2 hl0 hl1 hn2 hs2 hs3 => ?_⟩
        generalize hH3 : upd H2 st (.lst [.int n2, .int s2]) = H3
        have s3 : SameBut st H2 H3 := by rw [← hH3]; exact SameBut.set
        have st3 : StAt H3 st := ⟨n2, s2, by rw [← hH3]; exact upd_same, hn2, hs2, hs3⟩
        have sC := sB.trans s3
        refine ⟨26, rfl, by decide, by decide, for_it (walk_range (lo := 0) (n := (26 : Int).toNat)) (fun i σ H' => ∃ v4 v7 : Option V, σ = [some (.ref st), some (.ref tk), some (.str "abcdefghijklmnopqrstuvwxyz"), some (.int (1 + d)), v4, some (.str ⟨cs.toArray⟩), some (.int l), v7] ∧ H' = H3 ∧ ∀ j, j < i → other cs l j ∈ ts)
          ⟨_, _, rfl, rfl, fun j hj => absurd hj (Nat.not_lt_zero j)⟩ (fun _ _ _ _ _ => True.intro) ?_ ?_⟩
        · rintro i x σ Hx H4 hi ⟨v4, v7, rfl, rfl, hall⟩ ⟨rfl, rfl⟩
          have f0 : 0 ≤ (l + (0 + (i : Int))).fmod 26 := Int.fmod_nonneg_of_pos _ (by decide)
          have f1 : (l + (0 + (i : Int))).fmod 26 < 26 := Int.fmod_lt_of_pos _ (by decide)
          have hat : atI ("abcdefghijklmnopqrstuvwxyz" : Str).cps.toList ((l + (0 + (i : Int))).fmod 26) = some (97 + ((l + (0 + (i : Int))).fmod 26).toNat) := by
            have q := atI_nat (abc_at ((l + (0 + (i : Int))).fmod 26).toNat (by omega))
            rw [show ((((l + (0 + (i : Int))).fmod 26).toNat : Nat) : Int) = (l + (0 + (i : Int))).fmod 26 by omega] at q
            exact q
          have ecut : cutS ⟨cs.toArray⟩ none (some 7) = ⟨(cs.take 7).toArray⟩ := by
            apply str_ext
            show (((cs.toArray.toList.drop 0).take (HT.sIx cs.toArray.size cs.toArray.size (some ((7 : Nat) : Int)) - 0)).toArray).toList = (cs.take 7).toArray.toList
            rw [HT.sIx_nat]
            simp [List.take_eq_take_iff]
          refine ⟨_, rfl, _, rfl, _, rfl, by show cs.toArray.size ≤ sizeLine; rw [List.size_toArray]; omega, ?_⟩
          refine ⟨_, rfl, _, rfl, _, rfl, _, _, rfl, rfl, .inl ⟨_, rfl, _, _, rfl, rfl, (by show (26 : Int) ≠ 0; decide), _, _, _, rfl, rfl, by rw [abc_len, esz]; decide, hat, ?_⟩⟩
          have eo : (cutS ⟨cs.toArray⟩ none (some 7) ++ (⟨#[97 + ((l + (0 + (i : Int))).fmod 26).toNat]⟩ : Str)) = other cs l i := by
            rw [ecut]
            unfold other
            apply str_ext
            rw [show ((⟨(cs.take 7).toArray⟩ : Str) ++ (⟨#[97 + ((l + (0 + (i : Int))).fmod 26).toNat]⟩ : Str)).cps.toList = tl ((⟨(cs.take 7).toArray⟩ : Str) ++ (⟨#[97 + ((l + (0 + (i : Int))).fmod 26).toNat]⟩ : Str)) from rfl, tl_append]
          refine ⟨_, _, rfl, rfl, ?_, ?_⟩
          · have := cutS_length (⟨cs.toArray⟩ : Str) none (some 7)
            have e9 : (⟨cs.toArray⟩ : Str).length = cs.length := by simp [Str.length]
            show (cutS ⟨cs.toArray⟩ none (some 7)).length + 1 ≤ sizeLine
            omega
          · refine ⟨_, rfl, _, rfl, tk, ts, rfl, .inl (SqL.of (sC _ _ nts htk)), .flat rfl, _, rfl, ?_⟩
            rw [if_pos rfl, inS_str]
            by_cases hm2 : other cs l i ∈ ts
            · have e9 : decide ((cutS ⟨cs.toArray⟩ none (some 7) ++ (⟨#[97 + ((l + (0 + (i : Int))).fmod 26).toNat]⟩ : Str)) ∈ ts) = true := by
                rw [eo]
                exact decide_eq_true hm2
              have e10 : (!decide ((cutS ⟨cs.toArray⟩ none (some 7) ++ (⟨#[97 + ((l + (0 + (i : Int))).fmod 26).toNat]⟩ : Str)) ∈ ts)) = false := by rw [e9]; rfl
              refine (if_neg (by rw [e10]; decide)).mpr ?_
              refine ⟨_, _, rfl, rfl, fun j hj => ?_⟩
              by_cases hji : j < i
              · exact hall j hji
              · have : j = i := by omega
                rw [this]
                exact hm2
            · have e9 : decide ((cutS ⟨cs.toArray⟩ none (some 7) ++ (⟨#[97 + ((l + (0 + (i : Int))).fmod 26).toNat]⟩ : Str)) ∈ ts) = false := by
                rw [eo]
                exact decide_eq_false hm2
              have e10 : (!decide ((cutS ⟨cs.toArray⟩ none (some 7) ++ (⟨#[97 + ((l + (0 + (i : Int))).fmod 26).toNat]⟩ : Str)) ∈ ts)) = true := by rw [e9]; rfl
              refine (if_pos e10).mpr ⟨_, rfl, ?_⟩
              have q := kq (other cs l i) _ sC st3 (other_name hc8 hlow) hm2
              rw [← eo] at q
              exact q
        · rintro σ H4 ⟨v4, v7, rfl, rfl, hall⟩
          exfalso
          have hnd : ((List.range 26).map fun j => other cs l j).Nodup := by
            refine List.Pairwise.map _ (fun a b h e => ?_) (List.Pairwise.and_mem.mp (List.nodup_range (n := 26)))
            obtain ⟨ha, hb, hab⟩ := h
            exact hab (other_inj hl0 (List.mem_range.mp ha) (List.mem_range.mp hb) e)
          have q := nodup_sub_length (m := ts) hnd fun z hz => by
            obtain ⟨j, hj, rfl⟩ := List.mem_map.mp hz
            exact hall j (List.mem_range.mp hj)
          rw [List.length_map, List.length_range] at q
          omega
      · rw [decide_eq_false hm]
        exact iteT ⟨_, rfl, kq _ _ sB sa hn hm⟩
end
end Qp
namespace Qp
open PySem L2
section
variable {P : Program} {w : World} {K : PySem.W.Frag} {mg : Str → Option Value} {base : Heap}
/-- _law_names(state, many) -/
def spNames : Sp := fun vs H Q _ => ∃ (st : Addr) (m : Nat), vs = [.ref st, .int m] ∧ m ≤ 25 ∧ StAt H st ∧ ∀ (p : Addr) (ps : List Str) (H' : Hp), ps.length = m → ps.Nodup → (∀ z ∈ ps, nameS z = true) → SameBut st H H' → StAt H' st → H p = none → p ≠ st → H' p = some (lstO ps) → Q (.ref p) H'
theorem ok_names {f : Addr} {fd : FuncData} (F : Fun K "_law_names" "_law_names" sLnames f fd) (B : Bl mg) (cN : CF P w K mg base CX0 2 "_law_name" ["_law_state", "_law_taken"] spName) : FnOk P w K mg base CX0 3 f fd ["_law_state", "_law_many_here"] spNames := by
  refine F.ok scLnames (fun vs H Q E h => ?_) (fun cdv A outer s H vs Q E hr h => ?_)
  · obtain ⟨st, m, rfl, _⟩ := h
    rfl
  · obtain ⟨st, m, rfl, hm, hst, kq⟩ := h
    have esz : sizeLine = 16777216 := sizeLine_eq
    refine ⟨_, pss_cons (ps_set (i := 2) scLnames.nd rfl (Or.inl rfl) (pe_lst pa_nil))
      (pss_cons (ps_for PassesOwn.never rfl (pi_range1 (by rfl) B.rng (pa_cons (pv 1) pa_nil)) (pg_name (i := 3) scLnames.nd rfl (Or.inl rfl))
        (pss_one (ps_expr (pe_bm PySem.F.plainAttrs_list PySem.F.slot_list_append PySem.F.type_list_append mt_append (pv 2) (pa_cons (pe_cf cN hr pass0 (pa_cons (pv 0) (pa_cons (pv 2) pa_nil))) pa_nil)))))
      (pss_one (ps_ret (pv 2)))), ?_⟩
    refine ⟨by show 0 ≤ sizeLine; exact Nat.zero_le _, fun p hp => ?_⟩
    have nps : p ≠ st := by
      obtain ⟨n, s, e, _⟩ := hst
      intro z
      rw [z, e] at hp
      cases hp
    refine ⟨_, rfl, m, rfl, by omega, by omega, for_it (walk_range (lo := 0) (n := ((m : Nat) : Int).toNat)) (fun i σ H' => ∃ (v : Option V) (ps : List Str), σ = [some (.ref st), some (.int m), some (.ref p), v] ∧ ps.length = i ∧ ps.Nodup ∧ (∀ z ∈ ps, nameS z = true) ∧ SameBut st H H' ∧ StAt H' st ∧ H' p = some (lstO ps))
      ⟨none, [], rfl, rfl, List.nodup_nil, (fun _ h => by cases h), (Same.new hp).but st, hst.same (Same.new hp), upd_same⟩ (fun _ _ _ _ _ => True.intro) ?_ ?_⟩
    · rintro i x σ Hx H1 hi ⟨v, ps, rfl, hlen, hnd, hnm, sb, sa, hp1⟩ ⟨rfl, rfl⟩
      refine ⟨_, rfl, .inl ⟨rfl, _, SqL.of hp1⟩, _, rfl, _, rfl, st, p, ps, rfl, sa, hp1, by omega, fun z H2 sb2 sa2 hz hnz => ?_⟩
      have hp2 : H2 p = some (lstO ps) := sb2 _ _ nps hp1
      refine ⟨p, ps.map V.str, .str z, rfl, rfl, hp2, by rw [List.length_map]; omega, _, ps ++ [z], rfl, by rw [List.length_append, hlen]; rfl, ?_, fun y hy => ?_, fun b o hb e => ?_, ?_, ?_⟩
      · rw [List.nodup_append]
        refine ⟨hnd, by simp, fun a ha b hb => ?_⟩
        have : b = z := by simpa using hb
        subst this
        intro e
        subst e
        exact hnz ha
      · rcases List.mem_append.mp hy with q | q
        · exact hnm y q
        · have : y = z := by simpa using q
          rw [this]
          exact hz
      · rw [upd_ne (ne_of_none e hp)]
        exact sb2 _ _ hb (sb _ _ hb e)
      · obtain ⟨n, s, e, r⟩ := sa2
        exact ⟨n, s, by rw [upd_ne (Ne.symm nps)]; exact e, r⟩
      · rw [upd_same]
        unfold lstO
        rw [List.map_append]
        rfl
    · rintro σ H1 ⟨v, ps, rfl, hlen, hnd, hnm, sb, sa, hp1⟩
      exact ⟨_, rfl, kq p ps H1 (by omega) hnd hnm sb sa hp nps hp1⟩
end
end Qp
namespace Qp
open PySem L2
theorem seqIx_of {n : Nat} {d : Int} (h0 : 0 ≤ d) (h1 : d < n) : seqIndex? d n = some d.toNat := by
  unfold seqIndex?
  simp [show ¬ d < 0 by omega, h0, h1]
theorem perm_step {α : Type} {pool row zs : List α} {k : Nat} {y : α} (hp : (pool ++ row).Perm zs) (hy : pool[k]? = some y) : ((pool.eraseIdx k) ++ (row ++ [y])).Perm zs := by
  have h1 : pool.Perm (y :: pool.eraseIdx k) := by
    obtain ⟨hk, e⟩ := List.getElem?_eq_some_iff.mp hy
    rw [List.eraseIdx_eq_take_drop_succ]
    have e2 : pool = pool.take k ++ y :: pool.drop (k + 1) := by
      rw [← e, List.getElem_cons_drop, List.take_append_drop]
    exact (List.Perm.of_eq e2).trans List.perm_middle
  refine List.Perm.trans ?_ hp
  refine List.Perm.trans ?_ (List.Perm.append_right row h1.symm)
  rw [← List.append_assoc]
  refine List.Perm.trans (List.perm_append_comm) ?_
  rfl
section
variable {P : Program} {w : World} {K : PySem.W.Frag} {mg : Str → Option Value} {base : Heap}
/-- _law_mixed(state, items) -/
def spMixed : Sp := fun vs H Q _ => ∃ (st it : Addr) (zs : List Str), vs = [.ref st, .ref it] ∧ StAt H st ∧ H it = some (lstO zs) ∧ zs.length ≤ 500 ∧
  ∀ (p : Addr) (ps : List Str) (H' : Hp), ps.Perm zs → SameBut st H H' → StAt H' st → H p = none → H' p = some (lstO ps) → Q (.ref p) H'
theorem ok_mixed {f : Addr} {fd : FuncData} (F : Fun K "_law_mixed" "_law_mixed" sLmixed f fd) (B : Bl mg) (cT : CF P w K mg base CX0 1 "_law_take" ["_law_state", "_law_many_here"] spTake) : FnOk P w K mg base CX0 2 f fd ["_law_state", "_law_items"] spMixed := by
  refine F.ok scLmixed (fun vs H Q E h => ?_) (fun cdv A outer s H vs Q E hr h => ?_)
  · obtain ⟨st, it, zs, rfl, _⟩ := h
    rfl
  · obtain ⟨st, it, zs, rfl, hst, hit, hlen, kq⟩ := h
    have esz : sizeLine = 16777216 := sizeLine_eq
    refine ⟨_, pss_cons (ps_set (i := 2) scLmixed.nd rfl (Or.inl rfl) (pe_callTy call_list_of (by rfl) B.lst (by decide +kernel) (pa_cons (pv 1) pa_nil)))
      (pss_cons (ps_set (i := 3) scLmixed.nd rfl (Or.inl rfl) (pe_lst pa_nil))
      (pss_cons (ps_for PassesOwn.never rfl (pi_range1 (by rfl) B.rng (pa_cons (pe_callB call_len_seq (by rfl) B.len PySem.boot_len (pa_cons (pv 1) pa_nil)) pa_nil)) (pg_name (i := 4) scLmixed.nd rfl (Or.inl rfl))
        (pss_one (ps_expr (pe_bm PySem.F.plainAttrs_list PySem.F.slot_list_append PySem.F.type_list_append mt_append (pv 3) (pa_cons (pe_bm PySem.F.plainAttrs_list PySem.F.slot_list_pop PySem.F.type_list_pop mt_popAt (pv 2)
          (pa_cons (pe_cf cT hr pass0 (pa_cons (pv 0) (pa_cons (pe_callB call_len_seq (by rfl) B.len PySem.boot_len (pa_cons (pv 2) pa_nil)) pa_nil))) pa_nil)) pa_nil)))))
      (pss_one (ps_ret (pv 3))))), ?_⟩
    have nst : ∀ (b : Addr) (H' : Hp), H' b = none → StAt H' st → b ≠ st := fun b H' hb hs => by
      obtain ⟨n, z, e, _⟩ := hs
      intro y
      rw [y, e] at hb
      cases hb
    refine ⟨_, rfl, it, zs.map V.str, rfl, .inl (SqL.of hit), fun L hL => ⟨(by show 0 ≤ sizeLine; exact Nat.zero_le _), fun R hR => ?_⟩⟩
    have s1 : Same H (upd H L (.lst (zs.map V.str))) := Same.new hL
    have nL := nst L H hL hst
    have eL : (upd H L (.lst (zs.map V.str))) L = some (.lst (zs.map V.str)) := upd_same
    generalize upd H L (.lst (zs.map V.str)) = H1 at s1 hR eL
    have nR := nst R H1 hR (hst.same s1)
    have nRL : L ≠ R := ne_of_none eL hR
    have nHR : H R = none := s1.free hR
    refine ⟨_, rfl, it, _, rfl, .inl (SqL.of (Same.new hR _ _ (s1 _ _ hit))), _, rfl, by rw [List.length_map]; omega, by rw [List.length_map]; omega,
      for_it (walk_range (lo := 0) (n := (((zs.map V.str).length : Nat) : Int).toNat)) (fun i σ H' => ∃ (v : Option V) (pool row : List Str), σ = [some (.ref st), some (.ref it), some (.ref L), some (.ref R), v] ∧ (pool ++ row).Perm zs ∧ row.length = i ∧ SameBut st H H' ∧ StAt H' st ∧ H' L = some (lstO pool) ∧ H' R = some (lstO row))
      ⟨none, zs, [], rfl, by rw [List.append_nil], rfl, (s1.trans (Same.new hR)).but st, (hst.same s1).same (Same.new hR), by rw [upd_ne nRL]; exact eL, upd_same⟩ (fun _ _ _ _ _ => True.intro) ?_ ?_⟩
    · rintro i x σ Hx H2 hi ⟨v, pool, row, rfl, hperm, hrow, sb, sa, hL2, hR2⟩ ⟨rfl, rfl⟩
      have hlp := hperm.length_eq
      rw [List.length_append] at hlp
      rw [List.length_map, Int.toNat_natCast] at hi
      refine ⟨_, rfl, .inl ⟨rfl, _, SqL.of hR2⟩, _, rfl, .inl ⟨rfl, _, SqL.of hL2⟩, _, rfl, _, rfl, L, _, rfl, .inl (SqL.of hL2), st, pool.length, by rw [List.length_map]; rfl, by omega, by omega, sa, fun d n1 z1 hd0 hd1 a1 a2 a3 => ?_⟩
      obtain ⟨y, ey⟩ : ∃ y, pool[d.toNat]? = some y := ⟨_, List.getElem?_eq_getElem (by omega)⟩
      have hL3 : (upd H2 st (.lst [.int n1, .int z1])) L = some (lstO pool) := by rw [upd_ne nL]; exact hL2
      refine ⟨L, pool.map V.str, d, d.toNat, .str y, rfl, rfl, hL3, by omega, by omega, seqIx_of hd0 (by rw [List.length_map]; exact hd1), by rw [List.getElem?_map, ey]; rfl, ?_⟩
      refine ⟨R, row.map V.str, .str y, rfl, rfl, ?_, by rw [List.length_map]; omega, _, pool.eraseIdx d.toNat, row ++ [y], rfl, perm_step hperm ey, by rw [List.length_append, hrow]; rfl, fun b o hb e => ?_, ?_, ?_, ?_⟩
      · rw [upd_ne (Ne.symm nRL), upd_ne nR]
        exact hR2
      · rw [upd_ne (ne_of_none e nHR), upd_ne (ne_of_none e hL), upd_ne hb]
        exact sb _ _ hb e
      · exact ⟨n1, z1, by rw [upd_ne (Ne.symm nR), upd_ne (Ne.symm nL)]; exact upd_same, a1, a2, a3⟩
      · rw [upd_ne nRL, upd_same]
        unfold lstO
        rw [List.eraseIdx_eq_take_drop_succ, List.eraseIdx_eq_take_drop_succ, List.map_append, List.map_take, List.map_drop]
      · rw [upd_same]
        unfold lstO
        rw [List.map_append]
        rfl
    · rintro σ H2 ⟨v, pool, row, rfl, hperm, hrow, sb, sa, hL2, hR2⟩
      have hlp := hperm.length_eq
      rw [List.length_append, hrow, List.length_map, Int.toNat_natCast] at hlp
      have hp0 : pool = [] := List.eq_nil_of_length_eq_zero (by omega)
      subst hp0
      exact ⟨_, rfl, kq R row H2 hperm sb sa nHR hR2⟩
/-- _law_others(names, a) -/
def spOthers (K : PySem.W.Frag) : Sp := fun vs H Q _ => ∃ (it : Addr) (zs : List Str) (a : Str), vs = [.ref it, .str a] ∧ H it = some (lstO zs) ∧ zs.length ≤ 500 ∧
  ∀ (p : Addr) (H' : Hp), Same H H' → H p = none → H' p = some (lstO (zs.filter fun z => !decide (z = a))) → Q (.ref p) H'
theorem ok_others {f : Addr} {fd : FuncData} (F : Fun K "_law_others" "_law_others" sLothers f fd) (B : Bl mg) : FnOk P w K mg base CX0 1 f fd ["_law_names_here", "_law_a"] (spOthers K) := by
  refine F.ok scLothers (fun vs H Q E h => ?_) (fun cdv A outer s H vs Q E hr h => ?_)
  · obtain ⟨it, zs, a, rfl, _⟩ := h
    rfl
  · obtain ⟨it, zs, a, rfl, hit, hlen, kq⟩ := h
    have esz : sizeLine = 16777216 := sizeLine_eq
    refine ⟨_, pss_one (ps_ret (pe_lc (own := [("_law_b", 2)]) (g := gName 2) rfl scLothers.nd (pi_list (pv 0)) (blkOk_by (own := [("_law_b", 2)]) (N := ["_law_names_here", "_law_a", "_law_b"]) (sc := defScope sLothers) (by decide +kernel))
          (fun _ _ _ _ _ => pg_name (i := 2) scLothers.nd rfl (Or.inl rfl)) (fun _ _ _ _ _ => pts_one (pt_cmpR op_ne (pv 2) (pv 1) (nomark _))) (fun _ _ _ _ _ => pv 2))), ?_⟩
    refine ⟨_, rfl, it, rfl, ⟨_, SqL.of hit⟩, fun D hD => lc_it walk_list (fun i H' => Same H H' ∧ H' D = some (lstO ((zs.take i).filter fun z => !decide (z = a)))) ⟨Same.new hD, upd_same⟩ (fun i H' _ z => z.1.seq (SqL.of hit)) ?_ ?_⟩
    · rintro i x Hx H1 hi ⟨s1, hD1⟩ ⟨rfl, hx⟩
      rw [List.getElem?_map] at hx
      cases ex : zs[i]? with
      | none => rw [ex] at hx; cases hx
      | some z =>
        rw [ex] at hx
        cases hx
        have hlt : ((zs.take i).filter fun z => !decide (z = a)).length < sizeLine := by
          have q1 := List.length_filter_le (fun z => !decide (z = a)) (zs.take i)
          rw [List.length_take] at q1
          omega
        refine ⟨rfl, _, rfl, _, rfl, rfl, _, rfl, ?_⟩
        have e9 : decide (V.str z = V.str a) = decide (z = a) := by
          rw [Bool.eq_iff_iff, decide_eq_true_iff, decide_eq_true_iff]
          exact ⟨fun e => V.str.inj e, fun e => by rw [e]⟩
        rw [e9]
        by_cases hza : z = a
        · rw [decide_eq_true hza]
          refine iteF ⟨s1, ?_⟩
          rw [take_snoc ex, List.filter_append, List.filter_cons_of_neg (by rw [decide_eq_true hza]; decide), List.filter_nil, List.append_nil]
          exact hD1
        · rw [decide_eq_false hza]
          refine iteT ⟨_, rfl, _, hD1, by rw [List.length_map]; exact hlt, fun b o e => ?_, ?_⟩
          · rw [upd_ne (ne_of_none e hD)]
            exact s1 _ _ e
          · rw [upd_same, take_snoc ex, List.filter_append, List.filter_cons_of_pos (by rw [decide_eq_false hza]; decide), List.filter_nil]
            unfold lstO
            rw [List.map_append]
            rfl
    · rintro H1 ⟨s1, hD1⟩
      rw [List.length_map, List.take_of_length_le (Nat.le_refl _)] at hD1
      exact kq D H1 s1 hD hD1
end
end Qp
namespace L2
open PySem PySem.Spec PyProof.Rows
theorem cut_to {xs : List V} {i : Nat} : cutV xs none (some (i : Int)) = xs.take i := by
  unfold cutV
  rw [HT.sIx_none, HT.sIx_nat, List.drop_zero, Nat.sub_zero, List.take_eq_take_iff]
  omega
theorem cut_from {xs : List V} {i : Nat} : cutV xs (some (i : Int)) none = xs.drop i := by
  unfold cutV
  rw [HT.sIx_none, HT.sIx_nat]
  by_cases h : i ≤ xs.length
  · rw [Nat.min_eq_left h, List.take_of_length_le (by rw [List.length_drop]; omega)]
  · rw [Nat.min_eq_right (by omega), Nat.sub_self, List.take_zero, List.drop_eq_nil_of_le (by omega)]
theorem cut_mid {xs : List V} {i j : Nat} : cutV xs (some (i : Int)) (some ((i + j : Nat) : Int)) = (xs.drop i).take j := by
  unfold cutV
  rw [HT.sIx_nat, HT.sIx_nat]
  by_cases h : i ≤ xs.length
  · rw [Nat.min_eq_left h, List.take_eq_take_iff, List.length_drop]
    omega
  · rw [List.drop_eq_nil_of_le (show xs.length ≤ min i xs.length by omega), List.drop_eq_nil_of_le (show xs.length ≤ i by omega), List.take_nil, List.take_nil]
theorem ix_listK {X : Cx} {K : PySem.W.Frag} (hK : X.K = K) : IxR X (rIxL K) := by
  subst hK
  exact ix_list
/-- all but two as it was -/
def But2 (st D : Addr) (H H' : Hp) : Prop := ∀ b o, H b = some o → b ≠ st → b ≠ D → H' b = some o
theorem But2.refl (st D : Addr) (H : Hp) : But2 st D H H := fun _ _ h _ _ => h
theorem But2.trans {st D : Addr} {H H1 H2 : Hp} (a : But2 st D H H1) (b : But2 st D H1 H2) : But2 st D H H2 := fun c o e n1 n2 => b c o (a c o e n1 n2) n1 n2
theorem Same.but2 {H H' : Hp} (s : Same H H') (st D : Addr) : But2 st D H H' := fun b o e _ _ => s b o e
theorem SameBut.but2 {st : Addr} {H H' : Hp} (s : SameBut st H H') (D : Addr) : But2 st D H H' := fun b o e n _ => s b o n e
theorem But2.setD {st D : Addr} {H : Hp} {o : HO} : But2 st D H (upd H D o) := fun b u e _ n => by rw [upd_ne n]; exact e
theorem But2.setS {st D : Addr} {H : Hp} {o : HO} : But2 st D H (upd H st o) := fun b u e n _ => by rw [upd_ne n]; exact e
end L2
namespace Qp
open PySem L2
theorem ne_st {H : Hp} {st p : Addr} {zs : List Str} (hs : StAt H st) (h : H p = some (lstO zs)) : p ≠ st := by
  obtain ⟨n, z, e, _⟩ := hs
  exact ne_of h e (lst_ne_st zs n z)
theorem new_ne_st {H : Hp} {st p : Addr} (hs : StAt H st) (h : H p = none) : p ≠ st := by
  obtain ⟨n, z, e, _⟩ := hs
  intro y
  rw [y, e] at h
  cases h
/-- a row that fits a -/
def GRow (ns : List Str) (a : Str) (xs : List Str) : Prop := xs.Nodup ∧ ∀ b ∈ xs, b ∈ ns ∧ b ≠ a
theorem GRow.perm {ns : List Str} {a : Str} {xs ys : List Str} (h : GRow ns a xs) (p : ys.Perm xs) : GRow ns a ys := ⟨p.nodup_iff.mpr h.1, fun b hb => h.2 b (p.mem_iff.mp hb)⟩
theorem GRow.sub {ns : List Str} {a : Str} {xs ys : List Str} (h : GRow ns a xs) (p : ys.Sublist xs) : GRow ns a ys := ⟨h.1.sublist p, fun b hb => h.2 b (p.subset hb)⟩
theorem GRow.names {ns ms : List Str} {a : Str} {xs : List Str} (h : GRow ns a xs) (hm : ∀ z, z ∈ ns → z ∈ ms) : GRow ms a xs := ⟨h.1, fun b hb => ⟨hm b (h.2 b hb).1, (h.2 b hb).2⟩⟩
theorem GRow.len {ns : List Str} {a : Str} {xs : List Str} (h : GRow ns a xs) : xs.length ≤ ns.length := nodup_sub_length h.1 fun b hb => (h.2 b hb).1
theorem grow_cons {ns : List Str} {a : Str} {xs order : List Str} (hn : order.Nodup) (hs : ∀ z ∈ order, z ∈ ns) (p : (a :: xs).Perm order) : GRow ns a xs := by
  have h1 : (a :: xs).Nodup := p.nodup_iff.mpr hn
  obtain ⟨h2, h3⟩ := List.nodup_cons.mp h1
  exact ⟨h3, fun b hb => ⟨hs b (p.mem_iff.mp (List.mem_cons_of_mem _ hb)), fun e => h2 (e ▸ hb)⟩⟩
theorem rot_perm {α : Type} {l : List α} {k : Nat} {a : α} (h : l[k]? = some a) : (a :: (l.drop (k + 1) ++ l.take k)).Perm l := by
  obtain ⟨hk, e⟩ := List.getElem?_eq_some_iff.mp h
  have e2 : l = l.take k ++ a :: l.drop (k + 1) := by
    rw [← e, List.getElem_cons_drop, List.take_append_drop]
  refine List.Perm.trans ?_ (List.Perm.of_eq e2.symm)
  exact (List.perm_append_comm (l₁ := a :: l.drop (k + 1)) (l₂ := l.take k))
theorem rot2_perm {α : Type} {l : List α} {k : Nat} : (l.drop k ++ l.take k).Perm l := by
  have h := List.perm_append_comm (l₁ := l.drop k) (l₂ := l.take k)
  rw [List.take_append_drop] at h
  exact h
theorem filt_grow {ns : List Str} {a : Str} {order : List Str} (hn : order.Nodup) (hs : ∀ z ∈ order, z ∈ ns) : GRow ns a (order.filter fun z => !decide (z = a)) :=
  ⟨hn.filter _, fun b hb => by
    obtain ⟨h1, h2⟩ := List.mem_filter.mp hb
    exact ⟨hs b h1, by simpa using h2⟩⟩
/-- wishes that are being laid -/
def Part (H : Hp) (D : Addr) (qs ns : List Str) : Prop := ∃ ws : Str → List Str, RowsG H D qs (fun a => lstO (ws a)) ∧ ∀ a ∈ qs, GRow ns a (ws a)
theorem Part.new {H : Hp} {D : Addr} {ns : List Str} (h : H D = some (.dK [])) : Part H D [] ns := ⟨fun _ => [], RowsG.nil h, fun _ h => by cases h⟩
theorem Part.dk {H : Hp} {D : Addr} {qs ns : List Str} (h : Part H D qs ns) : ∃ kvs, H D = some (.dK kvs) := by
  obtain ⟨ws, ⟨ad, e, _⟩, _⟩ := h
  exact ⟨_, e⟩
theorem Part.same {H H' : Hp} (s : Same H H') {D : Addr} {qs ns : List Str} (h : Part H D qs ns) : Part H' D qs ns := by
  obtain ⟨ws, R, g⟩ := h
  exact ⟨ws, R.same s, g⟩
theorem Part.but {st : Addr} {H H' : Hp} (s : SameBut st H H') (hs : StAt H st) {D : Addr} {qs ns : List Str} (h : Part H D qs ns) : Part H' D qs ns := by
  obtain ⟨ws, ⟨ad, e, q⟩, g⟩ := h
  have hs2 := hs
  obtain ⟨n, z, es, _⟩ := hs2
  exact ⟨ws, ⟨ad, s _ _ (ne_of e es (by intro y; cases y)) e, fun a ha => ⟨s _ _ (ne_st hs (q a ha).1) (q a ha).1, (q a ha).2⟩⟩, g⟩
theorem Part.ne {H : Hp} {D p : Addr} {qs ns zs : List Str} (h : Part H D qs ns) (hp : H p = some (lstO zs)) : p ≠ D := by
  obtain ⟨kvs, e⟩ := h.dk
  exact ne_of hp e (by intro z; cases z)
theorem Part.put {H : Hp} {D p : Addr} {qs ns row : List Str} {a : Str} (h : Part H D qs ns) (ha : a ∉ qs) (hp : H p = some (lstO row)) (g : GRow ns a row) :
    ∃ kvs, H D = some (.dK kvs) ∧ kvs.length = qs.length ∧ Part (upd H D (.dK (putK kvs (Sum.inr a) (.ref p)))) D (qs ++ [a]) ns := by
  have npd := h.ne hp
  obtain ⟨ws, R, gw⟩ := h
  have hc : ∀ x ∈ qs, (if x = a then row else ws x) = ws x := fun x hx => if_neg fun z : x = a => ha (z ▸ hx)
  have R' : RowsG H D qs (fun x => lstO (if x = a then row else ws x)) := by
    obtain ⟨ad, e, q⟩ := R
    refine ⟨ad, e, fun x hx => ?_⟩
    show H (ad x) = some (lstO (if x = a then row else ws x)) ∧ ad x ≠ D
    rw [hc x hx]
    exact q x hx
  obtain ⟨kvs, h1, h2, h3⟩ := R'.snoc (Same.refl H) ha (p := p) (by show H p = some (lstO (if a = a then row else ws a)); rw [if_pos rfl]; exact hp) npd
  refine ⟨kvs, h1, h2, fun x => if x = a then row else ws x, h3, fun x hx => ?_⟩
  by_cases hxa : x = a
  · subst hxa
    show GRow ns x (if x = x then row else ws x)
    rw [if_pos rfl]
    exact g
  · show GRow ns x (if x = a then row else ws x)
    rw [if_neg hxa]
    rcases List.mem_append.mp hx with z | z
    · exact gw x z
    · exact absurd (by simpa using z) hxa
theorem putK_old {ad : Str → Addr} {p : Addr} {a : Str} {qs : List Str} (ha : a ∈ qs) : putK (qs.map fun x => ((Sum.inr x : Key), V.ref (ad x))) (Sum.inr a) (.ref p) = qs.map fun x => ((Sum.inr x : Key), V.ref (if x = a then p else ad x)) := by
  simp only [putK, List.any_map, List.map_map]
  have e : qs.any ((fun kv => decide (kv.1 = (Sum.inr a : Key))) ∘ fun x => ((Sum.inr x : Key), V.ref (ad x))) = true := by
    rw [List.any_eq_true]
    exact ⟨a, ha, decide_eq_true rfl⟩
  first
    | rw [if_pos e]
    | (rw [if_pos (by simpa using ha)])
  refine List.map_congr_left fun x hx => ?_
  by_cases hxa : x = a
  · subst hxa
    simp
  · simp [hxa]
theorem Part.reput {H : Hp} {D p : Addr} {qs ns row : List Str} {a : Str} (h : Part H D qs ns) (hn : qs.Nodup) (ha : a ∈ qs) (hp : H p = some (lstO row)) (g : GRow ns a row) :
    ∃ kvs, H D = some (.dK kvs) ∧ kvs.length = qs.length ∧ Part (upd H D (.dK (putK kvs (Sum.inr a) (.ref p)))) D qs ns := by
  have npd := h.ne hp
  obtain ⟨ws, ⟨ad, e, q⟩, gw⟩ := h
  refine ⟨_, e, by rw [List.length_map], fun x => if x = a then row else ws x, ⟨fun x => if x = a then p else ad x, by rw [upd_same, putK_old ha], fun x hx => ?_⟩, fun x hx => ?_⟩
  · by_cases hxa : x = a
    · subst hxa
      show upd H D _ (if x = x then p else ad x) = some (lstO (if x = x then row else ws x)) ∧ (if x = x then p else ad x) ≠ D
      rw [if_pos rfl, if_pos rfl, upd_ne npd]
      exact ⟨hp, npd⟩
    · show upd H D _ (if x = a then p else ad x) = some (lstO (if x = a then row else ws x)) ∧ (if x = a then p else ad x) ≠ D
      rw [if_neg hxa, if_neg hxa, upd_ne (q x hx).2]
      exact q x hx
  · by_cases hxa : x = a
    · subst hxa
      show GRow ns x (if x = x then row else ws x)
      rw [if_pos rfl]
      exact g
    · show GRow ns x (if x = a then row else ws x)
      rw [if_neg hxa]
      exact gw x hx
/-- the body of the i-th statement, a for -/
def forB (b : List Stmt) (i : Nat) : List Stmt := match b.getD i (.Pass ⟨0, 0, 0, 0⟩) with
  | .For _ _ c _ _ => c
  | .If _ c _ _ => c
  | _ => []
end Qp
namespace Qp
open PySem L2
/-- the laid wishes of all -/
def spWsh : Sp := fun vs H Q _ => ∃ (st it : Addr) (ns : List Str), vs = [.ref st, .ref it] ∧ StAt H st ∧ H it = some (lstO ns) ∧ ns.Nodup ∧ ns.length ≤ 100 ∧
  ∀ (D : Addr) (H' : Hp), H D = none → SameBut st H H' → StAt H' st → (∃ order, order.Perm ns ∧ Part H' D order ns) → Q (.ref D) H'
def spPlain : Sp := fun vs H Q _ => ∃ (st it : Addr) (ns : List Str) (m : Int), vs = [.ref st, .ref it, .int m] ∧ StAt H st ∧ H it = some (lstO ns) ∧ ns.Nodup ∧ ns.length ≤ 100 ∧
  ∀ (D : Addr) (H' : Hp), H D = none → SameBut st H H' → StAt H' st → (∃ order, order.Perm ns ∧ Part H' D order ns) → Q (.ref D) H'
structure PlF (order ns : List Str) (k : Nat) (a : Str) : Prop where
  nd : order.Nodup
  at_ : order[k]? = some a
  sub : ∀ z ∈ order, z ∈ ns
  len : order.length ≤ 100
  lenn : ns.length ≤ 100
def plS (st it : Addr) (m : Int) (O D : Addr) (k : Nat) (p : Addr) : St := [some (.ref st), some (.ref it), some (.int m), some (.ref O), some (.ref D), some (.int k), some (.ref p), none]
def PlI (st it : Addr) (m : Int) (O D : Addr) (order ns : List Str) (k : Nat) (a : Str) (Hs : Hp) (Dn : Ends) (t : TS) : Prop := ∀ (H : Hp) (p : Addr) (row : List Str), StAt H st → H O = some (lstO order) → Part H D (order.take k) ns → H p = some (lstO row) → GRow ns a row → But2 st D Hs H → t Dn (plS st it m O D k p) H
def PlN (st it : Addr) (m : Int) (O D : Addr) (order ns : List Str) (k : Nat) (Hs : Hp) (Dn : Ends) : Prop := ∀ (H : Hp) (p : Addr), StAt H st → H O = some (lstO order) → Part H D (order.take (k + 1)) ns → But2 st D Hs H → Dn.nx (plS st it m O D k p) H
theorem lstO_len {H : Hp} {p : Addr} {zs : List Str} {K : PySem.W.Frag} (h : H p = some (lstO zs)) : SqL K H p (zs.map V.str) := SqL.of h
section
variable {P : Program} {w : World} {K : PySem.W.Frag} {mg : Str → Option Value} {base : Heap}
abbrev nPlain : List Str := ["_law_state", "_law_names_here", "_law_mode", "_law_order", "_law_wishes", "_law_k", "_law_others_here", "_law_b"]
section
variable {f : Addr} {cdv : Value} {A : Around} {outer : List Env} {s : Shared} {H0 : Hp} {E0' : XK}
end
end
end Qp
namespace Qp
open PySem L2
theorem side_grow1 {ns L R : List Str} (p : (L ++ R).Perm ns) (hn : ns.Nodup) {a : Str} (ha : a ∈ L) : GRow ns a R := by
  have h1 : (L ++ R).Nodup := p.nodup_iff.mpr hn
  obtain ⟨h2, h3, h4⟩ := List.nodup_append.mp h1
  exact ⟨h3, fun b hb => ⟨p.mem_iff.mp (List.mem_append_right _ hb), fun e => h4 a ha b hb e.symm⟩⟩
theorem side_grow2 {ns L R : List Str} (p : (L ++ R).Perm ns) (hn : ns.Nodup) {a : Str} (ha : a ∈ R) : GRow ns a L := by
  have h1 : (L ++ R).Nodup := p.nodup_iff.mpr hn
  obtain ⟨h2, h3, h4⟩ := List.nodup_append.mp h1
  exact ⟨h2, fun b hb => ⟨p.mem_iff.mp (List.mem_append_left _ hb), fun e => h4 b hb a ha e⟩⟩
theorem atI_str {zs : List Str} {k : Nat} {a : Str} (h : zs[k]? = some a) : atI (zs.map V.str) (k : Int) = some (.str a) := atI_nat (j := k) (by rw [List.getElem?_map, h]; rfl)
theorem cut_lstO {H : Hp} {L : Addr} {zs : List Str} {i : Nat} : (upd H L (.lst (cutV (zs.map V.str) (some (i : Int)) none))) L = some (lstO (zs.drop i)) := by
  rw [upd_same, cut_from]
  unfold lstO
  rw [List.map_drop]
theorem cut_lstT {H : Hp} {L : Addr} {zs : List Str} {i : Nat} : (upd H L (.lst (cutV (zs.map V.str) none (some (i : Int))))) L = some (lstO (zs.take i)) := by
  rw [upd_same, cut_to]
  unfold lstO
  rw [List.map_take]
theorem cat_lstO {H : Hp} {L : Addr} {xs ys : List Str} : (upd H L (.lst (xs.map V.str ++ ys.map V.str))) L = some (lstO (xs ++ ys)) := by
  rw [upd_same]
  unfold lstO
  rw [List.map_append]
section
variable {P : Program} {w : World} {K : PySem.W.Frag} {mg : Str → Option Value} {base : Heap}
/-- what stands while wishes are laid -/
structure Lay (Hs H : Hp) (st D : Addr) (qs ns : List Str) : Prop where
  st_ : StAt H st
  p : Part H D qs ns
  b : But2 st D Hs H
theorem Lay.same {Hs H H' : Hp} {st D : Addr} {qs ns : List Str} (h : Lay Hs H st D qs ns) (s : Same H H') : Lay Hs H' st D qs ns := ⟨h.st_.same s, h.p.same s, h.b.trans (s.but2 st D)⟩
theorem Lay.but {Hs H H' : Hp} {st D : Addr} {qs ns : List Str} (h : Lay Hs H st D qs ns) (s : SameBut st H H') (hs : StAt H' st) : Lay Hs H' st D qs ns := ⟨hs, h.p.but s h.st_, h.b.trans (s.but2 D)⟩
theorem Lay.draw {Hs H : Hp} {st D : Addr} {qs ns : List Str} (h : Lay Hs H st D qs ns) {n z : Int} (h0 : 0 ≤ n) (h1 : 0 ≤ z) (h2 : z < 2147483629) : Lay Hs (upd H st (.lst [.int n, .int z])) st D qs ns := h.but SameBut.set ⟨n, z, upd_same, h0, h1, h2⟩
theorem Lay.l {Hs H : Hp} {st D : Addr} {qs ns : List Str} (h : Lay Hs H st D qs ns) (hs : StAt Hs st) (hd : ∃ kvs, Hs D = some (.dK kvs)) {p : Addr} {zs : List Str} (hp : Hs p = some (lstO zs)) : H p = some (lstO zs) := by
  obtain ⟨kvs, e⟩ := hd
  exact h.b _ _ hp (ne_st hs hp) (ne_of hp e (by intro z; cases z))
theorem Lay.nD {Hs H : Hp} {st D : Addr} {qs ns : List Str} (h : Lay Hs H st D qs ns) : st ≠ D := by
  obtain ⟨kvs, e⟩ := h.p.dk
  obtain ⟨n, z, e2, _⟩ := h.st_
  intro y
  rw [← y, e2] at e
  cases e
theorem Lay.put {Hs H : Hp} {st D p : Addr} {qs ns row : List Str} {a : Str} (h : Lay Hs H st D qs ns) (ha : a ∉ qs) (hp : H p = some (lstO row)) (g : GRow ns a row) :
    ∃ kvs, H D = some (.dK kvs) ∧ kvs.length = qs.length ∧ Lay Hs (upd H D (.dK (putK kvs (Sum.inr a) (.ref p)))) st D (qs ++ [a]) ns := by
  obtain ⟨kvs, h1, h2, h3⟩ := h.p.put ha hp g
  have nD := h.nD
  refine ⟨kvs, h1, h2, ?_, h3, h.b.trans But2.setD⟩
  obtain ⟨n, z, e, r⟩ := h.st_
  exact ⟨n, z, by rw [upd_ne nD]; exact e, r⟩
theorem Lay.reput {Hs H : Hp} {st D p : Addr} {qs ns row : List Str} {a : Str} (h : Lay Hs H st D qs ns) (hn : qs.Nodup) (ha : a ∈ qs) (hp : H p = some (lstO row)) (g : GRow ns a row) :
    ∃ kvs, H D = some (.dK kvs) ∧ kvs.length = qs.length ∧ Lay Hs (upd H D (.dK (putK kvs (Sum.inr a) (.ref p)))) st D qs ns := by
  obtain ⟨kvs, h1, h2, h3⟩ := h.p.reput hn ha hp g
  have nD := h.nD
  refine ⟨kvs, h1, h2, ?_, h3, h.b.trans But2.setD⟩
  obtain ⟨n, z, e, r⟩ := h.st_
  exact ⟨n, z, by rw [upd_ne nD]; exact e, r⟩
end
end Qp
/-! x in o, o[i], where o is an instance of a class that defs __contains__, __getitem__ -/
namespace L2
open PySem PySem.Spec PyProof.Rows
section
variable {X : Cx} {k : Nat} {f C : Addr} {fd : FuncData} {ps : List Str} {sp : Sp}
theorem run_fnAt {A' : Around} {pins : List (Addr × Obj)} {σ : St} {H : Hp} {s : Shared} {Q : VK} {us : List Value} {vs : List V} (he : Env0 X.prog X.w X.K X.mg X.base A' X.stack s H) (F : FnOk X.prog X.w X.K X.mg X.base CX0 k f fd ps sp) (hr : Room k A') (hb : Binds X.K fd ps [])
    (I : Inv X pins σ H s) (r : Vals vs us) (h : sp vs H Q E0) : wpAny (model X.prog X.w) A' (call (.ref f) us) (EP X pins σ Q) X.xe s := by
  have hl : (us ++ []).length = ps.length := by rw [List.append_nil, ← r.length]; exact F.len _ _ _ _ h
  have hb' := hb s us I.kIn hl
  rw [List.append_nil] at hb'
  refine wpAny_call (codeAny_mono (F.run A' X.stack s H ⟨us, []⟩ us vs Q E0 hr he hb' r h) fun r s' hq => ?_)
  cases r with
  | error e => exact False.elim hq
  | ok fl =>
    cases fl with
    | ret u => exact I.after hq
    | next => exact False.elim hq
    | brk => exact False.elim hq
    | cont => exact False.elim hq
/-- x in o -/
def rInO (C : Addr) (sp : Sp) (neg : Bool) : R2 := fun x y H Q => ∃ a dx fs, y = .ref a ∧ H a = some (.ins C dx fs) ∧ sp [y, x] H (fun v H' => ∃ b : Bool, v = .bl b ∧ Q (.bl (if neg = true then !b else b)) H') E0
theorem contains_own {pins : List (Addr × Obj)} {σ : St} {H : Hp} {s : Shared} {x : V} {v : Value} {a dx : Addr} {fs : List (Str × V)} {R : Bool → Shared → Prop} (hm : Meth X.K C "__contains__" f) (F : FnOk X.prog X.w X.K X.mg X.base CX0 k f fd ps sp) (hr : Room k X.A) (hb : Binds X.K fd ps [])
    (I : Inv X pins σ H s) (rx : RelV x v) (ha : H a = some (.ins C dx fs)) (Qb : Bool → Hp → Prop) (h : sp [.ref a, x] H (fun v H' => ∃ b : Bool, v = .bl b ∧ Qb b H') E0)
    (hq : ∀ b H' s', Inv X pins σ H' s' → Qb b H' → R b s') : wpAny (model X.prog X.w) X.A (contains (.ref a) v) R X.xe s := by
  obtain ⟨mA, O, _, _, _, _⟩ := ins_get I.hok ha
  obtain ⟨od, J, _⟩ := O.look
  unfold contains
  refine wpAny_holding (wpAny_bind (wpAny_bind (J.type.here ((PySem.W.looks_findIn I.kIn hm.at_).here ?_))))
  rw [if_neg (by simp)]
  refine wpAny_bind (PySem.W.unlessNone_K I.kIn J hm.at_ hm.fn (thn (run_fnAt I.env0 F hr hb I (vs := [V.ref a, x]) (.cons rfl (.cons rx .nil)) h) fun u s1 hu => ?_))
  obtain ⟨y, H1, I1, ry, b, rfl, q⟩ := hu
  cases ry
  exact wpAny_truthy_bool (hq b H1 s1 I1 q)
theorem op_inO (hm : Meth X.K C "__contains__" f) (F : FnOk X.prog X.w X.K X.mg X.base CX0 k f fd ps sp) (hr : Room k X.A) (hb : Binds X.K fd ps []) : OpR X (compareOp .In) (rInO C sp false) := by
  intro pins s σ H x y v u Q I rx ry h
  obtain ⟨a, dx, fs, rfl, ha, h⟩ := h
  cases ry
  exact wpAny_bind (contains_own hm F hr hb I rx ha (fun b H' => Q (.bl b) H') h fun b H' s' I' q => wpAny_pure ⟨.bl b, H', I', rfl, q⟩)
theorem op_notInO (hm : Meth X.K C "__contains__" f) (F : FnOk X.prog X.w X.K X.mg X.base CX0 k f fd ps sp) (hr : Room k X.A) (hb : Binds X.K fd ps []) : OpR X (compareOp .NotIn) (rInO C sp true) := by
  intro pins s σ H x y v u Q I rx ry h
  obtain ⟨a, dx, fs, rfl, ha, h⟩ := h
  cases ry
  exact wpAny_bind (contains_own hm F hr hb I rx ha (fun b H' => Q (.bl (!b)) H') h fun b H' s' I' q => wpAny_pure ⟨.bl (!b), H', I', rfl, q⟩)
/-- o[i] -/
def rIxO (C : Addr) (sp : Sp) : R2 := fun x y H Q => ∃ a dx fs, x = .ref a ∧ H a = some (.ins C dx fs) ∧ sp [x, y] H Q E0
theorem pe_ixO {a b : Expr} {ta tb : TE} {pos : Pos} (hm : Meth X.K C "__getitem__" f) (hfn : PySem.W.fnIn X.K f = true) (F : FnOk X.prog X.w X.K X.mg X.base CX0 k f fd ps sp) (hr : Room (k + 1) X.A) (hbd : Binds X.K fd ps []) (ha : PE X a ta) (hb : PE X b tb)
    (hsl : ∀ v u, subscripted b true v u = runValue (.builtin "lifetime.subscript" ⟨[v, u], []⟩) := by intros; rfl) : PE X (.Subscript a b pos) (tOp (rIxO C sp) ta tb) := by
  refine ⟨fun pins s σ H Q I h => ?_⟩
  refine Subscript_ (binT ha hb I h fun v u s2 x y H2 I2 rx ry q => ?_)
  obtain ⟨o, dx, fs, rfl, ho, q⟩ := q
  cases rx
  obtain ⟨mA, O, _, _, _, _⟩ := ins_get I2.hok ho
  obtain ⟨od, J, _⟩ := O.look
  have XK := I2.kIn
  unfold PySem.W.fnIn at hfn
  split at hfn
  · rename_i e
    unfold subscriptTail getitemInPython
    refine wpAny_bind (wpAny_bind (wpAny_bind (J.type.here ((PySem.W.looks_findIn XK hm.at_).here ?_))))
    dsimp only
    refine wpAny_bind (wpAny_load (XK _ _ e) (wpAny_pure ?_))
    dsimp only
    rw [hsl]
    refine wpAny_bind (wpAny_runValue (codeAny_builtin PySem.W.entry_sub ?_))
    unfold Builtin.«lifetime.subscript»
    refine wpAny_bind (PySem.W.special_fn XK J hm.at_ (beq_iff_eq.mp hm.fn) (thn (run_fnAt I2.env0.in1 F hr.in1 hbd I2 (vs := [V.ref o, y]) (.cons rfl (.cons ry .nil)) q) fun v s' z => ?_))
    refine wpAny_pure ?_
    show wpAny (model X.prog X.w) X.A (letTemporaryGo a (.ref o) v >>= fun _ => pure v) (EP X pins σ Q) X.xe s'
    exact wpAny_bind (wpAny_letTemporaryGo (wpAny_pure z))
  · cases hfn
end
end L2
/-! len(o), for x in o, where o is an instance of a class that defs __len__, and __iter__ that hands iter(a tuple) -/
namespace L2
open PySem PySem.Spec PyProof.Rows
section
variable {X : Cx} {k : Nat} {f C : Addr} {fd : FuncData} {ps : List Str} {sp : Sp}
/-- len(o) -/
def rLenO (C : Addr) (sp : Sp) : List V → Hp → VK → Prop := fun xs H Q => ∃ a dx fs, xs = [.ref a] ∧ H a = some (.ins C dx fs) ∧ sp [.ref a] H (fun v H' => ∃ n : Int, v = .int n ∧ 0 ≤ n ∧ n < 2 ^ 63 ∧ Q (.int n) H') E0
theorem call_lenO (hm : Meth X.K C "__len__" f) (F : FnOk X.prog X.w X.K X.mg X.base CX0 k f fd ps sp) (hr : Room (k + 1) X.A) (hb : Binds X.K fd ps []) : CallR X (.builtin "len") (rLenO C sp) := by
  intro pins s σ H xs us Q I r h
  obtain ⟨a, dx, fs, rfl, ha, h⟩ := h
  obtain ⟨u, rfl, ru⟩ := vals1 r
  cases ru
  obtain ⟨mA, J, _⟩ := ins_get I.hok ha
  obtain ⟨od, J, _⟩ := J.look
  obtain ⟨m, hF⟩ := I.fr
  refine PySem.W.len_K hF I.ok.mod.kin J hm.at_ hm.fn (thn (run_fnAt I.env0.in1 F hr.in1 hb I (vs := [V.ref a]) (.cons rfl .nil) h) fun v s1 hv => ?_)
  obtain ⟨z, H1, I1, rz, n, rfl, h0, h1, q⟩ := hv
  obtain ⟨t, ev⟩ := (show ∃ t, v = Value.int n t from rz)
  subst ev
  exact ⟨⟨h0, h1⟩, ⟨.int n, H1, I1.tok _, ⟨_, rfl⟩, q⟩⟩
/-! ### iter(t) -/
/-- at it an iterator over the tuple at t, at its start -/
def ItT (t it : Addr) : HO := .ext fun h => h.get? it = some { cls := .type "tuple_iterator", data := .fields #[.ref t, .int 0 0] }
theorem itT_ok {P : Program} {w : World} {H : Hp} {h : Heap} {t it : Addr} (e : h.get? it = some { cls := .type "tuple_iterator", data := .fields #[.ref t, .int 0 0] }) : ObjOk P w H h it (ItT t it) := ⟨e, ⟨_, e⟩, fun h1 h2 q k => k _ q⟩
def rIterT (K : PySem.W.Frag) : List V → Hp → VK → Prop := fun xs H Q => ∃ (t : Addr) (zs : List V), xs = [.ref t] ∧ SqT K H t zs ∧ ∀ it, H it = none → (∀ b o, H b = some o → b < it) → Q (.ref it) (upd H it (ItT t it))
theorem call_iterT : CallR X (.builtin "iter") (rIterT X.K) := by
  intro pins s σ H xs us Q I r h
  obtain ⟨t, zs, rfl, hq, q⟩ := h
  obtain rfl := Vals.ref1 r
  obtain ⟨its, rv, pl, hz⟩ := I.tuple hq
  refine Calls.call_function_entry (by decide +kernel) (by decide +kernel) PySem.W.kdk_entry_iter (PySem.W.kdk_args_iter _) ?_
  unfold Builtin.«iter»
  refine wpAny_bind (m := PySem.someArgs "iter" 1 2 _) (wpAny_of_eq (a := [Value.ref t]) (by first | rfl | kernel_rfl!) ?_)
  show wpAny _ _ (pyIter (.ref t) >>= _) _ _ _
  refine wpAny_bind (wpAny_pyIter_tuple (show s.heap.IsTuple t its.toArray from pl) ?_)
  refine wpAny_pure ⟨_, rfl, ?_⟩
  exact ⟨.ref s.heap.objs.size, _, I.laid (t' := s.toks) (fun b u e => Heap.get?_push_of_some _ e) (Nat.le_refl _) (itT_ok (Heap.get?_push_size _ rfl)), rfl, q _ (I.hok.fresh (Nat.le_refl _)) fun b o e => Nat.lt_of_not_le fun z => by
    rw [I.hok.fresh z] at e
    cases e⟩
/-! ### for x in o -/
def iOwn (K : PySem.W.Frag) (n : Nat) (C : Addr) (sp : Sp) (te : TE) : TI := fun σ H R => te σ H fun x H1 => ∃ a dx fs, x = .ref a ∧ H1 a = some (.ins C dx fs) ∧ sp [.ref a] H1 (fun v H2 => ∃ it t, v = .ref it ∧ n ≤ it ∧ H2 it = some (ItT t it) ∧ R (Itt K t) (ItX.dropH H2 it)) E0
theorem pi_own {tg e : Expr} {te : TE} (hm : Meth X.K C "__iter__" f) (F : FnOk X.prog X.w X.K X.mg X.base CX0 k f fd ps sp) (hr : Room k X.A) (hb : Binds X.K fd ps []) (he : PE X e te) : PI X tg e (iOwn X.K X.s_0.heap.objs.size C sp te) := by
  refine ⟨fun pins s σ H R I h => ?_⟩
  refine thn (he.run pins s σ H _ I h) fun u s1 ⟨x, H1, I1, rx, a, dx, fs, ex, ha, h⟩ => ?_
  subst ex
  cases rx
  obtain ⟨mA, J, _⟩ := ins_get I1.hok ha
  obtain ⟨od, J, _⟩ := J.look
  obtain ⟨m, hF⟩ := I1.fr
  refine PySem.W.owit_iter hF I1.ok.mod.kin J hm.at_ hm.fn ?_
  have hl : ([Value.ref a] ++ []).length = ps.length := by
    have := F.len _ _ _ _ h
    simpa using this
  have hb' := hb s1 [Value.ref a] I1.kIn hl
  rw [List.append_nil] at hb'
  refine wpAny_call (codeAny_mono (F.run X.A X.stack s1 H1 ⟨[Value.ref a], []⟩ [Value.ref a] [V.ref a] _ E0 hr I1.env0 hb' (.cons rfl .nil) h) fun r s' hq => ?_)
  cases r with
  | error e => exact False.elim hq
  | ok fl =>
    cases fl with
    | next => exact False.elim hq
    | brk => exact False.elim hq
    | cont => exact False.elim hq
    | ret v =>
      obtain ⟨z, H2, os, bare, un, hok, rz, it, t, ez, new, hi, hR⟩ := hq
      subst ez
      cases rz
      have I2 : Inv X pins σ H2 s' := I1.call' os un hok bare (fun b z => absurd z (by simp))
      have st : s'.heap.get? it = some { cls := .type "tuple_iterator", data := .fields #[.ref t, .int 0 0] } := (I2.hok it _ hi).1
      have stt : s'.heap.IsTupleIter it t 0 := ⟨_, st, rfl, rfl⟩
      unfold PySem.W.OwitIt
      refine wpAny_specialOf (name := "__next__") (show s'.TypeIs (.ref it) "tuple_iterator" from ⟨_, st, rfl⟩) PySem.F.slot_tuple_iterator_next.lookup ?_
      refine ⟨it, [it], _, _, ItX.dropH H2 it, rfl, ItX.inv_drop I2 hi, turn_tuple t it, stt, fun b hb => ?_, hR⟩
      have e : b = it := by simpa using hb
      rw [e]
      exact ItX.inv_fp I2 hi new
/-- a new list [], younger than the frame -/
def tLstN (n : Nat) : TE := fun _ H Q => ∀ p, H p = none → n ≤ p → Q (.ref p) (upd H p (.lst []))
theorem pe_lstN {pos : Pos} : PE X (.List [] pos) (tLstN X.s_0.heap.objs.size) := by
  refine ⟨fun pins s σ H Q I hq => ?_⟩
  have none0 : tNil σ H fun xs H1 => xs = [] ∧ H1 = H := ⟨rfl, rfl⟩
  refine wpAny_List_spliced (thn ((pa_nil (X := X)).run pos pins s σ H _ I none0) fun us sN hN => ?_)
  obtain ⟨xs, H1, IN, r, e1, e2⟩ := hN
  subst e1 e2
  have el : us.length = 0 := r.length.symm
  refine ⟨by rw [el]; exact Nat.zero_le _, ?_⟩
  have laid := IN.laid (t' := sN.toks) (h' := sN.heap.push { cls := .type "list", data := .seq us.toArray 0 }) (o := .lst []) (fun b u e => Heap.get?_push_of_some _ e) (Nat.le_refl _) ⟨Nat.zero_le _, us, 0, r, Heap.get?_push_size _ rfl⟩
  exact ⟨.ref sN.heap.objs.size, _, laid, rfl, hq _ (IN.hok.fresh (Nat.le_refl _)) IN.sz⟩
end
end L2
namespace Qp
open PySem L2
/-- wishes that are being laid, each row a list of its own -/
def PartI (Hb H : Hp) (D : Addr) (qs ns : List Str) : Prop := ∃ (ws : Str → List Str) (ad : Str → Addr), H D = some (.dK (qs.map fun a => ((Sum.inr a : Key), V.ref (ad a)))) ∧ (∀ a ∈ qs, H (ad a) = some (lstO (ws a)) ∧ ad a ≠ D) ∧ (∀ a ∈ qs, GRow ns a (ws a)) ∧ (∀ a ∈ qs, ∀ b ∈ qs, ad a = ad b → a = b) ∧ ∀ a ∈ qs, Hb (ad a) = none
theorem PartI.part {Hb H : Hp} {D : Addr} {qs ns : List Str} (h : PartI Hb H D qs ns) : Part H D qs ns := by
  obtain ⟨ws, ad, e, r, g, _, _⟩ := h
  exact ⟨ws, ⟨ad, e, r⟩, g⟩
theorem PartI.new {Hb H : Hp} {D : Addr} {ns : List Str} (h : H D = some (.dK [])) : PartI Hb H D [] ns := ⟨fun _ => [], fun _ => 0, h, (fun _ h => by cases h), (fun _ h => by cases h), (fun _ h => by cases h), fun _ h => by cases h⟩
theorem PartI.same {Hb H H' : Hp} (s : Same H H') {D : Addr} {qs ns : List Str} (h : PartI Hb H D qs ns) : PartI Hb H' D qs ns := by
  obtain ⟨ws, ad, e, r, g, j, o⟩ := h
  exact ⟨ws, ad, s _ _ e, fun a ha => ⟨s _ _ (r a ha).1, (r a ha).2⟩, g, j, o⟩
theorem PartI.but {st : Addr} {Hb H H' : Hp} (s : SameBut st H H') (hs : StAt H st) {D : Addr} {qs ns : List Str} (h : PartI Hb H D qs ns) : PartI Hb H' D qs ns := by
  obtain ⟨ws, ad, e, r, g, j, o⟩ := h
  obtain ⟨n, z, es, _⟩ := id hs
  exact ⟨ws, ad, s _ _ (ne_of e es (by intro y; cases y)) e, fun a ha => ⟨s _ _ (ne_st hs (r a ha).1) (r a ha).1, (r a ha).2⟩, g, j, o⟩
/-- a new row -/
theorem PartI.put {Hb H H' : Hp} {D p : Addr} {qs ns row : List Str} {a : Str} (h : PartI Hb H D qs ns) (s : Same H H') (hn : H p = none) (hb : Hb p = none) (ha : a ∉ qs) (hp : H' p = some (lstO row)) (g : GRow ns a row) :
    ∃ kvs, H' D = some (.dK kvs) ∧ kvs.length = qs.length ∧ PartI Hb (upd H' D (.dK (putK kvs (Sum.inr a) (.ref p)))) D (qs ++ [a]) ns := by
  obtain ⟨ws, ad, e, r, gw, j, o⟩ := h
  have npd : p ≠ D := fun z => by rw [z, e] at hn; cases hn
  have nrow : ∀ x ∈ qs, ad x ≠ p := fun x hx z => by rw [← z, (r x hx).1] at hn; cases hn
  have ne : ∀ x ∈ qs, x ≠ a := fun x hx z => ha (z ▸ hx)
  have sp : ∀ x ∈ qs ++ [a], x ∈ qs ∨ x = a := fun x hx => by
    rcases List.mem_append.mp hx with z | z
    · exact .inl z
    · exact .inr (by simpa using z)
  refine ⟨_, s _ _ e, by rw [List.length_map], fun x => if x = a then row else ws x, fun x => if x = a then p else ad x, ?_, fun x hx => ?_, fun x hx => ?_, fun x hx y hy => ?_, fun x hx => ?_⟩
  · rw [upd_same, putK_new _ (valV_rows_none ha), List.map_append]
    have e1 : (qs.map fun x => ((Sum.inr x : Key), V.ref (if x = a then p else ad x))) = qs.map fun x => (Sum.inr x, V.ref (ad x)) := by
      refine List.map_congr_left fun x hx => ?_
      rw [if_neg (ne x hx)]
    rw [e1]
    simp
  · show upd H' D _ (if x = a then p else ad x) = some (lstO (if x = a then row else ws x)) ∧ (if x = a then p else ad x) ≠ D
    rcases sp x hx with z | rfl
    · rw [if_neg (ne x z), if_neg (ne x z), upd_ne (r x z).2]
      exact ⟨s _ _ (r x z).1, (r x z).2⟩
    · rw [if_pos rfl, if_pos rfl, upd_ne npd]
      exact ⟨hp, npd⟩
  · show GRow ns x (if x = a then row else ws x)
    rcases sp x hx with z | rfl
    · rw [if_neg (ne x z)]
      exact gw x z
    · rw [if_pos rfl]
      exact g
  · show (if x = a then p else ad x) = (if y = a then p else ad y) → x = y
    rcases sp x hx with z | rfl
    · rw [if_neg (ne x z)]
      rcases sp y hy with u | rfl
      · rw [if_neg (ne y u)]
        exact j x z y u
      · rw [if_pos rfl]
        exact fun e => absurd e (nrow x z)
    · rw [if_pos rfl]
      rcases sp y hy with u | rfl
      · rw [if_neg (ne y u)]
        exact fun e => absurd e.symm (nrow y u)
      · exact fun _ => rfl
  · show Hb (if x = a then p else ad x) = none
    rcases sp x hx with z | rfl
    · rw [if_neg (ne x z)]
      exact o x z
    · rw [if_pos rfl]
      exact hb
theorem PartI.base {Hb Hc H : Hp} {D : Addr} {qs ns : List Str} (h : PartI Hb H D qs ns) (k : ∀ b, Hb b = none → Hc b = none) : PartI Hc H D qs ns := by
  obtain ⟨ws, ad, e, r, g, j, o⟩ := h
  exact ⟨ws, ad, e, r, g, j, fun a ha => k _ (o a ha)⟩
/-- another row, a new list -/
theorem PartI.reput {Hb H' : Hp} {D p : Addr} {qs ns row : List Str} {a : Str} (h : PartI Hb H' D qs ns) (hb : Hb p = none) (ha : a ∈ qs) (nrow : ∀ (ad : Str → Addr), H' D = some (.dK (qs.map fun a => ((Sum.inr a : Key), V.ref (ad a)))) → ∀ x ∈ qs, ad x ≠ p) (hp : H' p = some (lstO row)) (g : GRow ns a row) :
    ∃ kvs, H' D = some (.dK kvs) ∧ kvs.length = qs.length ∧ PartI Hb (upd H' D (.dK (putK kvs (Sum.inr a) (.ref p)))) D qs ns := by
  obtain ⟨ws, ad, e, r, gw, j, o⟩ := h
  have npd : p ≠ D := fun z => by rw [z, e] at hp; cases hp
  have nrow := nrow ad e
  refine ⟨_, e, by rw [List.length_map], fun x => if x = a then row else ws x, fun x => if x = a then p else ad x, ?_, fun x hx => ?_, fun x hx => ?_, fun x hx y hy => ?_, fun x hx => ?_⟩
  · rw [upd_same, putK_old ha]
  · show upd H' D _ (if x = a then p else ad x) = some (lstO (if x = a then row else ws x)) ∧ (if x = a then p else ad x) ≠ D
    by_cases z : x = a
    · rw [if_pos z, if_pos z, upd_ne npd]
      exact ⟨hp, npd⟩
    · rw [if_neg z, if_neg z, upd_ne (r x hx).2]
      exact ⟨(r x hx).1, (r x hx).2⟩
  · show GRow ns x (if x = a then row else ws x)
    by_cases z : x = a
    · rw [if_pos z, z]
      exact g
    · rw [if_neg z]
      exact gw x hx
  · show (if x = a then p else ad x) = (if y = a then p else ad y) → x = y
    by_cases z : x = a
    · rw [if_pos z]
      by_cases u : y = a
      · exact fun _ => z.trans u.symm
      · rw [if_neg u]
        exact fun e => absurd e.symm (nrow y hy)
    · rw [if_neg z]
      by_cases u : y = a
      · rw [if_pos u]
        exact fun e => absurd e (nrow x hx)
      · rw [if_neg u]
        exact j x hx y hy
  · show Hb (if x = a then p else ad x) = none
    by_cases z : x = a
    · rw [if_pos z]
      exact hb
    · rw [if_neg z]
      exact o x hx
structure LayI (Hs H : Hp) (st D : Addr) (qs ns : List Str) : Prop where
  st_ : StAt H st
  p : PartI Hs H D qs ns
  b : But2 st D Hs H
theorem LayI.lay {Hs H : Hp} {st D : Addr} {qs ns : List Str} (h : LayI Hs H st D qs ns) : Lay Hs H st D qs ns := ⟨h.st_, h.p.part, h.b⟩
theorem LayI.same {Hs H H' : Hp} {st D : Addr} {qs ns : List Str} (h : LayI Hs H st D qs ns) (s : Same H H') : LayI Hs H' st D qs ns := ⟨h.st_.same s, h.p.same s, h.b.trans (s.but2 st D)⟩
theorem LayI.but {Hs H H' : Hp} {st D : Addr} {qs ns : List Str} (h : LayI Hs H st D qs ns) (s : SameBut st H H') (hs : StAt H' st) : LayI Hs H' st D qs ns := ⟨hs, h.p.but s h.st_, h.b.trans (s.but2 D)⟩
theorem LayI.l {Hs H : Hp} {st D : Addr} {qs ns : List Str} (h : LayI Hs H st D qs ns) (hs : StAt Hs st) (hd : ∃ kvs, Hs D = some (.dK kvs)) {p : Addr} {zs : List Str} (hp : Hs p = some (lstO zs)) : H p = some (lstO zs) := h.lay.l hs hd hp
theorem LayI.off {Hs H : Hp} {st D p : Addr} {qs ns : List Str} (h : LayI Hs H st D qs ns) (hn : H p = none) : Hs p = none := by
  cases e : Hs p with
  | none => rfl
  | some o =>
    obtain ⟨n, z, es, _⟩ := h.st_
    obtain ⟨kvs, ed⟩ := h.p.part.dk
    have := h.b _ _ e (fun y => by rw [y, es] at hn; cases hn) (fun y => by rw [y, ed] at hn; cases hn)
    rw [this] at hn
    cases hn
theorem LayI.put {Hs H H' : Hp} {st D p : Addr} {qs ns row : List Str} {a : Str} (h : LayI Hs H st D qs ns) (s : Same H H') (hn : H p = none) (ha : a ∉ qs) (hp : H' p = some (lstO row)) (g : GRow ns a row) :
    ∃ kvs, H' D = some (.dK kvs) ∧ kvs.length = qs.length ∧ LayI Hs (upd H' D (.dK (putK kvs (Sum.inr a) (.ref p)))) st D (qs ++ [a]) ns := by
  obtain ⟨kvs, h1, h2, h3⟩ := h.p.put s hn (h.off hn) ha hp g
  have h' := h.same s
  have nD := h'.lay.nD
  refine ⟨kvs, h1, h2, ?_, h3, h'.b.trans But2.setD⟩
  obtain ⟨n, z, e, r⟩ := h'.st_
  exact ⟨n, z, by rw [upd_ne nD]; exact e, r⟩
theorem LayI.reput {Hs H H' : Hp} {st D p : Addr} {qs ns row : List Str} {a : Str} (h : LayI Hs H st D qs ns) (sb : SameBut st H H') (hs : StAt H' st) (hn : H p = none) (ha : a ∈ qs) (hp : H' p = some (lstO row)) (g : GRow ns a row) :
    ∃ kvs, H' D = some (.dK kvs) ∧ kvs.length = qs.length ∧ LayI Hs (upd H' D (.dK (putK kvs (Sum.inr a) (.ref p)))) st D qs ns := by
  have h' := h.but sb hs
  have nD := h'.lay.nD
  obtain ⟨ws0, ad0, e0, r0, _⟩ := id h.p
  obtain ⟨n0, z0, es0, _⟩ := id h.st_
  have e0' := sb _ _ (ne_of e0 es0 (by intro y; cases y)) e0
  obtain ⟨kvs, h1, h2, h3⟩ := h'.p.reput (h.off hn) ha (fun ad e x hx z => by
    rw [e0'] at e
    have e := HO.dK.inj (Option.some.inj e)
    have e1 := List.map_inj_left.mp e x hx
    have e2 : ad0 x = ad x := V.ref.inj (Prod.mk.inj e1).2
    rw [← z, ← e2, (r0 x hx).1] at hn
    cases hn) hp g
  refine ⟨kvs, h1, h2, ?_, h3, h'.b.trans But2.setD⟩
  obtain ⟨n, z, e, r⟩ := h'.st_
  exact ⟨n, z, by rw [upd_ne nD]; exact e, r⟩
section
variable {P : Program} {w : World} {K : PySem.W.Frag} {mg : Str → Option Value} {base : Heap}
/-- the same, each row a list of its own -/
def spWshI : Sp := fun vs H Q _ => ∃ (st it : Addr) (ns : List Str), vs = [.ref st, .ref it] ∧ StAt H st ∧ H it = some (lstO ns) ∧ ns.Nodup ∧ ns.length ≤ 100 ∧
  ∀ (D : Addr) (H' : Hp), H D = none → SameBut st H H' → StAt H' st → (∃ order, order.Perm ns ∧ PartI H H' D order ns) → Q (.ref D) H'
end
end Qp
namespace L2
open PySem PySem.Spec PyProof.Rows
theorem op_notInSK {X : Cx} {K : PySem.W.Frag} (hK : X.K = K) (hu : X.A.units + 64 < cLine) : OpR X (compareOp .NotIn) (rInS K true) := by
  subst hK
  exact op_notInS hu
end L2
namespace Qp
open PySem L2
theorem two_sub {l : List Str} {x y : Str} (h : 1 < l.length) (hx : l[0]? = some x) (hy : l[l.length - 1]? = some y) : [x, y].Sublist l := by
  cases l with
  | nil => cases hx
  | cons a r =>
    have e : a = x := Option.some.inj hx
    subst e
    refine List.Sublist.cons_cons _ (List.singleton_sublist.mpr ?_)
    have hr : 0 < r.length := by simp only [List.length_cons] at h; omega
    rw [show (a :: r).length - 1 = (r.length - 1) + 1 by simp only [List.length_cons]; omega, List.getElem?_cons_succ] at hy
    exact List.mem_of_getElem? hy
theorem atI_last {l : List Str} {y : Str} (h0 : 0 < l.length) (hy : l[l.length - 1]? = some y) : atI (l.map V.str) (-1) = some (.str y) := by
  unfold atI ixN
  rw [if_neg (by decide), if_pos (by rw [List.length_map]; omega)]
  show (l.map V.str)[((-1 : Int) + (((l.map V.str).length : Nat) : Int)).toNat]? = some (.str y)
  rw [List.length_map, show ((-1 : Int) + ((l.length : Nat) : Int)).toNat = l.length - 1 by omega, List.getElem?_map, hy]
  rfl
structure BkF (block ns qs : List Str) (k : Nat) (a : Str) : Prop where
  at_ : block[k]? = some a
  nd : block.Nodup
  sub : ∀ z ∈ block, z ∈ ns
  len : block.length ≤ 100
  lenn : ns.length ≤ 100
  ndn : ns.Nodup
  na : a ∉ qs
  lenq : qs.length ≤ 1000
structure BkH (Hs : Hp) (st D Ba it : Addr) (block ns : List Str) : Prop where
  s : StAt Hs st
  d : ∃ kvs, Hs D = some (.dK kvs)
  b : Hs Ba = some (lstO block)
  i : Hs it = some (lstO ns)
def bkS (st it O D : Addr) (v4 v5 v6 : Option V) (Ba : Addr) (k : Nat) (v9 v10 v11 : Option V) : St := [some (.ref st), some (.ref it), some (.ref O), some (.ref D), v4, v5, v6, some (.ref Ba), some (.int k), v9, v10, v11, none]
def BkN (st it O D : Addr) (v4 v5 v6 : Option V) (Ba : Addr) (k : Nat) (a : Str) (qs ns : List Str) (Hs : Hp) (Dn : Ends) : Prop := ∀ (H : Hp) (v9 v10 v11 : Option V), Lay Hs H st D (qs ++ [a]) ns → Dn.nx (bkS st it O D v4 v5 v6 Ba k v9 v10 v11) H
def BkI (st it O D : Addr) (v4 v5 v6 : Option V) (Ba : Addr) (k : Nat) (a : Str) (qs ns : List Str) (Hs : Hp) (Dn : Ends) (t : TS) : Prop := ∀ (H : Hp) (v9 : Option V) (h tl : Addr) (hs ts : List Str), Lay Hs H st D qs ns → H h = some (lstO hs) → H tl = some (lstO ts) → GRow ns a (hs ++ ts) → t Dn (bkS st it O D v4 v5 v6 Ba k v9 (some (.ref h)) (some (.ref tl))) H
def BkJ (st it O D : Addr) (v4 v5 v6 : Option V) (Ba : Addr) (k : Nat) (a : Str) (qs ns : List Str) (Hs : Hp) (Dn : Ends) (t : TS) : Prop := ∀ (H : Hp) (v9 v11 : Option V) (h : Addr) (hs : List Str), Lay Hs H st D qs ns → H h = some (lstO hs) → GRow ns a hs → t Dn (bkS st it O D v4 v5 v6 Ba k v9 (some (.ref h)) v11) H
abbrev nBlock : List Str := ["_law_state", "_law_names_here", "_law_order", "_law_wishes", "_law_at", "_law_turn", "_law_size", "_law_block", "_law_k", "_law_ring", "_law_head", "_law_tail", "_law_b"]
section
variable {P : Program} {w : World} {K : PySem.W.Frag} {mg : Str → Option Value} {base : Heap}
section
variable {f : Addr} {cdv : Value} {A : Around} {outer : List Env} {s : Shared} {H0 : Hp} {E0' : XK}
end
end
end Qp
namespace Qp
open PySem L2
theorem cut_lstM {H : Hp} {L : Addr} {zs : List Str} {i j : Nat} : (upd H L (.lst (cutV (zs.map V.str) (some (i : Int)) (some ((i + j : Nat) : Int))))) L = some (lstO ((zs.drop i).take j)) := by
  rw [upd_same, cut_mid]
  unfold lstO
  rw [List.map_take, List.map_drop]
section
variable {P : Program} {w : World} {K : PySem.W.Frag} {mg : Str → Option Value} {base : Heap}
/-- _law_group(state, top) -/
def spGroup : Sp := fun vs H Q _ => ∃ (st : Addr) (m : Int), vs = [.ref st, .int m] ∧ 0 ≤ m ∧ m ≤ 20 ∧ StAt H st ∧
  ∀ (T a D : Addr) (ns : List Str) (H' : Hp), H' T = some (.tup [.ref a, .ref D]) → SameBut st H H' → StAt H' st → H a = none → a ≠ st → H' a = some (lstO ns) → ns.Nodup → (∀ z ∈ ns, nameS z = true) → (ns.length : Int) ≤ m → (∃ order, order.Perm ns ∧ Part H' D order ns) → H D = none → Q (.ref T) H'
end
end Qp
namespace Qp
open PySem L2
/-- a row grows by one in its place -/
theorem PartI.grow {Hb H : Hp} {D : Addr} {qs ns : List Str} {a : Str} (h : PartI Hb H D qs ns) (ha : a ∈ qs) : ∃ (p : Addr) (row : List Str) (kvs : List (Key × V)), H D = some (.dK kvs) ∧ valV kvs (Sum.inr a) = some (.ref p) ∧ H p = some (lstO row) ∧ GRow ns a row ∧ Hb p = none ∧
    ∀ row', GRow ns a row' → PartI Hb (upd H p (lstO row')) D qs ns := by
  obtain ⟨ws, ad, e, r, g, j, o⟩ := h
  refine ⟨ad a, ws a, _, e, valV_rows ha, (r a ha).1, g a ha, o a ha, fun row' g' => ?_⟩
  refine ⟨fun x => if x = a then row' else ws x, ad, by rw [upd_ne (Ne.symm (r a ha).2)]; exact e, fun x hx => ?_, fun x hx => ?_, j, o⟩
  · show upd H (ad a) _ (ad x) = some (lstO (if x = a then row' else ws x)) ∧ ad x ≠ D
    by_cases z : x = a
    · rw [if_pos z, z]
      exact ⟨upd_same, (r a ha).2⟩
    · rw [if_neg z, upd_ne (fun e => z (j x hx a ha e))]
      exact r x hx
  · show GRow ns x (if x = a then row' else ws x)
    by_cases z : x = a
    · rw [if_pos z, z]
      exact g'
    · rw [if_neg z]
      exact g x hx
theorem grow_ins {ns row : List Str} {a b : Str} (g : GRow ns a row) (hb : b ∈ ns) (hba : b ≠ a) (hbr : b ∉ row) (i : Nat) : GRow ns a (row.take i ++ [b] ++ row.drop i) := by
  have p : (row.take i ++ [b] ++ row.drop i).Perm (b :: row) := by
    have h := List.perm_middle (a := b) (l₁ := row.take i) (l₂ := row.drop i)
    rw [List.take_append_drop] at h
    rw [List.append_assoc]
    exact h
  refine ⟨p.nodup_iff.mpr (List.nodup_cons.mpr ⟨hbr, g.1⟩), fun c hc => ?_⟩
  rcases List.mem_cons.mp (p.mem_iff.mp hc) with rfl | h
  · exact ⟨hb, hba⟩
  · exact g.2 c h
theorem lstO_ins {row : List Str} {b : Str} {i : Nat} : HO.lst ((row.map V.str).take i ++ [V.str b] ++ (row.map V.str).drop i) = lstO (row.take i ++ [b] ++ row.drop i) := by
  unfold lstO
  rw [List.map_append, List.map_append, List.map_take, List.map_drop]
  rfl
abbrev nNear : List Str := ["_law_state", "_law_names_here", "_law_wishes", "_law_a", "_law_turn", "_law_others_here", "_law_b"]
section
variable {P : Program} {w : World} {K : PySem.W.Frag} {mg : Str → Option Value} {base : Heap}
theorem dg_of {H : Hp} {D : Addr} {kvs : List (Key × V)} {a : Str} {v : V} (e : H D = some (.dK kvs)) (hv : valV kvs (Sum.inr a) = some v) : DGet H D (.str a) (some v) := by
  rw [← hv]
  exact DGet.k (k := Sum.inr a) e
structure NrI (H H' : Hp) (st D : Addr) (order ns : List Str) : Prop where
  s : StAt H' st
  p : PartI H H' D order ns
  b : SameBut st H H'
theorem NrI.same {H H' H2 : Hp} {st D : Addr} {order ns : List Str} (s : Same H' H2) (h : NrI H H' st D order ns) : NrI H H2 st D order ns := ⟨h.s.same s, h.p.same s, h.b.trans (s.but st)⟩
theorem NrI.but {H H' H2 : Hp} {st D : Addr} {order ns : List Str} (s : SameBut st H' H2) (hs : StAt H2 st) (h : NrI H H' st D order ns) : NrI H H2 st D order ns := ⟨hs, h.p.but s h.s, h.b.trans s⟩
theorem NrI.row {H H' : Hp} {st D : Addr} {order ns : List Str} (h : NrI H H' st D order ns) (hs : StAt H st) {a : Str} (ha : a ∈ order) : ∃ (p : Addr) (row : List Str) (kvs : List (Key × V)), H' D = some (.dK kvs) ∧ valV kvs (Sum.inr a) = some (.ref p) ∧ H' p = some (lstO row) ∧ GRow ns a row ∧ p ≠ st ∧ ∀ row', GRow ns a row' → NrI H (upd H' p (lstO row')) st D order ns := by
  obtain ⟨p, row, kvs, h0, h1, h2, h3, h4, h5⟩ := h.p.grow ha
  have np : p ≠ st := ne_st h.s h2
  refine ⟨p, row, kvs, h0, h1, h2, h3, np, fun row' g => ⟨?_, h5 row' g, fun b o nb e => ?_⟩⟩
  · obtain ⟨n, z, e, r⟩ := h.s
    exact ⟨n, z, by rw [upd_ne (Ne.symm np)]; exact e, r⟩
  · rw [upd_ne (fun z => by rw [z, h4] at e; cases e)]
    exact h.b _ _ nb e
end
end Qp
/-! sorted(xs), xs a list of pairs of texts, any number of them -/
namespace QP
open PySem PyProof.Rows Srt SrtO
def lexS (p q : List Nat × List Nat) : Bool := if p.1 = q.1 then decide (p.2 < q.2) else decide (p.1 < q.1)
theorem lexS_no {p q : List Nat × List Nat} : lexS p q = false ↔ (q.1 = p.1 ∧ q.2 ≤ p.2) ∨ (q.1 ≠ p.1 ∧ q.1 ≤ p.1) := by
  unfold lexS
  by_cases e : p.1 = q.1
  · rw [if_pos e, decide_eq_false_iff_not, List.not_lt]
    constructor
    · exact fun h => .inl ⟨e.symm, h⟩
    · rintro (h | h)
      · exact h.2
      · exact absurd e.symm h.1
  · rw [if_neg e, decide_eq_false_iff_not, List.not_lt]
    constructor
    · exact fun h => .inr ⟨fun z => e z.symm, h⟩
    · rintro (h | h)
      · exact absurd h.1.symm e
      · exact h.2
theorem lexS_swo {α : Type} (k : α → List Nat × List Nat) : Swo fun v u => lexS (k v) (k u) := by
  have tr : ∀ x y z : α, lexS (k x) (k y) = false → lexS (k y) (k z) = false → lexS (k x) (k z) = false := fun x y z h1 h2 => by
    rcases lexS_no.mp h1 with ⟨a1, a2⟩ | ⟨a1, a2⟩
    · rcases lexS_no.mp h2 with ⟨b1, b2⟩ | ⟨b1, b2⟩
      · exact lexS_no.mpr (.inl ⟨b1.trans a1, List.le_trans b2 a2⟩)
      · exact lexS_no.mpr (.inr ⟨by rw [← a1]; exact b1, by rw [← a1]; exact b2⟩)
    · rcases lexS_no.mp h2 with ⟨b1, b2⟩ | ⟨b1, b2⟩
      · exact lexS_no.mpr (.inr ⟨by rw [b1]; exact a1, by rw [b1]; exact a2⟩)
      · refine lexS_no.mpr (.inr ⟨fun e => a1 (List.le_antisymm a2 (by rw [← e]; exact b2)), List.le_trans b2 a2⟩)
  refine ⟨fun x y h => ?_, fun x y z h1 h2 => tr z y x h2 h1⟩
  have h : lexS (k x) (k y) = true := h
  unfold lexS at h
  by_cases e : (k x).1 = (k y).1
  · rw [if_pos e] at h
    exact lexS_no.mpr (.inl ⟨e, List.le_of_lt (of_decide_eq_true h)⟩)
  · rw [if_neg e] at h
    exact lexS_no.mpr (.inr ⟨e, List.le_of_lt (of_decide_eq_true h)⟩)
def IsPairS (h : Heap) (v : Value) (p : List Nat × List Nat) : Prop := ∃ a o x t y u n, v = .ref a ∧ h.get? a = some o ∧ o.cls = .type "tuple" ∧ o.data = .seq #[.str x t, .str y u] n ∧ p = (x.cps.toList, y.cps.toList)
theorem IsPairS.keeps {h h' : Heap} {v : Value} {p : List Nat × List Nat} (q : IsPairS h v p) (k : ∀ b o, h.get? b = some o → o.cls = .type "tuple" → h'.get? b = some o) : IsPairS h' v p := by
  obtain ⟨a, o, x, t, y, u, n, e, ho, hc, hd, ep⟩ := q
  exact ⟨a, o, x, t, y, u, n, e, k _ _ ho hc, hc, hd, ep⟩
theorem firstsS {h : Heap} : ∀ {vs : List Value}, (∀ v ∈ vs, ∃ p, IsPairS h v p) → ∃ fs : List Value, PySem.W.KatTups h vs fs ∧ fs.length = vs.length ∧ ∀ f ∈ fs, ∃ x t, f = Value.str x t
  | [], _ => ⟨[], PySem.W.KatTups.nil, rfl, fun _ hm => by simp at hm⟩
  | v :: vs, hp => by
    obtain ⟨fs, h1, h2, h3⟩ := firstsS (vs := vs) fun v' hm => hp v' (List.mem_cons_of_mem _ hm)
    obtain ⟨p, a, o, x, t, y, u, n, e, ho, hc, hd, _⟩ := hp v (List.mem_cons_self ..)
    subst e
    refine ⟨.str x t :: fs, PySem.W.KatTups.cons ho hc hd rfl h1, by rw [List.length_cons, List.length_cons, h2], fun f hm => ?_⟩
    rcases List.mem_cons.mp hm with rfl | hm
    · exact ⟨x, t, rfl⟩
    · exact h3 f hm
section
variable {prog : Program} {w : World} {A : Around} {E : Value → Shared → Prop} {s : Shared}
theorem pairS_cmp {vs : List Value} {k : Value → List Nat × List Nat} (hp : ∀ v ∈ vs, IsPairS s.heap v (k v)) : Cmp prog w A s (tuples' true) (fun p => p.1 ∈ vs) (lt2 fun v u => lexS (k v) (k u)) := by
  intro p q hm hm'
  have h1 := hp _ hm
  have h2 := hp _ hm'
  show wpAny (model prog w) A (keyLt' (tuples' true) p.1 q.1) (fun r s' => s' = s ∧ r = lexS (k p.1) (k q.1)) (fun _ _ => False) s
  generalize k p.1 = kp at h1 ⊢
  generalize k q.1 = kq at h2 ⊢
  obtain ⟨a, o, x, t, y, u, n, e, ho, hc, hd, rfl⟩ := h1
  obtain ⟨a', o', x', t', y', u', n', e', ho', hc', hd', rfl⟩ := h2
  rw [e, e']
  unfold lexS
  refine PySem.W.kat_lt ho hd ho' hd' ?_
  show PySem.W.KatLex prog w A true (decide (2 < 2)) _ [(.str x t, .str x' t'), (.str y u, .str y' u')] 0 s
  refine PySem.W.kat_cons (SeqAt.EqAt.str_str x t x' t' prog w _ _ ?_)
  have sx : ∀ {a b : Str}, (a == b) = true → a.cps.toList = b.cps.toList := fun h => by rw [beq_iff_eq.mp h]
  have sn : ∀ {a b : Str}, (a == b) = false → ¬ a.cps.toList = b.cps.toList := fun {a b} h z => by
    have : (a == b) = true := by rw [← SeqAt.str_beq]; exact beq_iff_eq.mpr z
    rw [this] at h
    cases h
  refine PySem.W.kat_go (fun e1 => ?_) (fun e1 => ?_)
  · have ex := sx e1
    refine PySem.W.kat_yes (PySem.W.kat_cons (SeqAt.EqAt.str_str y u y' u' prog w _ _ ?_))
    refine PySem.W.kat_go (fun e2 => ?_) (fun e2 => ?_)
    · have ey := sx e2
      have e3 : (if x.cps.toList = x'.cps.toList then decide (y.cps.toList < y'.cps.toList) else decide (x.cps.toList < x'.cps.toList)) = false := by
        rw [if_pos ex, ey]
        exact decide_eq_false (List.lt_irrefl _)
      exact PySem.W.kat_yes (PySem.W.kat_nil ⟨rfl, e3.symm⟩)
    · have e3 : (if x.cps.toList = x'.cps.toList then decide (y.cps.toList < y'.cps.toList) else decide (x.cps.toList < x'.cps.toList)) = decide (y.cps.toList < y'.cps.toList) := if_pos ex
      refine PySem.W.kat_no (PySem.W.kat_one _ _ (PySem.P.lt_str ?_))
      exact ⟨rfl, e3.symm⟩
  · have ex := sn (by simpa using e1)
    have e3 : (if x.cps.toList = x'.cps.toList then decide (y.cps.toList < y'.cps.toList) else decide (x.cps.toList < x'.cps.toList)) = decide (x.cps.toList < x'.cps.toList) := if_neg ex
    exact PySem.W.kat_no (oneLt_str ⟨rfl, e3.symm⟩)
theorem pairsS_sortable {a : Addr} {vs : List Value} {k : Value → List Nat × List Nat} (h0 : 0 < vs.length) (hp : ∀ v ∈ vs, IsPairS s.heap v (k v)) (ha : ∀ o, s.heap.get? a = some o → o.cls ≠ .type "tuple") : SortableO prog w A s a vs fun v u => lexS (k v) (k u) := by
  intro h' keep
  have hp' : ∀ v ∈ vs, IsPairS h' v (k v) := fun v hm => (hp v hm).keeps fun b o e c => keep b o (fun z => by subst z; exact ha o e c) e
  obtain ⟨fs, h1, h2, h3⟩ := firstsS fun v hm => ⟨_, hp' v hm⟩
  refine ⟨tuples' true, fun Q E hq => ?_, pairS_cmp hp'⟩
  refine PySem.W.kat_kind (T := .type "str") h1 (by omega) (fun f hm => ?_) (by rfl) ?_
  · obtain ⟨x, t, rfl⟩ := h3 f hm
    exact PySem.W.Looks.now
  · have e : (Value.type "str" != Value.type "tuple") = true := by first | decide +kernel | rfl | decide
    rw [e]
    exact hq
end
end QP
namespace L2
open PySem PySem.Spec PyProof.Rows
abbrev ltPS (k : V → List Nat × List Nat) (x y : V) : Bool := QP.lexS (k x) (k y)
/-- sorted(xs), xs a list of pairs of texts (k says which): a new list, sorted, equal ones in their order -/
def rSortedPS (K : PySem.W.Frag) : List V → Hp → VK → Prop := fun vs H Q => ∃ (a : Addr) (xs : List V) (k : V → Str × Str), vs = [V.ref a] ∧ SqL K H a xs ∧ (∀ x ∈ xs, ∃ t, x = V.ref t ∧ H t = some (.tup [.str (k x).1, .str (k x).2])) ∧
  ∀ ys p, SrtO.Srtd (ltPS fun v => ((k v).1.cps.toList, (k v).2.cps.toList)) ys → SrtO.Stb (ltPS fun v => ((k v).1.cps.toList, (k v).2.cps.toList)) ys xs → H p = none → Q (.ref p) (upd H p (.lst ys))
section
variable {X : Cx}
theorem cr_sortedPS : CallR X (.builtin "sorted") (rSortedPS X.K) := by
  intro pins s σ H vs us Q I r h
  obtain ⟨a, xs, k, rfl, hs, hx, q⟩ := h
  obtain ⟨its, rv, hl, hz⟩ := I.list hs
  obtain ⟨u, rfl, ru⟩ := vals1 r
  obtain rfl : u = Value.ref a := ru
  obtain ⟨e1, e2⟩ := refs_back rv fun x m => by
    obtain ⟨t, e, _⟩ := hx x m
    exact ⟨t, e⟩
  have hpair : ∀ v ∈ its, QP.IsPairS s.heap v ((k (backV v)).1.cps.toList, (k (backV v)).2.cps.toList) := fun v hv => by
    obtain ⟨t, rfl⟩ := e2 v hv
    have hm : V.ref t ∈ xs := by rw [e1]; exact List.mem_map.mpr ⟨_, hv, rfl⟩
    obtain ⟨t', e, ht⟩ := hx _ hm
    cases e
    obtain ⟨_, its2, r2, o, ho, hc, n, hd⟩ := I.hok _ _ ht
    obtain ⟨u1, u2, rfl, ri, rj⟩ := vals2 r2
    obtain ⟨t1, rfl⟩ := ri
    obtain ⟨t2, rfl⟩ := rj
    exact ⟨t, o, _, t1, _, t2, n, rfl, ho, hc, hd, rfl⟩
  refine SrtO.sorted_ord (QP.lexS_swo fun u => ((k (backV u)).1.cps.toList, (k (backV u)).2.cps.toList)) hl.isList (by rw [← rv.length]; exact hz) (fun h2 h₁ a' ha kk => ?_) fun out h1 h2 => ?_
  · refine QP.pairsS_sortable (s := { s with heap := h₁ }) (by omega) (fun v hm => (hpair v hm).keeps fun b o e _ => (kk b o e).2) fun o e => ?_
    have e' : some o = some (seqObj "list" its.toArray 0) := e.symm.trans ha
    cases e'
    intro c
    exact absurd (Value.type.inj c) (by decide)
  · have h3 : ∀ u ∈ out, ∃ a, u = Value.ref a := fun u hu => e2 u (h2.perm.mem_iff.mp hu)
    obtain ⟨n, hn⟩ := PyProof.Rows.sortedAll_at s.heap its out.toArray
    have hb : SrtO.Stb (ltPS fun v => ((k v).1.cps.toList, (k v).2.cps.toList)) (out.map backV) xs := by
      rw [e1]
      exact SrtO.Stb.map (QP.lexS_swo fun v => ((k v).1.cps.toList, (k v).2.cps.toList)) backV h2
    refine ⟨.ref _, upd H (s.heap.objs.size + 1) (.lst (out.map backV)), I.laid (t' := s.toks) (fun _ _ => PyProof.Rows.sortedAll_old) (Nat.le_succ _) ⟨?_, out, n, vals_back h3, hn⟩, rfl, q _ _ (SrtO.srtd_map h1) hb (I.hok.fresh (Nat.le_succ _))⟩
    rw [hb.len]
    exact hz
end
end L2
namespace L2
open PySem PySem.Spec PyProof.Rows
/-- no list, whatever it is -/
def NotS (K : PySem.W.Frag) (H : Hp) (x : V) : Prop := ∀ H', Same H H' → ∃ t, TyX K H' x t ∧ PySem.W.kitOne K t (.type "str") = some false
theorem NotS.same {K : PySem.W.Frag} {H H' : Hp} (s : Same H H') {x : V} (h : NotS K H x) : NotS K H' x := fun H2 s2 => h H2 (s.trans s2)
theorem _root_.L2.IsK.notS {K : PySem.W.Frag} {H : Hp} {x : V} {k : Kd} (h : IsK H x k) (n : k ≠ .str) : NotS K H x := fun H' s => ⟨_, (h.same s).tyX, by
  have e : isaB k "str" = false := by cases k <;> first | rfl | exact absurd rfl n
  have q := kit_ty (K := K) (kit_str k)
  rw [e] at q
  exact q⟩
def rNotS (K : PySem.W.Frag) : List V → Hp → VK → Prop := fun xs H Q => ∃ x : V, xs = [x, .ty "str"] ∧ NotS K H x ∧ Q (.bl false) H
section
variable {X : Cx} {p p2 pos : Pos} {e : Expr} {te : TE}
theorem call_notS : CallR X (.builtin "isinstance") (rNotS X.K) := fun pins s σ H xs us Q I r ⟨x, ex, hx, q⟩ => by
  obtain ⟨t, h1, h2⟩ := hx H (Same.refl H)
  exact call_isi pins s σ H xs us Q I r ⟨x, .ty "str", t, .type "str", false, ex, .ty "str", h1, h2, q⟩
/-- isinstance(e, list), e of a kind or no list at all -/
theorem pe_isiS (hm : X.mg "isinstance" = none) (hT : X.mg "str" = none) (he : PE X e te) (hg : Gl X "isinstance" := by rfl) (hgT : Gl X "str" := by rfl)
    (hs : starEach [e, .Name "str" p2] X.env = (false, eval e X.env) :: starEach [.Name "str" p2] X.env := by rfl) (hs2 : starEach [.Name "str" p2] X.env = (false, eval (.Name "str" p2) X.env) :: starEach [] X.env := by rfl) (hpl : (backTo pos (starEach [.Name "str" p2] X.env)).any (·.1) = false := by rfl) :
    PE X (.Call (.Name "isinstance" p) [e, .Name "str" p2] [] pos) (tCB (fun xs H Q => rIs "str" xs H Q ∨ rNotS X.K xs H Q) (tCons te (tCons (tC (.ty "str")) tNil))) :=
  pe_callB (X := X) (p := p) (pos := pos) ((call_is kit_str).or call_notS) hg hm (by decide +kernel) (pa_cons he (pa_cons (pe_bltn (v := .ty "str") hgT hT (by decide +kernel) rfl (by decide +kernel) (by decide +kernel)) pa_nil hs2) hs) (by decide) (by decide) hs hpl
end
end L2
namespace L2
open PySem PySem.Spec PyProof.Rows
/-- no list, whatever it is -/
def NotU (K : PySem.W.Frag) (H : Hp) (x : V) : Prop := ∀ H', Same H H' → ∃ t, TyX K H' x t ∧ PySem.W.kitOne K t (.type "tuple") = some false
theorem NotU.same {K : PySem.W.Frag} {H H' : Hp} (s : Same H H') {x : V} (h : NotU K H x) : NotU K H' x := fun H2 s2 => h H2 (s.trans s2)
theorem _root_.L2.IsK.notU {K : PySem.W.Frag} {H : Hp} {x : V} {k : Kd} (h : IsK H x k) (n : k ≠ .tup) : NotU K H x := fun H' s => ⟨_, (h.same s).tyX, by
  have e : isaB k "tuple" = false := by cases k <;> first | rfl | exact absurd rfl n
  have q := kit_ty (K := K) (kit_tuple k)
  rw [e] at q
  exact q⟩
def rNotU (K : PySem.W.Frag) : List V → Hp → VK → Prop := fun xs H Q => ∃ x : V, xs = [x, .ty "tuple"] ∧ NotU K H x ∧ Q (.bl false) H
section
variable {X : Cx} {p p2 pos : Pos} {e : Expr} {te : TE}
theorem call_notU : CallR X (.builtin "isinstance") (rNotU X.K) := fun pins s σ H xs us Q I r ⟨x, ex, hx, q⟩ => by
  obtain ⟨t, h1, h2⟩ := hx H (Same.refl H)
  exact call_isi pins s σ H xs us Q I r ⟨x, .ty "tuple", t, .type "tuple", false, ex, .ty "tuple", h1, h2, q⟩
/-- isinstance(e, list), e of a kind or no list at all -/
theorem pe_isiU (hm : X.mg "isinstance" = none) (hT : X.mg "tuple" = none) (he : PE X e te) (hg : Gl X "isinstance" := by rfl) (hgT : Gl X "tuple" := by rfl)
    (hs : starEach [e, .Name "tuple" p2] X.env = (false, eval e X.env) :: starEach [.Name "tuple" p2] X.env := by rfl) (hs2 : starEach [.Name "tuple" p2] X.env = (false, eval (.Name "tuple" p2) X.env) :: starEach [] X.env := by rfl) (hpl : (backTo pos (starEach [.Name "tuple" p2] X.env)).any (·.1) = false := by rfl) :
    PE X (.Call (.Name "isinstance" p) [e, .Name "tuple" p2] [] pos) (tCB (fun xs H Q => rIs "tuple" xs H Q ∨ rNotU X.K xs H Q) (tCons te (tCons (tC (.ty "tuple")) tNil))) :=
  pe_callB (X := X) (p := p) (pos := pos) ((call_is kit_tuple).or call_notU) hg hm (by decide +kernel) (pa_cons he (pa_cons (pe_bltn (v := .ty "tuple") hgT hT (by decide +kernel) rfl (by decide +kernel) (by decide +kernel)) pa_nil hs2) hs) (by decide) (by decide) hs hpl
end
end L2
/-! a text in a list or tuple of any values -/
namespace L2
open PySem PySem.Spec PyProof.Rows
open AutoSeq1 (wpAny_loadPart')
open MeetsSeq MeetsSeq2 MeetsSeq3 SeqRoads2 SeqAt
theorem q_dict_str {A : Around} {s : Shared} {l : Addr} {o : Obj} (b : Str) (u : Tok) (hl : s.heap.get? l = some o) (hc : o.cls = .type "dict") (hd : ∃ es ep, o.data = .dict es ep) (hu : A.units < cLine) : EqAt A s (.ref l) (.str b u) false := fun prog w E Q h => by
  unfold eqBool
  refine wpAny_holding ?_
  refine wpAny_ite_split (fun hab => absurd (eq_of_beq hab) nofun) (fun _ => ?_)
  refine wpAny_bind ?_
  refine rc_eq_decline_or (k := false) ⟨_, hl, hc⟩ (typeIs_str s b u) (by decide) F.sub_str_dict F.slot_dict_eq F.slot_str_eq_refl
    (fun _ hq => call_meets F.slot_dict_eq ⟨_, hl, hc⟩ F.entry_dict_eq (F.args_dict_eq_2 _ _) (q_dict_eq_str l o hc b u) ⟨hl, hq⟩)
    (fun _ hq => call_meets F.slot_str_eq_refl (typeIs_str s b u) F.entry_str_eq (F.args_str_eq_2 _ _) (q_str_eq_dict b u l o hc hd) ⟨hl, hq⟩)
    (fun _ hq => wpAny_of_eq (rfl : isSame (.ref l) (.str b u) = pure false) hq) (.inr hu) (wpAny_truthy_bool h)
theorem eqAt_itemS {X : Cx} {pins : List (Addr × Obj)} {σ : St} {H : Hp} {s : Shared} {A : Around} (I : Inv X pins σ H s) (hu : A.units < cLine) {x : V} {v : Value} (rx : RelV x v) (ex : EltV H x) (z : Str) (k : Tok) : EqAt A s v (.str z k) (decide (x = .str z)) := by
  cases ex with
  | flat fx =>
    cases x with
    | non => cases rx; exact EqAt.none_str z k
    | bl b => cases rx; exact EqAt.bool_str b z k
    | int b => obtain ⟨t, rfl⟩ := rx; exact EqAt.int_str b t z k
    | str b =>
      obtain ⟨t, rfl⟩ := rx
      have e := EqAt.str_str (A := A) (s := s) b t z k
      have q : (b == z) = decide (V.str b = V.str z) := by
        by_cases h : b = z
        · subst h; simp
        · have h2 : ¬ V.str b = V.str z := fun y => h (V.str.inj y)
          rw [decide_eq_false h2]
          simpa using h
      rw [← q]
      exact e
    | _ => exact absurd (show false = true from fx) Bool.false_ne_true
  | @lst a xs h =>
    cases (show v = Value.ref a from rx)
    obtain ⟨_, its, n, _, h1⟩ := (show ObjOk X.prog X.w H s.heap a (.lst xs) from I.hok a _ h)
    exact EqAt.list_str (items := its.toArray) z k ⟨_, h1, rfl, n, rfl⟩ hu
  | @tup a xs h =>
    cases (show v = Value.ref a from rx)
    obtain ⟨_, its, _, h1⟩ := (show ObjOk X.prog X.w H s.heap a (.tup xs) from I.hok a _ h)
    exact EqAt.tuple_str z k h1 hu
  | @dct a kvs h =>
    cases (show v = Value.ref a from rx)
    obtain ⟨_, _, vs, _, o, es, ep, h1, h2, h3, _⟩ := (show ObjOk X.prog X.w H s.heap a (.dK kvs) from I.hok a _ h)
    exact q_dict_str z k h1 h2.1 ⟨_, _, h3⟩ hu
def isS (z : Str) (u : Value) : Bool := match u with
  | .str y _ => decide (y = z)
  | _ => false
theorem isS_rel {x : V} {u : Value} {z : Str} (r : RelV x u) : isS z u = decide (x = .str z) := by
  cases x with
  | str y =>
    obtain ⟨t, rfl⟩ := r
    show decide (y = z) = decide (V.str y = V.str z)
    rw [Bool.eq_iff_iff, decide_eq_true_iff, decide_eq_true_iff]
    exact ⟨fun e => by rw [e], fun e => V.str.inj e⟩
  | non => cases r; rfl
  | bl b => cases r; rfl
  | int b => obtain ⟨t, rfl⟩ := r; rfl
  | ref a => cases (show u = Value.ref a from r); rfl
  | byt b => obtain ⟨t, rfl⟩ := r; rfl
  | flt b => obtain ⟨t, rfl⟩ := r; rfl
  | ty n => cases (show u = Value.type n from r); rfl
theorem any_isS {z : Str} : ∀ {xs : List V} {us : List Value}, Vals xs us → us.any (isS z) = decide (V.str z ∈ xs)
  | [], _, .nil => rfl
  | x :: xs, u :: us, .cons r t => by
    have e := any_isS (z := z) t
    rw [List.any_cons, e, isS_rel r]
    rw [Bool.eq_iff_iff, Bool.or_eq_true, decide_eq_true_iff, decide_eq_true_iff, decide_eq_true_iff, List.mem_cons]
    exact ⟨fun h => h.imp (fun e => e.symm) id, fun h => h.imp (fun e => e.symm) id⟩
theorem mem_isS {X : Cx} {pins : List (Addr × Obj)} {σ : St} {H : Hp} {s : Shared} {A : Around} (I : Inv X pins σ H s) (hu : A.units < cLine) {z : Str} {k : Tok} : ∀ {xs : List V} {us : List Value}, Vals xs us → (∀ x ∈ xs, EltV H x) → ∀ u ∈ us, EqAt A s u (.str z k) (isS z u)
  | [], _, .nil, _ => fun u hu => by cases hu
  | x :: xs, u :: us, .cons r t, he => fun u' hu' => by
    rcases List.mem_cons.mp hu' with rfl | hu'
    · rw [isS_rel r]
      exact eqAt_itemS I hu r (he x List.mem_cons_self) z k
    · exact mem_isS I hu t (fun y hy => he y (List.mem_cons_of_mem _ hy)) u' hu'
/-- a text in a list of any values -/
def rInV (K : PySem.W.Frag) (neg : Bool) : R2 := fun x y H Q => ∃ z p xs, x = .str z ∧ y = .ref p ∧ SqL K H p xs ∧ (∀ x ∈ xs, EltV H x) ∧ Q (.bl (if neg then !decide (V.str z ∈ xs) else decide (V.str z ∈ xs))) H
theorem op_inV {X : Cx} (hu : X.A.units + 64 < cLine) : OpR X (compareOp .In) (rInV X.K false) := by
  intro pins s σ H x y v u Q I rx ry h
  obtain ⟨z, p, xs, rfl, rfl, hq, he, q⟩ := h
  cases ry
  obtain ⟨k, rfl⟩ := rx
  obtain ⟨its, r, pl, hz⟩ := I.list hq
  refine SeqAt.in_listAt (isS z) pl.isList (fun w hw => mem_isS I (by first | exact Nat.lt_of_le_of_lt (Nat.le_add_right _ 64) hu | exact Nat.lt_of_le_of_lt (Nat.add_le_add_left (by decide) _) hu) r he w (by simpa using hw)) ⟨.bl _, H, I, rfl, ?_⟩
  rw [show its.toArray.any (isS z) = its.any (isS z) by simp, any_isS r]
  exact q
theorem op_notInV {X : Cx} (hu : X.A.units + 64 < cLine) : OpR X (compareOp .NotIn) (rInV X.K true) := by
  intro pins s σ H x y v u Q I rx ry h
  obtain ⟨z, p, xs, rfl, rfl, hq, he, q⟩ := h
  cases ry
  obtain ⟨k, rfl⟩ := rx
  obtain ⟨its, r, pl, hz⟩ := I.list hq
  refine SeqAt.notIn_listAt (isS z) pl.isList (fun w hw => mem_isS I (by first | exact Nat.lt_of_le_of_lt (Nat.le_add_right _ 64) hu | exact Nat.lt_of_le_of_lt (Nat.add_le_add_left (by decide) _) hu) r he w (by simpa using hw)) ⟨.bl _, H, I, rfl, ?_⟩
  rw [show its.toArray.any (isS z) = its.any (isS z) by simp, any_isS r]
  exact q
end L2
/-! for x in o by an own __iter__, wherever it stands: the callee runs over a base that is as long as the heap -/
namespace L2
open PySem PySem.Spec PyProof.Rows
/-- the same heap, longer -/
def pad (h : Heap) (m : Nat) : Heap := { h with objs := h.objs ++ Array.replicate m { cls := .none, data := .freed } }
theorem pad_get {h : Heap} {m : Nat} (b : Addr) : (pad h m).get? b = h.get? b := by
  unfold Heap.get? pad
  by_cases hb : b < h.objs.size
  · simp only [Array.getElem?_append_left hb]
  · have e : h.objs[b]? = none := Array.getElem?_eq_none (Nat.le_of_not_lt hb)
    simp only [Array.getElem?_append_right (Nat.le_of_not_lt hb), e]
    cases q : (Array.replicate m ({ cls := .none, data := .freed } : Obj))[b - h.objs.size]? with
    | none => rfl
    | some o =>
      obtain ⟨_, e2⟩ := Array.getElem?_eq_some_iff.mp q
      rw [Array.getElem_replicate] at e2
      subst e2
      rfl
theorem pad_size {h : Heap} {m : Nat} : (pad h m).objs.size = h.objs.size + m := by
  unfold pad
  simp
theorem funs_base {h b b' : Heap} (e : ∀ a, b'.get? a = b.get? a) : ∀ {l : List Env}, h.FunFrames b l → h.FunFrames b' l
  | [], _ => True.intro
  | env :: r, ⟨h1, ⟨L, o, h2, h3, h4⟩, h5⟩ => ⟨h1, ⟨L, o, h2, by rw [e]; exact h3, h4⟩, funs_base e h5⟩
theorem Env0.pad {P : Program} {w : World} {K : PySem.W.Frag} {mg : Str → Option Value} {base : Heap} {A : Around} {outer : List Env} {s : Shared} {H : Hp} (e : Env0 P w K mg base A outer s H) : Env0 P w K mg (L2.pad base (s.heap.objs.size - base.objs.size)) A outer s H := by
  have g := fun b => pad_get (h := base) (m := s.heap.objs.size - base.objs.size) b
  have k : ∀ b o, base.get? b = some o → (L2.pad base (s.heap.objs.size - base.objs.size)).get? b = some o := fun b o q => by rw [g]; exact q
  obtain ⟨mb, m1, m2⟩ := e.mod.blt
  have sz := e.bsz
  exact ⟨e.frames, ⟨e.mod.kin.keeps k, e.mod.glob.keeps k, ⟨mb, m1.keeps k, m2⟩, e.mod.nolimit.keeps k⟩, fun b o q => e.bs b o (by rw [← g]; exact q), by rw [pad_size]; omega, funs_base g e.funs, e.frf, e.hok, e.bare⟩
def rIterTN (K : PySem.W.Frag) (n : Nat) : List V → Hp → VK → Prop := fun xs H Q => ∃ (t : Addr) (zs : List V), xs = [.ref t] ∧ SqT K H t zs ∧ ∀ it, H it = none → n ≤ it → Q (.ref it) (upd H it (ItT t it))
section
variable {X : Cx} {k : Nat} {f C : Addr} {fd : FuncData} {ps : List Str} {sp : Nat → Sp}
theorem call_iterTN : CallR X (.builtin "iter") (rIterTN X.K X.base.objs.size) := by
  intro pins s σ H xs us Q I r h
  obtain ⟨t, zs, rfl, hq, q⟩ := h
  obtain rfl := Vals.ref1 r
  obtain ⟨its, rv, pl, hz⟩ := I.tuple hq
  refine Calls.call_function_entry (by decide +kernel) (by decide +kernel) PySem.W.kdk_entry_iter (PySem.W.kdk_args_iter _) ?_
  unfold Builtin.«iter»
  refine wpAny_bind (m := PySem.someArgs "iter" 1 2 _) (wpAny_of_eq (a := [Value.ref t]) (by first | rfl | kernel_rfl!) ?_)
  show wpAny _ _ (pyIter (.ref t) >>= _) _ _ _
  refine wpAny_bind (wpAny_pyIter_tuple (show s.heap.IsTuple t its.toArray from pl) ?_)
  refine wpAny_pure ⟨_, rfl, ?_⟩
  exact ⟨.ref s.heap.objs.size, _, I.laid (t' := s.toks) (fun b u e => Heap.get?_push_of_some _ e) (Nat.le_refl _) (itT_ok (Heap.get?_push_size _ rfl)), rfl, q _ (I.hok.fresh (Nat.le_refl _)) (Nat.le_trans I.ok.bsz I.sz)⟩
def iOwnB (K : PySem.W.Frag) (C : Addr) (sp : Nat → Sp) (n : Nat) (te : TE) : TI := fun σ H R => te σ H fun x H1 => ∃ a dx fs, x = .ref a ∧ H1 a = some (.ins C dx fs) ∧ ∀ m, n ≤ m → sp m [.ref a] H1 (fun v H2 => ∃ it t, v = .ref it ∧ m ≤ it ∧ H2 it = some (ItT t it) ∧ R (Itt K t) (ItX.dropH H2 it)) E0
theorem pi_ownB {tg e : Expr} {te : TE} (hm : Meth X.K C "__iter__" f) (F : ∀ b', X.K.In b' → b'.Ns mainGlobals X.mg → FnOk X.prog X.w X.K X.mg b' CX0 k f fd ps (sp b'.objs.size)) (hr : Room k X.A) (hb : Binds X.K fd ps []) (he : PE X e te) : PI X tg e (iOwnB X.K C sp X.s_0.heap.objs.size te) := by
  refine ⟨fun pins s σ H R I h => ?_⟩
  refine thn (he.run pins s σ H _ I h) fun u s1 ⟨x, H1, I1, rx, a, dx, fs, ex, ha, h⟩ => ?_
  subst ex
  cases rx
  obtain ⟨mA, J, _⟩ := ins_get I1.hok ha
  obtain ⟨od, J, _⟩ := J.look
  obtain ⟨m, hF⟩ := I1.fr
  refine PySem.W.owit_iter hF I1.ok.mod.kin J hm.at_ hm.fn ?_
  have e0 := I1.env0.pad
  have hn : X.s_0.heap.objs.size ≤ (L2.pad X.base (s1.heap.objs.size - X.base.objs.size)).objs.size := by
    rw [pad_size]
    have := I1.sz
    omega
  have F := F _ e0.mod.kin e0.mod.glob
  have h := h _ hn
  have hl : ([Value.ref a] ++ []).length = ps.length := by
    have := F.len _ _ _ _ h
    simpa using this
  have hb' := hb s1 [Value.ref a] I1.kIn hl
  rw [List.append_nil] at hb'
  refine wpAny_call (codeAny_mono (F.run X.A X.stack s1 H1 ⟨[Value.ref a], []⟩ [Value.ref a] [V.ref a] _ E0 hr e0 hb' (.cons rfl .nil) h) fun r s' hq => ?_)
  cases r with
  | error e => exact False.elim hq
  | ok fl =>
    cases fl with
    | next => exact False.elim hq
    | brk => exact False.elim hq
    | cont => exact False.elim hq
    | ret v =>
      obtain ⟨z, H2, os, bare, un, hok, rz, it, t, ez, new, hi, hR⟩ := hq
      subst ez
      cases rz
      have I2 : Inv X pins σ H2 s' := I1.call' os un hok bare (fun b z => absurd z (by simp))
      have st : s'.heap.get? it = some { cls := .type "tuple_iterator", data := .fields #[.ref t, .int 0 0] } := (I2.hok it _ hi).1
      have stt : s'.heap.IsTupleIter it t 0 := ⟨_, st, rfl, rfl⟩
      unfold PySem.W.OwitIt
      refine wpAny_specialOf (name := "__next__") (show s'.TypeIs (.ref it) "tuple_iterator" from ⟨_, st, rfl⟩) PySem.F.slot_tuple_iterator_next.lookup ?_
      refine ⟨it, [it], _, _, ItX.dropH H2 it, rfl, ItX.inv_drop I2 hi, turn_tuple t it, stt, fun b hb => ?_, hR⟩
      have e : b = it := by simpa using hb
      rw [e]
      exact ItX.inv_fp I2 hi (Nat.le_trans hn new)
end
end L2
namespace Qp
open PySem L2
theorem pss_never {X : Cx} {st : List Stmt} : PSs X st (fun _ _ _ => False) := ⟨fun _ _ _ _ _ _ h => h.elim⟩
theorem valV_rows_some {ad : Str → Addr} {ps : List Str} {z : Str} : (valV (ps.map fun a => ((Sum.inr a : Key), V.ref (ad a))) (Sum.inr z)).isSome = decide (z ∈ ps) := by
  by_cases h : z ∈ ps
  · rw [valV_rows h, decide_eq_true h]
    rfl
  · rw [valV_rows_none h, decide_eq_false h]
    rfl
theorem valV_rnk_some {ss : List Str} {z : Str} : (valV (ss.zipIdx.map fun q => ((Sum.inr q.1 : Key), V.int (q.2 : Nat))) (Sum.inr z)).isSome = decide (z ∈ ss) := by
  by_cases h : z ∈ ss
  · rw [decide_eq_true h]
    have : ∀ (ss : List Str) (k : Nat), z ∈ ss → (valV ((ss.zipIdx k).map fun q => ((Sum.inr q.1 : Key), V.int (q.2 : Nat))) (Sum.inr z)).isSome = true := fun ss => by
      induction ss with
      | nil => intro k h; cases h
      | cons b r ih =>
        intro k h
        rw [List.zipIdx_cons, List.map_cons]
        by_cases e : b = z
        · rw [valV_pos (by rw [e])]
          rfl
        · rw [valV_neg (fun q => e (Sum.inr.inj q))]
          rcases List.mem_cons.mp h with q | q
          · exact absurd q.symm e
          · exact ih _ q
    exact this ss 0 h
  · rw [valV_rnk_none h, decide_eq_false h]
    rfl
theorem valV_rnk_at : ∀ {ss : List Str} {k i : Nat} {z : Str}, ss.Nodup → ss[i]? = some z → valV ((ss.zipIdx k).map fun q => ((Sum.inr q.1 : Key), V.int (q.2 : Nat))) (Sum.inr z) = some (.int ((k + i : Nat) : Int))
  | [], _, _, _, _, h => by simp at h
  | b :: r, k, i, z, hn, h => by
    obtain ⟨h1, h2⟩ := List.nodup_cons.mp hn
    rw [List.zipIdx_cons, List.map_cons]
    cases i with
    | zero =>
      have e : b = z := Option.some.inj h
      rw [valV_pos (by rw [e])]
      rfl
    | succ i =>
      rw [List.getElem?_cons_succ] at h
      have e : b ≠ z := fun e => h1 (e ▸ List.mem_of_getElem? h)
      rw [valV_neg (fun q => e (Sum.inr.inj q)), valV_rnk_at h2 h]
      congr 3
      omega
theorem inS_no {x : V} {ss : List Str} (h : ∀ z, x ≠ .str z) : inS x ss = false := by
  cases e : inS x ss with
  | false => rfl
  | true =>
    obtain ⟨z, _, e⟩ := inS_iff.mp e
    exact absurd e (h z)
theorem nPeople : ¬ ("_has" : Str) = "_people" := by decide +kernel
section
variable {P : Program} {w : World} {K : PySem.W.Frag} {mg : Str → Option Value} {base : Heap}
/-- Group._has(self, value) -/
def spHasG (K : PySem.W.Frag) (C : Addr) : Sp := fun vs H Q _ => ∃ (p : Addr) (x : V) (ps : List Str) (ws : Str → List Str), vs = [.ref p, x] ∧ GroupAt C H p ps ws ∧ (((∃ k, IsK H x k) ∧ Q (.bl (inS x ps)) H) ∨ (NotS K H x ∧ Q (.bl false) H))
theorem ok_hasG {f C : Addr} {fd : FuncData} (F : Fun K "_has" "Group._has" sGrouphas f fd) (B : Bl mg) (T : GTxt K mg C) : FnOk P w K mg base CX0 1 f fd ["self", "value"] (spHasG K C) := by
  refine F.ok scGrouphas (fun vs H Q E h => ?_) (fun cdv A outer s H vs Q E hr h => ?_)
  · obtain ⟨p, x, ps, ws, rfl, _⟩ := h
    rfl
  · obtain ⟨p, x, ps, ws, rfl, ⟨dx, a, d1, d2, d3, hp, ha, ⟨ad, e1, r1⟩, _⟩, kq⟩ := h
    have hu := hu_of hr
    refine ⟨_, pss_one (ps_ret (pe_and (pe_isiS B.isi B.str (pv 1)) (pe_one (pe_cmp (pc_din hu (pv 1) (pe_fld (pv 0) rfl)) rfl)))), ?_⟩
    rcases kq with ⟨⟨k, ik⟩, kq⟩ | ⟨hx, kq⟩
    · cases ik with
      | str z =>
        refine ⟨_, rfl, .inl ⟨_, .str, rfl, .str z, _, rfl, iteT ⟨_, rfl, _, rfl, p, C, dx, _, _, rfl, hp, T.cl, T.n2, gF_wishes _ _ _ _, d1, _, rfl, DGet.k (k := Sum.inr z) e1, ?_⟩⟩⟩
        rw [valV_rows_some, ← inS_str]
        exact kq
      | non => exact ⟨_, rfl, .inl ⟨_, _, rfl, .non, _, rfl, iteF (by rw [inS_no (by intro z h; cases h)] at kq; exact kq)⟩⟩
      | bl b => exact ⟨_, rfl, .inl ⟨_, _, rfl, .bl b, _, rfl, iteF (by rw [inS_no (by intro z h; cases h)] at kq; exact kq)⟩⟩
      | int b => exact ⟨_, rfl, .inl ⟨_, _, rfl, .int b, _, rfl, iteF (by rw [inS_no (by intro z h; cases h)] at kq; exact kq)⟩⟩
      | lst h => exact ⟨_, rfl, .inl ⟨_, _, rfl, .lst h, _, rfl, iteF (by rw [inS_no (by intro z h; cases h)] at kq; exact kq)⟩⟩
      | tup h => exact ⟨_, rfl, .inl ⟨_, _, rfl, .tup h, _, rfl, iteF (by rw [inS_no (by intro z h; cases h)] at kq; exact kq)⟩⟩
      | dct h => exact ⟨_, rfl, .inl ⟨_, _, rfl, .dct h, _, rfl, iteF (by rw [inS_no (by intro z h; cases h)] at kq; exact kq)⟩⟩
    · exact ⟨_, rfl, .inr ⟨x, rfl, hx, _, rfl, iteF kq⟩⟩
/-- Group._check_person(self, value) -/
def spChk (C : Addr) : Sp := fun vs H Q _ => ∃ (p : Addr) (z : Str) (ps : List Str) (ws : Str → List Str), vs = [.ref p, .str z] ∧ GroupAt C H p ps ws ∧ z ∈ ps ∧ Q .non H
/-- a method that is called -/
structure MF (P : Program) (w : World) (K : PySem.W.Frag) (mg : Str → Option Value) (base : Heap) (k : Nat) (C : Addr) (m : Str) (ps : List Str) (sp : Sp) : Prop where
  ex : ∃ f fd, FnOk P w K mg base CX0 k f fd ps sp ∧ Meth K C m f ∧ Binds K fd ps []
theorem ok_chk {f C : Addr} {fd : FuncData} (F : Fun K "_check_person" "Group._check_person" sGroupcheckperson f fd) (B : Bl mg) (T : GTxt K mg C) (mH : MF P w K mg base 1 C "_has" ["self", "value"] (spHasG K C)) : FnOk P w K mg base CX0 2 f fd ["self", "value"] (spChk C) := by
  obtain ⟨fH, fdH, FH, MH, bH⟩ := mH.ex
  refine F.ok scGroupcheckperson (fun vs H Q E h => ?_) (fun cdv A outer s H vs Q E hr h => ?_)
  · obtain ⟨p, z, ps, ws, rfl, _⟩ := h
    rfl
  · obtain ⟨p, z, ps, ws, rfl, hG, hz, kq⟩ := h
    refine ⟨_, pss_one (ps_if (pt_not (pt_val (pe_meth (pv 0) T.cl MH FH hr bH .nil pass0 (pa_cons (pv 1) pa_nil)))) pss_never pss_nil), ?_⟩
    obtain ⟨dx, a, d1, d2, d3, hp, r⟩ := hG
    refine ⟨_, rfl, p, dx, _, rfl, hp, gF_no _ _ _ _ (by decide +kernel) (by decide +kernel) (by decide +kernel) (by decide +kernel), _, rfl, p, .str z, ps, ws, rfl, ⟨dx, a, d1, d2, d3, hp, r⟩, .inl ⟨⟨_, .str z⟩, _, rfl, ?_⟩⟩
    rw [inS_str, decide_eq_true hz]
    exact iteF kq
/-- Group.open_to(self, a) -/
def spOpen (C : Addr) : Sp := fun vs H Q _ => ∃ (p : Addr) (z : Str) (ps : List Str) (ws : Str → List Str), vs = [.ref p, .str z] ∧ GroupAt C H p ps ws ∧ z ∈ ps ∧ ∀ l, H l = none → Q (.ref l) (upd H l (lstO (opn ws z)))
theorem ok_open {f C : Addr} {fd : FuncData} (F : Fun K "open_to" "Group.open_to" sGroupopento f fd) (B : Bl mg) (T : GTxt K mg C) (mC : MF P w K mg base 2 C "_check_person" ["self", "value"] (spChk C)) : FnOk P w K mg base CX0 3 f fd ["self", "a"] (spOpen C) := by
  obtain ⟨fC, fdC, FC, MC, bC⟩ := mC.ex
  refine F.ok scGroupopento (fun vs H Q E h => ?_) (fun cdv A outer s H vs Q E hr h => ?_)
  · obtain ⟨p, z, ps, ws, rfl, _⟩ := h
    rfl
  · obtain ⟨p, z, ps, ws, rfl, hG, hz, kq⟩ := h
    have hu := hu_of hr
    refine ⟨_, pss_cons (ps_expr (pe_meth (pv 0) T.cl MC FC hr bC .nil pass0 (pa_cons (pv 1) pa_nil)))
      (pss_one (ps_ret (pe_callTy call_list_of (by rfl) B.lst (by decide +kernel) (pa_cons (pe_dget hu (pe_fld (pv 0) rfl) (pv 1) (fun _ _ => rfl)) pa_nil)))), ?_⟩
    have hG2 := hG
    obtain ⟨dx, a, d1, d2, d3, hp, ha, r1, ⟨ad, e2, r2⟩, r3⟩ := hG2
    refine ⟨_, rfl, p, dx, _, rfl, hp, gF_no _ _ _ _ (by decide +kernel) (by decide +kernel) (by decide +kernel) (by decide +kernel), _, rfl, p, z, ps, ws, rfl, hG, hz, ?_⟩
    exact ⟨_, rfl, p, C, dx, _, _, rfl, hp, T.cl, T.n3, gF_opens _ _ _ _, _, rfl, d2, _, rfl, by rw [← valV_rows (ad := ad) hz]; exact DGet.k (k := Sum.inr z) e2, ad z, (opn ws z).map V.str, rfl, .inl (SqL.of (r2 z hz).1), fun l hl => kq l hl⟩
/-- Group._check_open(self, a, b) -/
def spChkO (C : Addr) : Sp := fun vs H Q _ => ∃ (p : Addr) (y z : Str) (ps : List Str) (ws : Str → List Str), vs = [.ref p, .str y, .str z] ∧ GroupAt C H p ps ws ∧ y ∈ ps ∧ z ∈ ps ∧ z ∈ opn ws y ∧ Q .non H
theorem ok_chkO {f C : Addr} {fd : FuncData} (F : Fun K "_check_open" "Group._check_open" sGroupcheckopen f fd) (B : Bl mg) (T : GTxt K mg C) (mC : MF P w K mg base 2 C "_check_person" ["self", "value"] (spChk C)) : FnOk P w K mg base CX0 3 f fd ["self", "a", "b"] (spChkO C) := by
  obtain ⟨fC, fdC, FC, MC, bC⟩ := mC.ex
  refine F.ok scGroupcheckopen (fun vs H Q E h => ?_) (fun cdv A outer s H vs Q E hr h => ?_)
  · obtain ⟨p, y, z, ps, ws, rfl, _⟩ := h
    rfl
  · obtain ⟨p, y, z, ps, ws, rfl, hG, hy, hz, hyz, kq⟩ := h
    have hu := hu_of hr
    refine ⟨_, pss_cons (ps_expr (pe_meth (pv 0) T.cl MC FC hr bC .nil pass0 (pa_cons (pv 1) pa_nil)))
      (pss_cons (ps_expr (pe_meth (pv 0) T.cl MC FC hr bC .nil pass0 (pa_cons (pv 2) pa_nil)))
      (pss_one (ps_if (pt_cmp (pc_dnotin hu (pv 2) (pe_dget hu (pe_fld (pv 0) rfl) (pv 1) (fun _ _ => rfl))) rfl) pss_never pss_nil))), ?_⟩
    have hG2 := hG
    obtain ⟨dx, a, d1, d2, d3, hp, ha, r1, r2, ⟨ad, e3, r3⟩⟩ := hG2
    refine ⟨_, rfl, p, dx, _, rfl, hp, gF_no _ _ _ _ (by decide +kernel) (by decide +kernel) (by decide +kernel) (by decide +kernel), _, rfl, p, y, ps, ws, rfl, hG, hy, ?_⟩
    refine ⟨_, rfl, p, dx, _, rfl, hp, gF_no _ _ _ _ (by decide +kernel) (by decide +kernel) (by decide +kernel) (by decide +kernel), _, rfl, p, z, ps, ws, rfl, hG, hz, ?_⟩
    refine ⟨_, rfl, _, rfl, p, C, dx, _, _, rfl, hp, T.cl, T.n4, gF_ranks _ _ _ _, _, rfl, d3, _, rfl, by rw [← valV_rows (ad := ad) hy]; exact DGet.k (k := Sum.inr y) e3, ad y, _, rfl, DGet.k (k := Sum.inr z) (r3 y hy).1, _, rfl, ?_⟩
    rw [valV_rnk_some, decide_eq_true hyz]
    exact iteF kq
/-- Group.rank(self, a, b) -/
def spRank (C : Addr) : Sp := fun vs H Q _ => ∃ (p : Addr) (y z : Str) (ps : List Str) (ws : Str → List Str) (k : Nat), vs = [.ref p, .str y, .str z] ∧ GroupAt C H p ps ws ∧ y ∈ ps ∧ z ∈ ps ∧ (opn ws y).Nodup ∧ (opn ws y)[k]? = some z ∧ Q (.int k) H
theorem ok_rank {f C : Addr} {fd : FuncData} (F : Fun K "rank" "Group.rank" sGrouprank f fd) (B : Bl mg) (T : GTxt K mg C) (mC : MF P w K mg base 3 C "_check_open" ["self", "a", "b"] (spChkO C)) : FnOk P w K mg base CX0 4 f fd ["self", "a", "b"] (spRank C) := by
  obtain ⟨fC, fdC, FC, MC, bC⟩ := mC.ex
  refine F.ok scGrouprank (fun vs H Q E h => ?_) (fun cdv A outer s H vs Q E hr h => ?_)
  · obtain ⟨p, y, z, ps, ws, k, rfl, _⟩ := h
    rfl
  · obtain ⟨p, y, z, ps, ws, k, rfl, hG, hy, hz, hn, hk, kq⟩ := h
    have hu := hu_of hr
    refine ⟨_, pss_cons (ps_expr (pe_meth (pv 0) T.cl MC FC hr bC .nil pass0 (pa_cons (pv 1) (pa_cons (pv 2) pa_nil))))
      (pss_one (ps_ret (pe_dget hu (pe_dget hu (pe_fld (pv 0) rfl) (pv 1) (fun _ _ => rfl)) (pv 2) (fun _ _ => rfl)))), ?_⟩
    have hG2 := hG
    obtain ⟨dx, a, d1, d2, d3, hp, ha, r1, r2, ⟨ad, e3, r3⟩⟩ := hG2
    refine ⟨_, rfl, p, dx, _, rfl, hp, gF_no _ _ _ _ (by decide +kernel) (by decide +kernel) (by decide +kernel) (by decide +kernel), _, rfl, _, rfl, p, y, z, ps, ws, rfl, hG, hy, hz, List.mem_of_getElem? hk, ?_⟩
    refine ⟨_, rfl, p, C, dx, _, _, rfl, hp, T.cl, T.n4, gF_ranks _ _ _ _, _, rfl, d3, _, rfl, by rw [← valV_rows (ad := ad) hy]; exact DGet.k (k := Sum.inr y) e3, _, rfl, ad y, _, rfl, ?_, kq⟩
    have e := valV_rnk_at (k := 0) hn hk
    rw [Nat.zero_add] at e
    rw [← e]
    exact DGet.k (k := Sum.inr z) (r3 y hy).1
/-- Group.__contains__(self, x) -/
def spCon (K : PySem.W.Frag) (C : Addr) : Sp := fun vs H Q _ => ∃ (p : Addr) (x : V) (ps : List Str) (ws : Str → List Str), vs = [.ref p, x] ∧ GroupAt C H p ps ws ∧
  ((NotU K H x ∧ NotS K H x ∧ Q (.bl false) H) ∨ ∃ t y v, x = .ref t ∧ H t = some (.tup [.str y, v]) ∧ y ∈ ps ∧ (∃ k, IsK H v k) ∧ Q (.bl (inS v ps && inS v (opn ws y))) H)
theorem ok_con {f C : Addr} {fd : FuncData} (F : Fun K "__contains__" "Group.__contains__" sGroupcontains f fd) (B : Bl mg) (T : GTxt K mg C) (mH : MF P w K mg base 1 C "_has" ["self", "value"] (spHasG K C)) : FnOk P w K mg base CX0 2 f fd ["self", "x"] (spCon K C) := by
  obtain ⟨fH, fdH, FH, MH, bH⟩ := mH.ex
  refine F.ok scGroupcontains (fun vs H Q E h => ?_) (fun cdv A outer s H vs Q E hr h => ?_)
  · obtain ⟨p, x, ps, ws, rfl, _⟩ := h
    rfl
  · obtain ⟨p, x, ps, ws, rfl, hG, kq⟩ := h
    have hu := hu_of hr
    refine ⟨_, pss_cons (ps_if (PW.pt (pw_and (pt_val (pe_isiU B.isi B.tup (pv 1))) (pw_and1 (pt_cmpR op_eq (pe_callB call_len_seq (by rfl) B.len PySem.boot_len (pa_cons (pv 1) pa_nil)) pe_int (nomark _)))))
        (pss_one (ps_ret (pe_and (pe_meth (pv 0) T.cl MH FH hr bH .nil pass0 (pa_cons (pe_ix ix_tup (pv 1) pe_int (fun _ _ => rfl)) pa_nil)) (pe_and (pe_meth (pv 0) T.cl MH FH hr bH .nil pass0 (pa_cons (pe_ix ix_tup (pv 1) pe_int (fun _ _ => rfl)) pa_nil))
          (pe_one (pe_cmp (pc_din hu (pe_ix ix_tup (pv 1) pe_int (fun _ _ => rfl)) (pe_dget hu (pe_fld (pv 0) rfl) (pe_ix ix_tup (pv 1) pe_int (fun _ _ => rfl)) (fun _ _ => rfl))) rfl)))))) pss_nil)
      (pss_one (ps_ret (pe_meth (pv 0) T.cl MH FH hr bH .nil pass0 (pa_cons (pv 1) pa_nil)))), ?_⟩
    have hG2 := hG
    obtain ⟨dx, a, d1, d2, d3, hp, ha, r1, r2, ⟨ad, e3, r3⟩⟩ := hG2
    have nm : (gF a d1 d2 d3).lookup ("_has" : Str) = none := gF_no _ _ _ _ (by decide +kernel) (by decide +kernel) (by decide +kernel) (by decide +kernel)
    rcases kq with ⟨hU, hS, kq⟩ | ⟨t, y, v, rfl, ht, hy, hv, kq⟩
    · refine ⟨_, rfl, .inr ⟨x, rfl, hU, _, rfl, iteF (iteF ?_)⟩⟩
      exact ⟨_, rfl, p, dx, _, rfl, hp, nm, _, rfl, p, x, ps, ws, rfl, hG, .inr ⟨hS, kq⟩⟩
    · refine ⟨_, rfl, .inl ⟨_, .tup, rfl, .tup ht, _, rfl, iteT ⟨_, rfl, t, _, rfl, .inr (SqT.of ht), rfl, _, rfl, ?_⟩⟩⟩
      refine (if_pos (by show decide (V.int (([V.str y, v] : List V).length : Int) = V.int 2) = true; exact decide_eq_true rfl)).mpr ?_
      refine ⟨_, rfl, p, dx, _, rfl, hp, nm, _, rfl, t, _, 0, .str y, rfl, rfl, SqT.of ht, rfl, p, .str y, ps, ws, rfl, hG, .inl ⟨⟨_, .str y⟩, _, rfl, ?_⟩⟩
      rw [inS_str, decide_eq_true hy]
      refine iteT ⟨_, rfl, p, dx, _, rfl, hp, nm, _, rfl, t, _, 1, v, rfl, rfl, SqT.of ht, rfl, p, v, ps, ws, rfl, hG, .inl ⟨hv, _, rfl, ?_⟩⟩
      cases ev : inS v ps with
      | false =>
        rw [ev, Bool.false_and] at kq
        exact iteF kq
      | true =>
        rw [ev, Bool.true_and] at kq
        obtain ⟨z, hz, rfl⟩ := inS_iff.mp ev
        refine iteT ⟨_, rfl, t, _, 1, .str z, rfl, rfl, SqT.of ht, rfl, _, rfl, p, C, dx, _, _, rfl, hp, T.cl, T.n4, gF_ranks _ _ _ _, _, rfl, t, _, 0, .str y, rfl, rfl, SqT.of ht, rfl, d3, _, rfl, by rw [← valV_rows (ad := ad) hy]; exact DGet.k (k := Sum.inr y) e3, ad y, _, rfl, DGet.k (k := Sum.inr z) (r3 y hy).1, ?_⟩
        rw [valV_rnk_some, ← inS_str]
        exact kq
/-- Group.people(self) -/
def spPeople (C : Addr) : Sp := fun vs H Q _ => ∃ (p : Addr) (ps : List Str) (ws : Str → List Str), vs = [.ref p] ∧ GroupAt C H p ps ws ∧ ∀ l, H l = none → Q (.ref l) (upd H l (.lst (ps.map V.str)))
theorem ok_people {f C : Addr} {fd : FuncData} (F : Fun K "people" "Group.people" sGrouppeople f fd) (B : Bl mg) (T : GTxt K mg C) : FnOk P w K mg base CX0 1 f fd ["self"] (spPeople C) := by
  refine F.ok scGrouppeople (fun vs H Q E h => ?_) (fun cdv A outer s H vs Q E hr h => ?_)
  · obtain ⟨p, ps, ws, rfl, _⟩ := h
    rfl
  · obtain ⟨p, ps, ws, rfl, ⟨dx, a, d1, d2, d3, hp, ha, _⟩, kq⟩ := h
    refine ⟨_, pss_one (ps_ret (pe_callTy call_list_of (by rfl) B.lst (by decide +kernel) (pa_cons (pe_fld (pv 0) rfl) pa_nil))), ?_⟩
    exact ⟨_, rfl, p, C, dx, _, _, rfl, hp, T.cl, T.n1, gF_people _ _ _ _, a, _, rfl, .inr (SqT.of ha), kq⟩
/-- Group.__iter__(self) -/
def spIter (C : Addr) (m : Nat) : Sp := fun vs H Q _ => ∃ (p : Addr) (ps : List Str) (ws : Str → List Str), vs = [.ref p] ∧ GroupAt C H p ps ws ∧ ∀ (it a : Addr), H a = some (.tup (ps.map V.str)) → H it = none → m ≤ it → Q (.ref it) (upd H it (ItT a it))
theorem ok_iter {f C : Addr} {fd : FuncData} (F : Fun K "__iter__" "Group.__iter__" sGroupiter f fd) (B : Bl mg) (T : GTxt K mg C) : FnOk P w K mg base CX0 1 f fd ["self"] (spIter C base.objs.size) := by
  refine F.ok scGroupiter (fun vs H Q E h => ?_) (fun cdv A outer s H vs Q E hr h => ?_)
  · obtain ⟨p, ps, ws, rfl, _⟩ := h
    rfl
  · obtain ⟨p, ps, ws, rfl, ⟨dx, a, d1, d2, d3, hp, ha, _⟩, kq⟩ := h
    refine ⟨_, pss_one (ps_ret (pe_callB call_iterTN (by rfl) B.iter (by decide +kernel) (pa_cons (pe_fld (pv 0) rfl) pa_nil))), ?_⟩
    exact ⟨_, rfl, p, C, dx, _, _, rfl, hp, T.cl, T.n1, gF_people _ _ _ _, a, _, rfl, SqT.of ha, fun it h1 h2 => kq it a ha h1 h2⟩
end
end Qp
namespace L2
open PySem PySem.Spec PyProof.Rows
/-- a walk's turns, any body -/
theorem it_gen {J : It} {n : Nat} {G : Hp → Prop} {Y : Nat → Hp → V → Hp → Prop} (w : Walk J n G Y) {H0 : Hp} {Qd : Hp → Prop} {body : V → Hp → (Hp → Prop) → Prop} (Pv : Nat → Hp → Prop) (h0 : Pv 0 H0) (hG : ∀ i H, i ≤ n → Pv i H → G H)
    (hs : ∀ i x H H', i < n → Pv i H → Y i H x H' → body x H' (Pv (i + 1))) (hd : ∀ H, Pv n H → Qd H) :
    ∃ W : Nat → Nat → Hp → Prop, (∃ m, W 0 m H0) ∧ ∀ i m H, W i m H → (J.stop i H ∧ Qd H) ∨ (J.go i H ∧ ∃ Nx : Hp → Prop, (∀ H', Nx H' → ∃ m', m' < m ∧ W (i + 1) m' H') ∧ ∀ x H', J.yld i H x H' → body x H' Nx) := by
  refine ⟨fun i m H => m = n - i ∧ i ≤ n ∧ Pv i H, ⟨n, by simp, Nat.zero_le _, h0⟩, ?_⟩
  rintro i m H ⟨rfl, hi, p⟩
  have q := hG i H hi p
  by_cases hlt : i < n
  · exact .inr ⟨w.goes i H hlt q, Pv (i + 1), fun H' p' => ⟨n - (i + 1), by omega, rfl, hlt, p'⟩, fun x H' y => hs i x H H' hlt p (w.yields i H x H' hlt q y)⟩
  · have e : i = n := by omega
    subst e
    exact .inl ⟨w.stops H q, hd H p⟩
section
variable {X : Cx} {K : PySem.W.Frag}
theorem pe_fldK {e : Expr} {f : Str} {ta : TE} {pos : Pos} (hK : X.K = K) (he : PE X e ta) (hb : attributeBase e f X.env (eval e X.env) = eval e X.env) : PE X (.Attribute e f pos) (tFld K ta f) := by
  subst hK
  exact pe_fld he hb
end
theorem yesTurn {σ : St} {H : Hp} {A B : Hp → Prop} (h : A H) : tYes σ H (fun b H3 => if b = true then A H3 else B H3) := h
/-- pairs of texts that stand in a list -/
def PairsAt (H : Hp) (l : Addr) (zs : List (Str × Str)) : Prop := ∃ (ys : List V) (k : V → Str × Str), H l = some (.lst ys) ∧ (∀ y ∈ ys, ∃ t, y = .ref t ∧ H t = some (.tup [.str (k y).1, .str (k y).2])) ∧ ys.map k = zs
theorem PairsAt.same {H H' : Hp} (s : Same H H') {l : Addr} {zs : List (Str × Str)} (h : PairsAt H l zs) : PairsAt H' l zs := by
  obtain ⟨ys, k, e, q, r⟩ := h
  refine ⟨ys, k, s _ _ e, fun y hy => ?_, r⟩
  obtain ⟨t, e1, e2⟩ := q y hy
  exact ⟨t, e1, s _ _ e2⟩
theorem PairsAt.nil {H : Hp} {l : Addr} (h : H l = some (.lst [])) : PairsAt H l [] := ⟨[], fun _ => ("", ""), h, (fun _ h => by cases h), rfl⟩
/-- what stands but for the list -/
theorem PairsAt.snoc {H : Hp} {l T : Addr} {zs : List (Str × Str)} {a b : Str} (h : PairsAt H l zs) (hT : H T = none) : ∃ ys, (upd H T (.tup [.str a, .str b])) l = some (.lst ys) ∧ ys.length = zs.length ∧
    PairsAt (upd (upd H T (.tup [.str a, .str b])) l (.lst (ys ++ [.ref T]))) l (zs ++ [(a, b)]) := by
  obtain ⟨ys, k, e, q, r⟩ := h
  have nlT : l ≠ T := ne_of_none e hT
  refine ⟨ys, by rw [upd_ne nlT]; exact e, by rw [← r, List.length_map], ys ++ [.ref T], fun y => if y = .ref T then (a, b) else k y, upd_same, fun y hy => ?_, ?_⟩
  · rcases List.mem_append.mp hy with z | z
    · obtain ⟨t, rfl, e2⟩ := q y z
      have n1 : t ≠ T := ne_of_none e2 hT
      have n2 : t ≠ l := ne_of e2 e (by intro z; cases z)
      have n3 : ¬ (V.ref t = V.ref T) := fun z => n1 (V.ref.inj z)
      refine ⟨t, rfl, ?_⟩
      rw [upd_ne n2, upd_ne n1]
      show H t = some (.tup [.str (if V.ref t = V.ref T then (a, b) else k (.ref t)).1, .str (if V.ref t = V.ref T then (a, b) else k (.ref t)).2])
      rw [if_neg n3]
      exact e2
    · have ey : y = .ref T := by simpa using z
      subst ey
      refine ⟨T, rfl, ?_⟩
      rw [upd_ne (Ne.symm nlT), upd_same]
      show some (HO.tup [.str a, .str b]) = some (.tup [.str (if V.ref T = V.ref T then (a, b) else k (.ref T)).1, .str (if V.ref T = V.ref T then (a, b) else k (.ref T)).2])
      rw [if_pos rfl]
  · rw [List.map_append, ← r]
    congr 1
    · refine List.map_congr_left fun y hy => ?_
      obtain ⟨t, rfl, e2⟩ := q y hy
      have n1 : t ≠ T := ne_of_none e2 hT
      exact if_neg fun z => n1 (V.ref.inj z)
    · show [if V.ref T = V.ref T then (a, b) else k (.ref T)] = [(a, b)]
      rw [if_pos rfl]
/-- zs in order -/
abbrev ltZ (p q : Str × Str) : Bool := QP.lexS (p.1.cps.toList, p.2.cps.toList) (q.1.cps.toList, q.2.cps.toList)
def SortP (zs zs' : List (Str × Str)) : Prop := SrtO.Srtd ltZ zs' ∧ SrtO.Stb ltZ zs' zs
theorem ltZ_swo : SrtO.Swo ltZ := QP.lexS_swo fun p : Str × Str => (p.1.cps.toList, p.2.cps.toList)
theorem SortP.uniq {zs z1 z2 : List (Str × Str)} (h1 : SortP zs z1) (h2 : SortP zs z2) : z1 = z2 :=
  SrtO.stb_uniq ltZ_swo h1.1 h2.1 (h1.2.trans ⟨h2.2.perm.symm, fun x => (h2.2.cls x).symm⟩)
/-- sorted(xs), xs the pairs zs -/
theorem sortP_read {K : PySem.W.Frag} {H : Hp} {l : Addr} {zs : List (Str × Str)} {Q : VK} (h : PairsAt H l zs) (hq : ∀ (p : Addr) (H' : Hp) (zs' : List (Str × Str)), Same H H' → SortP zs zs' → PairsAt H' p zs' → Q (.ref p) H') : rSortedPS K [.ref l] H Q := by
  obtain ⟨ys, k, e, q, r⟩ := h
  refine ⟨l, ys, k, rfl, SqL.of e, q, fun zs' p h1 h2 hp => ?_⟩
  have s : Same H (upd H p (.lst zs')) := Same.new hp
  refine hq p _ (zs'.map k) s ⟨?_, ?_⟩ ⟨zs', k, upd_same, fun y hy => ?_, rfl⟩
  · exact SrtO.srtd_map h1
  · rw [← r]
    exact SrtO.Stb.map ltZ_swo k h2
  · obtain ⟨t, e1, e2⟩ := q y (h2.perm.mem_iff.mp hy)
    exact ⟨t, e1, s _ _ e2⟩
end L2
namespace Qp
open PySem L2
def pr (ws : Str → List Str) (a : Str) : List (Str × Str) := ((opn ws a).filter fun b => decide (a.cps.toList < b.cps.toList)).map fun b => (a, b)
def prs (ps : List Str) (ws : Str → List Str) : List (Str × Str) := ps.flatMap (pr ws)
theorem pr_len {ws : Str → List Str} {a : Str} (h : (ws a).length ≤ 1000) : (pr ws a).length ≤ 1000 := by
  unfold pr
  rw [List.length_map]
  exact Nat.le_trans (List.length_filter_le _ _) (Nat.le_trans (List.length_filter_le _ _) h)
theorem prs_len {ws : Str → List Str} : ∀ {ps : List Str}, (∀ a ∈ ps, (ws a).length ≤ 1000) → (prs ps ws).length ≤ ps.length * 1000
  | [], _ => Nat.zero_le _
  | a :: ps, h => by
    have ih := prs_len (ps := ps) fun b hb => h b (List.mem_cons_of_mem _ hb)
    have h1 := pr_len (h a List.mem_cons_self)
    show (pr ws a ++ prs ps ws).length ≤ (ps.length + 1) * 1000
    rw [List.length_append]
    omega
theorem prs_snoc {ws : Str → List Str} {ps : List Str} {a : Str} : prs (ps ++ [a]) ws = prs ps ws ++ pr ws a := by
  unfold prs
  rw [List.flatMap_append]
  simp
theorem GroupAt.same {C : Addr} {H H' : Hp} (s : Same H H') {p : Addr} {ps : List Str} {ws : Str → List Str} (h : GroupAt C H p ps ws) : GroupAt C H' p ps ws := by
  obtain ⟨dx, a, d1, d2, d3, hp, ha, r1, r2, r3⟩ := h
  exact ⟨dx, a, d1, d2, d3, s _ _ hp, s _ _ ha, r1.same s, r2.same s, r3.same s⟩
section
variable {P : Program} {w : World} {K : PySem.W.Frag} {mg : Str → Option Value} {base : Heap}
/-- Group.pairs(self) -/
def spPairs (C : Addr) : Sp := fun vs H Q _ => ∃ (p : Addr) (ps : List Str) (ws : Str → List Str), vs = [.ref p] ∧ GroupAt C H p ps ws ∧ ps.length ≤ 1000 ∧ (∀ a ∈ ps, (ws a).length ≤ 1000) ∧
  ∀ (l : Addr) (H' : Hp) (zs : List (Str × Str)), Same H H' → SortP (prs ps ws) zs → PairsAt H' l zs → Q (.ref l) H'
theorem ok_pairs {f C : Addr} {fd : FuncData} (F : Fun K "pairs" "Group.pairs" sGrouppairs f fd) (B : Bl mg) (T : GTxt K mg C) : FnOk P w K mg base CX0 1 f fd ["self"] (spPairs C) := by
  refine F.ok scGrouppairs (fun vs H Q E h => ?_) (fun cdv A outer s H vs Q E hr h => ?_)
  · obtain ⟨p, ps, ws, rfl, _⟩ := h
    rfl
  · obtain ⟨p, ps, ws, rfl, hG, hpl, hwl, kq⟩ := h
    have hu := hu_of hr
    have esz : sizeLine = 16777216 := sizeLine_eq
    refine ⟨_, pss_one (ps_ret (pe_callB cr_sortedPS (by rfl) B.srt (by decide +kernel) (pa_cons (pe_lc2 (own := [("a", 1), ("b", 2)]) (vs1 := [2]) (g := gName 1) (tt := tYes) (g1 := gName 2) rfl scGrouppairs.nd (pi_tup (pe_fld (pv 0) rfl)) (blkOk_by (own := [("a", 1), ("b", 2)]) (N := ["self", "a", "b"]) (sc := defScope sGrouppairs) (by decide +kernel)) (by decide)
      (fun _ _ _ _ _ => pg_name (i := 1) scGrouppairs.nd rfl (Or.inl rfl)) (fun _ _ _ _ _ => pts_nil)
      (fun _ _ _ _ _ => pi_listK (K := K) rfl (pe_dget hu (pe_fldK (K := K) rfl (pv 0) rfl) (pv 1) (fun _ _ => rfl)))
      (fun _ _ _ _ _ => pg_name (i := 2) scGrouppairs.nd rfl (Or.inl rfl)) (fun _ _ _ _ _ => pts_one (pt_cmpR op_lt_str (pv 1) (pv 2) (nomark _)))
      (fun _ _ _ _ _ => pe_tup (pa_cons (pv 1) (pa_cons (pv 2) pa_nil)))) pa_nil))), ?_⟩
    have hG2 := hG
    obtain ⟨dx, a0, d1, d2, d3, hp, ha, r1, ⟨ad, e2, r2⟩, r3⟩ := hG2
    refine ⟨_, rfl, p, C, dx, _, _, rfl, hp, T.cl, T.n1, gF_people _ _ _ _, a0, rfl, ⟨_, SqT.of ha⟩, fun D hD => it_gen walk_tup (fun i H' => Same H H' ∧ PairsAt H' D (prs (ps.take i) ws)) ⟨Same.new hD, PairsAt.nil upd_same⟩ (fun i H' _ z => SqT.of (z.1 _ _ ha)) ?_ ?_⟩
    · rintro i x Hx H1 hi ⟨s1, P1⟩ ⟨rfl, hx⟩
      rw [List.length_map] at hi
      rw [List.getElem?_map] at hx
      cases ea : ps[i]? with
      | none => rw [ea] at hx; cases hx
      | some a =>
        rw [ea] at hx
        cases hx
        have hap : a ∈ ps := List.mem_of_getElem? ea
        have hbd := prs_len (ws := ws) (ps := ps.take i) fun b hb => hwl b (List.mem_of_mem_take hb)
        rw [List.length_take] at hbd
        have hol : (opn ws a).length ≤ 1000 := Nat.le_trans (List.length_filter_le _ _) (hwl a hap)
        refine ⟨rfl, yesTurn ?_⟩
        refine ⟨_, rfl, p, C, dx, _, _, rfl, s1 _ _ hp, T.cl, T.n3, gF_opens _ _ _ _, _, rfl, d2, _, rfl, by rw [← valV_rows (ad := ad) hap]; exact DGet.k (k := Sum.inr a) (s1 _ _ e2), ad a, rfl, ⟨_, SqL.of (s1 _ _ (r2 a hap).1)⟩,
          it_gen walk_list (fun j H' => Same H H' ∧ PairsAt H' D (prs (ps.take i) ws ++ (((opn ws a).take j).filter fun b => decide (a.cps.toList < b.cps.toList)).map fun b => (a, b))) ⟨s1, by rw [List.take_zero, List.filter_nil, List.map_nil, List.append_nil]; exact P1⟩ (fun j H' _ z => SqL.of (z.1 _ _ (r2 a hap).1)) ?_ ?_⟩
        · rintro j y Hy H2 hj ⟨s2, P2⟩ ⟨rfl, hy⟩
          rw [List.length_map] at hj
          rw [List.getElem?_map] at hy
          cases eb : (opn ws a)[j]? with
          | none => rw [eb] at hy; cases hy
          | some b =>
            rw [eb] at hy
            cases hy
            refine ⟨rfl, _, rfl, _, rfl, a, b, rfl, rfl, _, rfl, ?_⟩
            by_cases hlt : a.cps.toList < b.cps.toList
            · rw [decide_eq_true hlt]
              refine iteT ⟨_, rfl, _, rfl, by show 2 ≤ sizeLine; omega, fun Tt hT => ?_⟩
              obtain ⟨ys, g1, g2, g3⟩ := P2.snoc (a := a) (b := b) hT
              refine ⟨ys, g1, ?_, fun b' o e => ?_, ?_⟩
              · rw [g2, List.length_append, List.length_map]
                have q1 := List.length_filter_le (fun b => decide (a.cps.toList < b.cps.toList)) ((opn ws a).take j)
                rw [List.length_take] at q1
                omega
              · rw [upd_ne (ne_of_none e hD), upd_ne (ne_of_none (s2 _ _ e) hT)]
                exact s2 _ _ e
              · rw [take_snoc eb, List.filter_append, List.filter_cons_of_pos (by rw [decide_eq_true hlt]), List.filter_nil, List.map_append, ← List.append_assoc]
                exact g3
            · rw [decide_eq_false hlt]
              refine iteF ⟨s2, ?_⟩
              rw [take_snoc eb, List.filter_append, List.filter_cons_of_neg (by rw [decide_eq_false hlt]; decide), List.filter_nil, List.append_nil]
              exact P2
        · rintro H2 ⟨s2, P2⟩
          rw [List.length_map, List.take_of_length_le (Nat.le_refl _)] at P2
          refine ⟨s2, ?_⟩
          rw [take_snoc ea, prs_snoc]
          exact P2
    · rintro H1 ⟨s1, P1⟩
      rw [List.length_map, List.take_of_length_le (Nat.le_refl _)] at P1
      exact sortP_read P1 fun l H' zs' s2 hs hz => kq l H' zs' (s1.trans s2) hs hz
end
end Qp
namespace Qp
open PySem L2
section
variable {P : Program} {w : World} {K : PySem.W.Frag} {mg : Str → Option Value} {base : Heap}
/-- _law_copy -/
def spCopy : Sp := fun vs H Q _ => ∃ (d : Addr) (qs : List Str) (ws : Str → List Str), vs = [.ref d] ∧ RowsG H d qs (fun a => lstO (ws a)) ∧ qs.Nodup ∧ qs.length ≤ 1000 ∧ ∀ D H', H D = none → Same H H' → RowsG H' D qs (fun a => lstO (ws a)) → Q (.ref D) H'
theorem ok_copy {f : Addr} {fd : FuncData} (F : Fun K "_law_copy" "_law_copy" sLcopy f fd) (B : Bl mg) : FnOk P w K mg base CX0 1 f fd ["_law_wishes"] spCopy := by
  refine F.ok scLcopy (fun vs H Q E h => ?_) (fun cdv A outer s H vs Q E hr h => ?_)
  · obtain ⟨d, qs, ws, rfl, _⟩ := h
    rfl
  · obtain ⟨d, qs, ws, rfl, hR, hnd, hlen, kq⟩ := h
    have hu := hu_of hr
    have esz : sizeLine = 16777216 := sizeLine_eq
    refine ⟨_, pss_cons (ps_set (i := 1) scLcopy.nd rfl (Or.inl rfl) pe_dnewK)
      (pss_cons (ps_lock (ps_for PassesOwn.never rfl (pi_keys (pv 0)) (pg_name (i := 2) scLcopy.nd rfl (Or.inl rfl)) (pss_one (ps_dput hu (pv 1) (pv 2) (pe_callTy call_list_of (by rfl) B.lst (by decide +kernel) (pa_cons (pe_dget hu (pv 0) (pv 2) (fun _ _ => rfl)) pa_nil)) rfl))))
      (pss_one (ps_ret (pv 1)))), ?_⟩
    refine fun D hD => ?_
    have s0 : Same H (upd H D (.dK [])) := Same.new hD
    have R0 : RowsG (upd H D (.dK [])) D [] (fun a => lstO (ws a)) := RowsG.nil upd_same
    have hR0 := hR.same s0
    have nDd : d ≠ D := by
      obtain ⟨ad, e, _⟩ := hR
      exact ne_of_none e hD
    generalize upd H D (.dK []) = H0 at s0 R0 hR0
    obtain ⟨ad, hd, hrows⟩ := hR0
    refine ⟨d, _, hd, True.intro, fun od => ?_⟩
    have sl : ∀ b o, b ≠ d → H0 b = some o → (upd H0 d (.frz od (.dK (qs.map fun a => (Sum.inr a, V.ref (ad a)))))) b = some o := fun b o n e => by rw [upd_ne n]; exact e
    have R1 : RowsG (upd H0 d (.frz od (.dK (qs.map fun a => (Sum.inr a, V.ref (ad a)))))) D [] (fun a => lstO (ws a)) := by
      obtain ⟨ad2, e, _⟩ := R0
      exact RowsG.nil (by rw [upd_ne (Ne.symm nDd)]; exact e)
    generalize hL : upd H0 d (.frz od (.dK (qs.map fun a => (Sum.inr a, V.ref (ad a))))) = HL at sl R1
    have hf : HL d = some (.frz od (.dK (qs.map fun a => (Sum.inr a, V.ref (ad a))))) := by rw [← hL]; exact upd_same
    refine ⟨_, rfl, d, od, rfl, .inl ⟨_, hf, for_it walk_keys (fun i σ H' => ∃ v2 : Option V, σ = [some (.ref d), some (.ref D), v2] ∧ SameBut D HL H' ∧ RowsG H' D (qs.take i) (fun a => lstO (ws a))) ⟨none, rfl, SameBut.refl _ _, R1⟩ (fun i σ H' _ ⟨_, _, z, _⟩ => z _ _ nDd hf) ?_ ?_⟩⟩
    · rintro i x σ Hx H1 hi ⟨v2, rfl, s1, R⟩ ⟨rfl, k, v, hk, rfl⟩
      rw [List.length_map] at hi
      rw [List.getElem?_map] at hk
      cases ea : qs[i]? with
      | none => rw [ea] at hk; cases hk
      | some a =>
        rw [ea] at hk
        cases hk
        have haq : a ∈ qs := List.mem_of_getElem? ea
        have nad : ad a ≠ D := by
          obtain ⟨ad2, e, _⟩ := R0
          exact ne_of (hrows a haq).1 e (by intro z; cases z)
        have g2 : H1 (ad a) = some (lstO (ws a)) := s1 _ _ nad (sl _ _ (hrows a haq).2 (hrows a haq).1)
        refine ⟨_, rfl, _, rfl, d, _, rfl, .inl ⟨_, Sum.inr a, .inr ⟨od, s1 _ _ nDd hf⟩, rfl, (valV_rows haq).symm⟩, ad a, (ws a).map V.str, rfl, .inl (SqL.of g2), fun L hL2 => ?_⟩
        have hLD : L ≠ D := by
          obtain ⟨ad2, e2, _⟩ := R
          intro z
          rw [z, e2] at hL2
          cases hL2
        obtain ⟨kv2, h1, h2, h3⟩ := R.snoc (Same.new (o := .lst ((ws a).map V.str)) hL2) (not_mem_take hnd ea) (p := L) upd_same hLD
        refine ⟨_, rfl, _, rfl, D, _, rfl, DPut.k (k := Sum.inr a) h1 (by rw [h2, List.length_take]; omega), _, rfl, fun b o hb e => ?_, ?_⟩
        · rw [upd_ne hb, upd_ne (ne_of_none (s1 _ _ hb e) hL2)]
          exact s1 _ _ hb e
        · rw [take_snoc ea]
          exact h3
    · rintro σ H1 ⟨v2, rfl, s1, R⟩
      rw [List.length_map, List.take_of_length_le (Nat.le_refl _)] at R
      refine ⟨s1 _ _ nDd hf, _, rfl, kq D _ hD (fun b o e => ?_) ?_⟩
      · have nbD : b ≠ D := ne_of_none e hD
        by_cases hb : b = d
        · rw [hb, upd_same]
          rw [hb] at e
          have := s0 _ _ e
          rw [hd] at this
          exact this
        · rw [upd_ne hb]
          exact s1 _ _ nbD (sl b o hb (s0 _ _ e))
      · obtain ⟨ad2, e2, q2⟩ := R
        refine ⟨ad2, by rw [upd_ne (Ne.symm nDd)]; exact e2, fun a ha => ⟨?_, (q2 a ha).2⟩⟩
        have hne : ad2 a ≠ d := fun z => by
          have q := (q2 a ha).1
          rw [z, s1 _ _ nDd hf] at q
          cases q
        rw [upd_ne hne]
        exact (q2 a ha).1
end
/-- nothing is bad -/
theorem badFrom_ok {ok : V → Bool} : ∀ {l pre : List V}, (∀ x ∈ l, ok x = true) → (pre ++ l).Nodup → badFrom ok pre l = none
  | [], _, _, _ => rfl
  | x :: r, pre, h, hn => by
    have hx : x ∉ pre := fun z => by
      obtain ⟨_, _, h3⟩ := List.nodup_append.mp hn
      exact h3 x z x List.mem_cons_self rfl
    have e : pre.contains x = false := by
      cases e : pre.contains x with
      | false => rfl
      | true => exact absurd (by simpa using e) hx
    rw [badFrom_cons, h x List.mem_cons_self, e]
    show (if true = true then badFrom ok (pre ++ [x]) r else some pre.length) = none
    rw [if_pos rfl]
    refine badFrom_ok (fun y hy => h y (List.mem_cons_of_mem _ hy)) ?_
    rw [List.append_assoc]
    exact hn
theorem nodup_str {zs : List Str} (h : zs.Nodup) : (zs.map V.str).Nodup := List.Pairwise.map V.str (fun a b h e => h (V.str.inj e)) h
theorem due_ok {ns : List Str} (hn : ns.Nodup) (hm : ∀ z ∈ ns, nameS z = true) (hl : ns.length ≤ 16) : dueP (some (ns.map V.str)) = none := by
  unfold dueP
  simp only [List.length_map, if_pos hl]
  rw [badFrom_ok (fun x hx => ?_) (by rw [List.nil_append]; exact nodup_str hn)]
  · rfl
  · obtain ⟨z, hz, rfl⟩ := List.mem_map.mp hx
    exact hm z hz
theorem okW_of {ns : List Str} {p : Str} {ws : List Str} (g : GRow ns p ws) : okW ns p (some (ws.map V.str)) = true := by
  refine decide_eq_true ?_
  rw [badFrom_ok (fun x hx => ?_) (by rw [List.nil_append]; exact nodup_str g.1)]
  · rfl
  · obtain ⟨z, hz, rfl⟩ := List.mem_map.mp hx
    obtain ⟨h1, h2⟩ := g.2 z hz
    exact inS_iff.mpr ⟨z, List.mem_filter.mpr ⟨h1, by rw [decide_eq_false h2]; rfl⟩, rfl⟩
theorem hasB_of {ad : Str → Addr} {order ns : List Str} (hp : order.Perm ns) : hasB (order.map fun a => ((Sum.inr a : Key), V.ref (ad a))) ns = true := by
  unfold hasB
  rw [decide_eq_true (by rw [List.length_map]; exact hp.length_eq), Bool.true_and, List.all_eq_true]
  intro z hz
  rw [valV_rows (hp.mem_iff.mpr hz)]
  rfl
theorem rows_congr {H : Hp} {d : Addr} {ps : List Str} {ws ws' : Str → List Str} (h : RowsG H d ps (fun a => lstO (ws a))) (e : ∀ a ∈ ps, ws' a = ws a) : RowsG H d ps (fun a => lstO (ws' a)) := by
  obtain ⟨ad, e1, q⟩ := h
  refine ⟨ad, e1, fun a ha => ?_⟩
  show H (ad a) = some (lstO (ws' a)) ∧ ad a ≠ d
  rw [e a ha]
  exact q a ha
end Qp
namespace L2
open PySem PySem.Spec PyProof.Rows
section
variable {X : Cx} {CX : CXT} {k : Nat} {f C : Addr} {fd : FuncData} {ps : List Str} {sp : Sp} {dvs : List V} {ds : List Value} {E : St → XK} {x : Str} {p pos : Pos} {e : Expr} {es : List Expr} {t : TA}
/-- C(..), what is raised wished for at the caller's slots -/
def tMakeS (C : Addr) (sp : Sp) (dvs : List V) (E : St → XK) (t : TA) : TE := fun σ H Q => t σ H fun vs H1 => ∀ x dx, H1 x = none → H1 dx = none → dx ≠ x →
  sp (.ref x :: (vs ++ dvs)) (upd (upd H1 dx (.own x)) x (.ins C dx [])) (fun v H2 => v = .non ∧ Q (.ref x) H2) (E σ)
theorem run_makeS {pins : List (Addr × Obj)} {σ : St} {H : Hp} {s : Shared} {Q : VK} {us : List Value} {vs : List V} (M : Mk X.K C f) (F : FnOk X.prog X.w X.K X.mg X.base CX k f fd ps sp) (hr : Room (k + 1) X.A) (hb : Binds X.K fd ps ds) (hd : Vals dvs ds)
    (hx : ∀ σ, PassesAt CX X σ (E σ)) (I : Inv X pins σ H s) (r : Vals vs us)
    (h : ∀ x dx, H x = none → H dx = none → dx ≠ x → sp (.ref x :: (vs ++ dvs)) (upd (upd H dx (.own x)) x (.ins C dx [])) (fun v H2 => v = .non ∧ Q (.ref x) H2) (E σ)) :
    wpAny (model X.prog X.w) X.A (call (.ref C) us) (EP X pins σ Q) X.xe s := by
  have hq := h (s.heap.objs.size + 1) s.heap.objs.size (I.hok.fresh (Nat.le_succ _)) (I.hok.fresh (Nat.le_refl _)) (Nat.ne_of_lt (Nat.lt_succ_self _))
  have I2 := Inv.made (C := C) I
  have r2 : Vals (V.ref (s.heap.objs.size + 1) :: (vs ++ dvs)) (Value.ref (s.heap.objs.size + 1) :: (us ++ ds)) := .cons rfl (r.append hd)
  have hl : (Value.ref (s.heap.objs.size + 1) :: us ++ ds).length = ps.length := by
    have e := r2.length
    rw [F.len _ _ _ _ hq] at e
    exact e.symm
  refine wpAny_call (make_map (f := f) I.kIn M.makes M.init (beq_iff_eq.mp M.fn) (codeAny_mono (F.run _ X.stack _ _ ⟨Value.ref (s.heap.objs.size + 1) :: us, []⟩ (Value.ref (s.heap.objs.size + 1) :: (us ++ ds)) _ _ (E σ) (hr.make C us [])
    (I2.env0.make C us []) (hb _ (Value.ref (s.heap.objs.size + 1) :: us) I2.kIn hl) r2 hq) fun r s' hq' => ?_))
  cases r with
  | error e => exact hx σ pins _ _ e s' I2 hq'
  | ok fl =>
    cases fl with
    | ret u =>
      obtain ⟨v, H', I3, rv, ev, q3⟩ := I2.after hq'
      subst ev
      exact ⟨rv, ⟨V.ref (s.heap.objs.size + 1), H', I3, rfl, q3⟩⟩
    | next => exact False.elim hq'
    | brk => exact False.elim hq'
    | cont => exact False.elim hq'
theorem pe_makeS (M : Mk X.K C f) (F : FnOk X.prog X.w X.K X.mg X.base CX k f fd ps sp) (hr : Room (k + 1) X.A) (hg : Gl X x) (hm : X.mg x = some (.ref C)) (hb : Binds X.K fd ps ds) (hd : Vals dvs ds) (hx : ∀ σ, PassesAt CX X σ (E σ))
    (ha : PA X (e :: es) t) (hdb : (x == ("__debug__" : Str)) = false := by decide) (he : starEach (e :: es) X.env = (false, eval e X.env) :: starEach es X.env := by rfl) (hpl : (backTo pos (starEach es X.env)).any (·.1) = false := by rfl) :
    PE X (.Call (.Name x p) (e :: es) [] pos) (tMakeS C sp dvs E t) := by
  refine ⟨fun pins s σ H Q I h => ?_⟩
  refine wpAny_Call_Name_kw (ld_glob I hg hm ?_ hdb)
  refine PySem.W.callWith_K (h₀ := X.base) I.ok.mod.kin M.kp (thn (ha.run pos pins s σ H _ I h) fun us s1 ⟨vs, H1, I1, r, q⟩ => ⟨I1.kIn, ?_⟩) he hpl
  exact run_makeS M F hr hb hd hx I1 r q
end
end L2
namespace Qp
open PySem L2
structure Nm (ns : List Str) : Prop where
  nd : ns.Nodup
  nm : ∀ z ∈ ns, nameS z = true
  len : ns.length ≤ 16
theorem opn_congr {ns : List Str} {ws ws' : Str → List Str} (e : ∀ a ∈ ns, ws' a = ws a) (g : ∀ a ∈ ns, GRow ns a (ws a)) {a : Str} (ha : a ∈ ns) : opn ws' a = opn ws a := by
  unfold opn
  rw [e a ha]
  refine List.filter_congr fun b hb => ?_
  rw [e b ((g a ha).2 b hb).1]
theorem GroupAt.congr {C : Addr} {H : Hp} {p : Addr} {ns : List Str} {ws ws' : Str → List Str} (h : GroupAt C H p ns ws) (e : ∀ a ∈ ns, ws' a = ws a) (g : ∀ a ∈ ns, GRow ns a (ws a)) : GroupAt C H p ns ws' := by
  obtain ⟨dx, a, d1, d2, d3, hp, ha, ⟨a1, e1, r1⟩, ⟨a2, e2, r2⟩, a3, e3, r3⟩ := h
  refine ⟨dx, a, d1, d2, d3, hp, ha, ⟨a1, e1, fun q hq => ?_⟩, ⟨a2, e2, fun q hq => ?_⟩, a3, e3, fun q hq => ?_⟩
  · show H (a1 q) = some (lstO (ws' q)) ∧ _
    rw [e q hq]
    exact r1 q hq
  · show H (a2 q) = some (lstO (opn ws' q)) ∧ _
    rw [opn_congr e g hq]
    exact r2 q hq
  · show H (a3 q) = some (rnkO (opn ws' q)) ∧ _
    rw [opn_congr e g hq]
    exact r3 q hq
theorem lst_int (ss : List Str) (n z : Int) : lstO ss ≠ .lst [.int n, .int z] := by
  intro e
  unfold lstO at e
  have e := HO.lst.inj e
  cases ss with
  | nil => cases e
  | cons x r =>
    rw [List.map_cons] at e
    cases e
theorem RowsG.butS {H H' : Hp} {st : Addr} {n z : Int} (s : SameBut st H H') (hs : H st = some (.lst [.int n, .int z])) {d : Addr} {ps : List Str} {cnt : Str → HO} (R : RowsG H d ps cnt) (hc : ∀ a, cnt a ≠ .lst [.int n, .int z]) : RowsG H' d ps cnt := by
  obtain ⟨ad, e, q⟩ := R
  exact ⟨ad, s _ _ (ne_of e hs (by intro z; cases z)) e, fun a ha => ⟨s _ _ (ne_of (q a ha).1 hs (hc a)) (q a ha).1, (q a ha).2⟩⟩
theorem GroupAt.butS {C : Addr} {H H' : Hp} {st : Addr} {n z : Int} (s : SameBut st H H') (hs : H st = some (.lst [.int n, .int z])) {p : Addr} {ns : List Str} {ws : Str → List Str} (h : GroupAt C H p ns ws) : GroupAt C H' p ns ws := by
  obtain ⟨dx, a, d1, d2, d3, hp, ha, r1, r2, r3⟩ := h
  exact ⟨dx, a, d1, d2, d3, s _ _ (ne_of hp hs (by intro z; cases z)) hp, s _ _ (ne_of ha hs (by intro z; cases z)) ha, RowsG.butS s hs r1 (fun _ => lst_int _ _ _), RowsG.butS s hs r2 (fun _ => lst_int _ _ _), RowsG.butS s hs r3 (fun _ => by intro z; cases z)⟩
theorem tupNs {H : Hp} {T : Addr} {ns : List Str} (h : H T = some (.tup (ns.map V.str))) (hnm : ∀ z ∈ ns, nameS z = true) (hl : ns.length ≤ 16) : TupOf H (.ref T) (some (ns.map V.str)) := by
  refine ⟨.tup, .tup h, T, rfl, h, fun y hy => ?_, by rw [List.length_map]; omega⟩
  obtain ⟨z, hz, rfl⟩ := List.mem_map.mp hy
  have := hnm z hz
  refine GoodE.str ?_
  unfold nameS at this
  rw [Bool.and_eq_true, Bool.and_eq_true] at this
  have := of_decide_eq_true this.1.2
  omega
theorem ns_eq {ns ps : List Str} (e : some (ns.map V.str) = some (ps.map V.str)) : ns = ps := by
  have : unS (some (ns.map V.str)) = unS (some (ps.map V.str)) := by rw [e]
  rw [unS_map, unS_map] at this
  exact this
/-- Group(people, wishes) of good ones -/
theorem gmake {C CB CW p dx T d : Addr} {H : Hp} {ns order : List Str} {ws : Str → List Str} {Q : VK} {E : XK} (hp : H p = some (.ins C dx [])) (hT : H T = some (.tup (ns.map V.str))) (N : Nm ns) (R : RowsG H d order (fun a => lstO (ws a))) (pm : order.Perm ns) (g : ∀ a ∈ ns, GRow ns a (ws a))
    (k : ∀ H', SameBut p H H' → GroupAt C H' p ns ws → Q .non H') : spGI C CB CW [.ref p, .ref T, .ref d] H Q E := by
  obtain ⟨ad, eW, rW⟩ := R
  refine ⟨p, dx, .ref T, .ref d, some (ns.map V.str), .dct, rfl, hp, tupNs hT N.nm N.len, .dct eW, fun i hi => ?_, fun a ps _ ho _ _ _ _ => ⟨fun hk => absurd rfl hk, fun d' kvs ed hd => ?_⟩⟩
  · rw [due_ok N.nd N.nm N.len] at hi
    cases hi
  · cases ed
    obtain rfl : ns = ps := ns_eq ho
    have ek : kvs = order.map fun a => ((Sum.inr a : Key), V.ref (ad a)) := by
      rw [eW] at hd
      cases hd
      rfl
    subst ek
    refine ⟨fun e => ?_, fun _ => ⟨fun q => some ((ws q).map V.str), fun q hq => ⟨_, valV_rows (pm.mem_iff.mpr hq), .lst, .lst (rW q (pm.mem_iff.mpr hq)).1, ad q, rfl, (rW q (pm.mem_iff.mpr hq)).1, fun y hy => ?_⟩, fun _ ws' H6 hws _ sbp hG => ?_, fun ys pre post q hys _ es _ hq => ?_⟩⟩
    · rw [hasB_of pm] at e
      cases e
    · obtain ⟨z, _, rfl⟩ := List.mem_map.mp hy
      exact .flat rfl
    · have ews : ∀ q ∈ ns, ws q = ws' q := fun q hq => by
        have e : (ws q).map V.str = (ws' q).map V.str := Option.some.inj (hws q hq)
        exact ns_eq (by rw [e])
      exact k H6 sbp (hG.congr ews fun a ha => by rw [← ews a ha]; exact g a ha)
    · have h := okW_of (g q (hys.mem_iff.mp (by rw [es]; exact List.mem_append_right _ List.mem_cons_self)))
      have hq' : okW ns q (some ((ws q).map V.str)) = false := hq
      rw [h] at hq'
      cases hq'
end Qp
/-! x == z, x != z: x of any kind, z a text -/
namespace L2
open PySem PySem.Spec PyProof.Rows
open AutoSeq1 (wpAny_loadPart')
open MeetsSeq MeetsSeq2 MeetsSeq3 SeqRoads2 SeqAt
theorem q_str_ne_dict (b : Str) (u : Tok) (l : Addr) (o : Obj) (hc : o.cls = .type "dict") (hd : ∃ es ep, o.data = .dict es ep) :
    Meets (Builtin.«str.__ne__» ⟨[.str b u, .ref l], []⟩) (fun _ R s => s.heap.get? l = some o ∧ R (.ok (.ret .notImplemented)) s) :=
  .of_wp fun prog w A R s h => by
    obtain ⟨hp, g, d, tk, os⟩ := s; obtain ⟨hl, h⟩ := h
    obtain ⟨c, dd, dt, sl⟩ := o
    obtain ⟨es, ep, hd⟩ := hd
    simp only at hc hd
    subst hc hd
    wp_walk using wpAny_loadPart' hl, wpAny_load hl; exact ⟨_, rfl, h⟩
theorem q_dict_ne_str (l : Addr) (o : Obj) (hc : o.cls = .type "dict") (b : Str) (u : Tok) :
    Meets (Builtin.«dict.__ne__» ⟨[.ref l, .str b u], []⟩) (fun _ R s => s.heap.get? l = some o ∧ R (.ok (.ret .notImplemented)) s) :=
  .of_wp fun prog w A R s h => by
    obtain ⟨hp, g, d, tk, os⟩ := s; obtain ⟨hl, h⟩ := h
    have f1 := F.sub_str_dict
    show wpAny _ _ (Builtin.Dict.dictSlotArgs "__ne__" ⟨[.ref l, .str b u], []⟩ >>= _) _ _ _
    refine wpAny_bind ?_
    unfold Builtin.Dict.dictSlotArgs
    refine wpAny_bind (wpAny_notOrdered_dict (show Shared.TypeIs ⟨hp, g, d, tk, os⟩ (.ref l) "dict" from ⟨_, hl, hc⟩) ?_)
    show wpAny _ _ (pure (Value.ref l, Value.str b u)) _ _ _
    refine wpAny_pure ?_
    wp_walk
    exact ⟨_, rfl, h⟩
theorem rc_dict_str {A : Around} {s : Shared} {l : Addr} {o : Obj} (b : Str) (u : Tok) (hl : s.heap.get? l = some o) (hc : o.cls = .type "dict") (hd : ∃ es ep, o.data = .dict es ep) (hu : A.units < cLine) : RcAt A s (.ref l) (.str b u) false := fun prog w E Q h =>
  rc_eq_decline_or (k := false) ⟨_, hl, hc⟩ (typeIs_str s b u) (by decide) F.sub_str_dict F.slot_dict_eq F.slot_str_eq_refl
    (fun _ hq => call_meets F.slot_dict_eq ⟨_, hl, hc⟩ F.entry_dict_eq (F.args_dict_eq_2 _ _) (q_dict_eq_str l o hc b u) ⟨hl, hq⟩)
    (fun _ hq => call_meets F.slot_str_eq_refl (typeIs_str s b u) F.entry_str_eq (F.args_str_eq_2 _ _) (q_str_eq_dict b u l o hc hd) ⟨hl, hq⟩)
    (fun _ hq => wpAny_of_eq (rfl : isSame (.ref l) (.str b u) = pure false) hq) (.inr hu) h
theorem rcne_dict_str {A : Around} {s : Shared} {l : Addr} {o : Obj} (b : Str) (u : Tok) (hl : s.heap.get? l = some o) (hc : o.cls = .type "dict") (hd : ∃ es ep, o.data = .dict es ep) (hu : A.units < cLine) : RcNeAt A s (.ref l) (.str b u) true := fun prog w E Q h =>
  rc_ne_decline_or (k := false) ⟨_, hl, hc⟩ (typeIs_str s b u) (by decide) F.sub_str_dict F.slot_dict_ne F.slot_str_ne_refl
    (fun _ hq => call_meets F.slot_dict_ne ⟨_, hl, hc⟩ F.entry_dict_ne (F.args_dict_ne_2 _ _) (q_dict_ne_str l o hc b u) ⟨hl, hq⟩)
    (fun _ hq => call_meets F.slot_str_ne_refl (typeIs_str s b u) F.entry_str_ne (F.args_str_ne_2 _ _) (q_str_ne_dict b u l o hc hd) ⟨hl, hq⟩)
    (fun _ hq => wpAny_of_eq (rfl : isSame (.ref l) (.str b u) = pure false) hq) (.inr hu) h
theorem str_dec {b z : Str} : (b == z) = decide (V.str b = V.str z) := by
  by_cases h : b = z
  · subst h; simp
  · have h2 : ¬ V.str b = V.str z := fun y => h (V.str.inj y)
    rw [decide_eq_false h2]
    simpa using h
section
variable {X : Cx}
def rEqT (neg : Bool) : R2 := fun x y H Q => ∃ k z, IsK H x k ∧ y = .str z ∧ Q (.bl (if neg then !decide (x = .str z) else decide (x = .str z))) H
theorem op_eqT (hu : X.A.units + 64 < cLine) : OpR X (compareOp .Eq) (rEqT false) := by
  intro pins s σ H x y v u Q I rx ry h
  obtain ⟨k, z, ik, rfl, q⟩ := h
  obtain ⟨t, rfl⟩ := ry
  have hu' : X.A.units < cLine := by omega
  have fin : ∀ r : Bool, r = decide (x = .str z) → RcAt X.A s v (.str z t) r → wpAny (model X.prog X.w) X.A (compareOp .Eq v (.str z t)) (EP X pins σ Q) X.xe s := fun r e key => by
    subst e
    exact key X.prog X.w X.xe _ ⟨.bl _, H, I, rfl, q⟩
  cases ik with
  | non => cases rx; exact fin _ (by simp) (RcAt.none_str z t)
  | bl b => cases rx; exact fin _ (by simp) (RcAt.bool_str b z t)
  | int b => obtain ⟨t', rfl⟩ := rx; exact fin _ (by simp) (RcAt.int_str b t' z t)
  | str b => obtain ⟨t', rfl⟩ := rx; exact fin _ str_dec (RcAt.str_str b t' z t)
  | @lst a xs h =>
    cases (show v = Value.ref a from rx)
    obtain ⟨_, its, n, _, h1⟩ := (show ObjOk X.prog X.w H s.heap a (.lst xs) from I.hok a _ h)
    exact fin _ (by simp) (RcAt.list_str (items := its.toArray) z t ⟨_, h1, rfl, n, rfl⟩ hu')
  | @tup a xs h =>
    cases (show v = Value.ref a from rx)
    obtain ⟨_, its, _, h1⟩ := (show ObjOk X.prog X.w H s.heap a (.tup xs) from I.hok a _ h)
    exact fin _ (by simp) (RcAt.tuple_str z t h1 hu')
  | @dct a kvs h =>
    cases (show v = Value.ref a from rx)
    obtain ⟨_, _, vs, _, o, es, ep, h1, h2, h3, _⟩ := (show ObjOk X.prog X.w H s.heap a (.dK kvs) from I.hok a _ h)
    exact fin _ (by simp) (rc_dict_str z t h1 h2.1 ⟨_, _, h3⟩ hu')
theorem op_neT (hu : X.A.units + 64 < cLine) : OpR X (compareOp .NotEq) (rEqT true) := by
  intro pins s σ H x y v u Q I rx ry h
  obtain ⟨k, z, ik, rfl, q⟩ := h
  obtain ⟨t, rfl⟩ := ry
  have hu' : X.A.units < cLine := by omega
  have fin : ∀ r : Bool, r = !decide (x = .str z) → RcNeAt X.A s v (.str z t) r → wpAny (model X.prog X.w) X.A (compareOp .NotEq v (.str z t)) (EP X pins σ Q) X.xe s := fun r e key => by
    subst e
    exact key X.prog X.w X.xe _ ⟨.bl _, H, I, rfl, q⟩
  cases ik with
  | non => cases rx; exact fin _ (by simp) (RcNeAt.none_str z t)
  | bl b => cases rx; exact fin _ (by simp) (RcNeAt.bool_str b z t)
  | int b => obtain ⟨t', rfl⟩ := rx; exact fin _ (by simp) (RcNeAt.int_str b t' z t)
  | str b => obtain ⟨t', rfl⟩ := rx; exact fin _ (by rw [str_dec]) (RcNeAt.str_str b t' z t)
  | @lst a xs h =>
    cases (show v = Value.ref a from rx)
    obtain ⟨_, its, n, _, h1⟩ := (show ObjOk X.prog X.w H s.heap a (.lst xs) from I.hok a _ h)
    exact fin _ (by simp) (RcNeAt.list_str (items := its.toArray) z t ⟨_, h1, rfl, n, rfl⟩ hu')
  | @tup a xs h =>
    cases (show v = Value.ref a from rx)
    obtain ⟨_, its, _, h1⟩ := (show ObjOk X.prog X.w H s.heap a (.tup xs) from I.hok a _ h)
    exact fin _ (by simp) (RcNeAt.tuple_str z t h1 hu')
  | @dct a kvs h =>
    cases (show v = Value.ref a from rx)
    obtain ⟨_, _, vs, _, o, es, ep, h1, h2, h3, _⟩ := (show ObjOk X.prog X.w H s.heap a (.dK kvs) from I.hok a _ h)
    exact fin _ (by simp) (rcne_dict_str z t h1 h2.1 ⟨_, _, h3⟩ hu')
/-- x != z, x a dict that is walked -/
def rNeF : R2 := fun x y H Q => ∃ a o kvs z, x = .ref a ∧ H a = some (.frz o (.dK kvs)) ∧ y = .str z ∧ Q (.bl true) H
theorem op_neF (hu : X.A.units + 64 < cLine) : OpR X (compareOp .NotEq) rNeF := by
  intro pins s σ H x y v u Q I rx ry h
  obtain ⟨a, ob, kvs, z, rfl, h, rfl, q⟩ := h
  obtain ⟨t, rfl⟩ := ry
  have hu' : X.A.units < cLine := by omega
  cases (show v = Value.ref a from rx)
  obtain ⟨_, _, _, vs, _, o, es, ep, h1, h2, h3, _⟩ := (show ObjOk X.prog X.w H s.heap a (.frz ob (.dK kvs)) from I.hok a _ h)
  exact rcne_dict_str z t h1 h2.1 ⟨_, _, h3⟩ hu' X.prog X.w X.xe _ ⟨.bl true, H, I, rfl, q⟩
end
end L2
namespace Qp
open PySem L2
/-- a value that may be no dealing -/
def DV (K : PySem.W.Frag) (H : Hp) (x : V) : Option (List (Key × V)) → Prop
  | none => NotD K H x
  | some kvs => ∃ d, x = .ref d ∧ H d = some (.dK kvs) ∧ ∀ key v, valV kvs key = some v → ∃ k, IsK H v k
theorem DV.same {K : PySem.W.Frag} {H H' : Hp} (s : Same H H') {x : V} {o : Option (List (Key × V))} (h : DV K H x o) : DV K H' x o := by
  cases o with
  | none => exact NotD.same s h
  | some kvs =>
    obtain ⟨a, e, h1, h2⟩ := h
    exact ⟨a, e, s _ _ h1, fun key v hv => (h2 key v hv).imp fun _ q => q.same s⟩
def unV : V → Str
  | .str z => z
  | _ => ""
def okD (kvs : List (Key × V)) (ns : List Str) (ws : Str → List Str) (a : Str) (v : V) : Bool := decide (v = .non) || (inS v ns && inS v (opn ws a) && decide (valV kvs (Sum.inr (unV v)) = some (.str a)))
def okA (kvs : List (Key × V)) (ns : List Str) (ws : Str → List Str) (a : Str) : Bool := match valV kvs (Sum.inr a) with
  | some v => okD kvs ns ws a v
  | none => false
def isD (ns : List Str) (ws : Str → List Str) : Option (List (Key × V)) → Bool
  | none => false
  | some kvs => hasB kvs ns && ns.all (okA kvs ns ws)
theorem has_all {kvs : List (Key × V)} {ns : List Str} (h : hasB kvs ns = true) : ∀ z ∈ ns, (valV kvs (Sum.inr z)).isSome = true := by
  unfold hasB at h
  rw [Bool.and_eq_true] at h
  exact List.all_eq_true.mp h.2
section
variable {P : Program} {w : World} {K : PySem.W.Frag} {mg : Str → Option Value} {base : Heap}
/-- _fits(group, x, a) -/
def spFits (C : Addr) : Sp := fun vs H Q _ => ∃ (p d : Addr) (a : Str) (ns : List Str) (ws : Str → List Str) (kvs : List (Key × V)), vs = [.ref p, .ref d, .str a] ∧ GroupAt C H p ns ws ∧ H d = some (.dK kvs) ∧ (∀ key v, valV kvs key = some v → ∃ k, IsK H v k) ∧ (∀ z ∈ ns, (valV kvs (Sum.inr z)).isSome = true) ∧ a ∈ ns ∧
  ∀ H', Same H H' → Q (.bl (okA kvs ns ws a)) H'
theorem ok_fits {f C : Addr} {fd : FuncData} (F : Fun K "_fits" "_fits" sfits f fd) (B : Bl mg) (T : GTxt K mg C) (mE : MF P w K mg base 2 C "__contains__" ["self", "x"] (spCon K C)) : FnOk P w K mg base CX0 3 f fd ["group", "x", "a"] (spFits C) := by
  obtain ⟨fE, fdE, FE, ME, bE⟩ := mE.ex
  refine F.ok scfits (fun vs H Q E h => ?_) (fun cdv A outer s H vs Q E hr h => ?_)
  · obtain ⟨p, d, a, ns, ws, kvs, rfl, _⟩ := h
    rfl
  · obtain ⟨p, d, a, ns, ws, kvs, rfl, hG, hd, hv, hall, han, kq⟩ := h
    have hu := hu_of hr
    have esz : sizeLine = 16777216 := sizeLine_eq
    refine ⟨_, pss_cons (ps_set (i := 3) scfits.nd rfl (Or.inl rfl) (pe_dget hu (pv 1) (pv 2) (fun _ _ => rfl)))
      (pss_one (ps_ret (pe_or (pe_cmp (pc_isN (pv 3)) rfl) (pe_one (pe_and (pe_cmpR (op_inO ME FE hr bE) (pe_tup (pa_cons (pv 2) (pa_cons (pv 3) pa_nil))) (pv 0) (by rfl)) (pe_one (pe_cmpR (op_eqT hr.units) (pe_dget hu (pv 1) (pv 3) (fun _ _ => rfl)) (pv 2) (nomark _)))))))), ?_⟩
    obtain ⟨v, ev⟩ := Option.isSome_iff_exists.mp (hall a han)
    obtain ⟨k, ik⟩ := hv _ _ ev
    have eA : okA kvs ns ws a = okD kvs ns ws a v := by unfold okA; rw [ev]
    rw [eA] at kq
    refine ⟨_, rfl, _, rfl, d, v, rfl, by rw [← ev]; exact DGet.k (k := Sum.inr a) hd, ?_⟩
    refine ⟨_, rfl, _, rfl, ?_⟩
    by_cases e : v = .non
    · rw [decide_eq_true e]
      unfold okD at kq
      rw [decide_eq_true e, Bool.true_or] at kq
      exact iteT (kq H (Same.refl H))
    · rw [decide_eq_false e]
      unfold okD at kq
      rw [decide_eq_false e, Bool.false_or] at kq
      refine iteF ⟨_, rfl, _, rfl, by show 2 ≤ sizeLine; omega, fun Tt hT => ?_⟩
      have s1 : Same H (upd H Tt (.tup [.str a, v])) := Same.new hT
      have eT : (upd H Tt (.tup [.str a, v])) Tt = some (.tup [.str a, v]) := upd_same
      generalize upd H Tt (.tup [.str a, v]) = H1 at s1 eT
      have hG1 := hG.same s1
      have hG2 := hG1
      obtain ⟨dx, _, _, _, _, hp, _⟩ := hG2
      refine ⟨_, rfl, p, dx, _, rfl, hp, p, .ref Tt, ns, ws, rfl, hG1, .inr ⟨Tt, a, v, rfl, eT, han, ⟨k, ik.same s1⟩, _, rfl, _, rfl, ?_⟩⟩
      cases ei : inS v ns && inS v (opn ws a) with
      | false =>
        rw [ei, Bool.false_and] at kq
        exact iteF (kq H1 s1)
      | true =>
        rw [ei, Bool.true_and] at kq
        refine iteT ?_
        obtain ⟨z, hz, rfl⟩ := inS_iff.mp (Bool.and_eq_true _ _ ▸ ei).1
        obtain ⟨u, eu⟩ := Option.isSome_iff_exists.mp (hall z hz)
        obtain ⟨k2, ik2⟩ := hv _ _ eu
        refine ⟨_, rfl, _, rfl, d, u, rfl, by rw [← eu]; exact DGet.k (k := Sum.inr z) (s1 _ _ hd), _, rfl, k2, a, ik2.same s1, rfl, ?_⟩
        have e2 : decide (valV kvs (Sum.inr (unV (V.str z))) = some (V.str a)) = decide (u = V.str a) := by
          show decide (valV kvs (Sum.inr z) = some (V.str a)) = _
          rw [eu]
          by_cases q : u = V.str a
          · rw [q]; simp
          · rw [decide_eq_false q, decide_eq_false fun z => q (Option.some.inj z)]
        rw [e2] at kq
        exact kq H1 s1
/-- is_dealing(group, x) -/
def spIsD (K : PySem.W.Frag) (C : Addr) : Sp := fun vs H Q _ => ∃ (p : Addr) (x : V) (ns : List Str) (ws : Str → List Str) (o : Option (List (Key × V))), vs = [.ref p, x] ∧ GroupAt C H p ns ws ∧ ns.length ≤ 60 ∧ DV K H x o ∧ ∀ H', Same H H' → Q (.bl (isD ns ws o)) H'
theorem ok_isD {f C fI : Addr} {fdI : FuncData} {fd : FuncData} (F : Fun K "is_dealing" "is_dealing" sisdealing f fd) (B : Bl mg) (T : GTxt K mg C) (cH : CF P w K mg base CX0 1 "has_keys" ["value", "names"] (spHas K)) (cF : CF P w K mg base CX0 3 "_fits" ["group", "x", "a"] (spFits C))
    (mP : MF P w K mg base 1 C "people" ["self"] (spPeople C)) (MI : Meth K C "__iter__" fI) (bI : Binds K fdI ["self"] []) (FI : ∀ b', K.In b' → b'.Ns mainGlobals mg → FnOk P w K mg b' CX0 1 fI fdI ["self"] (spIter C b'.objs.size)) : FnOk P w K mg base CX0 4 f fd ["group", "x"] (spIsD K C) := by
  obtain ⟨fP, fdP, FP, MP, bP⟩ := mP.ex
  refine F.ok scisdealing (fun vs H Q E h => ?_) (fun cdv A outer s H vs Q E hr h => ?_)
  · obtain ⟨p, x, ns, ws, o, rfl, _⟩ := h
    rfl
  · obtain ⟨p, x, ns, ws, o, rfl, hG, hlen, hx, kq⟩ := h
    have hr1 : Room 1 _ := hr.mono (by decide)
    have esz : sizeLine = 16777216 := sizeLine_eq
    refine ⟨_, pss_one (ps_ret (pe_and (pe_cf cH hr1 pass0 (pa_cons (pv 1) (pa_cons (pe_meth0 (pv 0) T.cl MP FP hr1 bP .nil pass0) pa_nil)))
      (pe_one (pe_callB (cr_all rfl) (by rfl) B.all (by decide +kernel) (pa_cons (pe_lc (own := [("a", 2)]) (g := gName 2) (tt := tYes) rfl scisdealing.nd (pi_ownB (sp := fun m => spIter C m) MI FI hr1 bI (pv 0)) (blkOk_by (own := [("a", 2)]) (N := ["group", "x", "a"]) (sc := defScope sisdealing) (by decide +kernel))
        (fun _ _ _ _ _ => pg_name (i := 2) scisdealing.nd rfl (Or.inl rfl)) (fun _ _ _ _ _ => pts_nil) (fun _ _ _ _ _ => pe_cf cF hr pass0 (pa_cons (pv 0) (pa_cons (pv 1) (pa_cons (pv 2) pa_nil))))) pa_nil))))), ?_⟩
    have hG2 := hG
    obtain ⟨dx, _, _, _, _, hp, _⟩ := hG2
    refine ⟨_, rfl, _, rfl, p, dx, _, rfl, hp, gF_no _ _ _ _ (by decide +kernel) (by decide +kernel) (by decide +kernel) (by decide +kernel), p, ns, ws, rfl, hG, fun l hl => ?_⟩
    have s1 : Same H (upd H l (.lst (ns.map V.str))) := Same.new hl
    have el : (upd H l (.lst (ns.map V.str))) l = some (.lst (ns.map V.str)) := upd_same
    generalize upd H l (.lst (ns.map V.str)) = H1 at s1 el
    cases o with
    | none => exact .inl ⟨x, l, rfl, hx.same s1, fun H2 s2 => ⟨false, rfl, iteF (kq H2 (s1.trans s2))⟩⟩
    | some kvs =>
      obtain ⟨d, rfl, hd, hv⟩ := hx
      refine .inr ⟨.ref d, .dct, l, ns, rfl, .dct (s1 _ _ hd), .inl (SqL.of el), by omega, fun hk => absurd rfl hk, fun d' kvs' ed hd' H2 s2 => ?_⟩
      cases ed
      obtain rfl : kvs = kvs' := by
        rw [s1 _ _ hd] at hd'
        cases hd'
        rfl
      refine ⟨_, rfl, ?_⟩
      have s12 := s1.trans s2
      cases hB : hasB kvs ns with
      | false =>
        have kq : ∀ H', Same H H' → Q (.bl (hasB kvs ns && ns.all (okA kvs ns ws))) H' := kq
        rw [hB, Bool.false_and] at kq
        exact iteF (kq H2 s12)
      | true =>
        have kq : ∀ H', Same H H' → Q (.bl (hasB kvs ns && ns.all (okA kvs ns ws))) H' := kq
        rw [hB, Bool.true_and] at kq
        have hall := has_all hB
        have hG3 := hG.same s12
        have hG4 := hG3
        obtain ⟨dx, _, _, _, _, hp, _⟩ := hG4
        refine iteT ⟨_, rfl, p, dx, _, rfl, hp, fun m hm => ⟨p, ns, ws, rfl, hG3, fun it tp ht hit hmt => ⟨it, tp, rfl, hmt, upd_same, ?_⟩⟩⟩
        rw [ItX.dropH_upd hit]
        refine fun D hD => lc_it walk_tup (fun i H' => Same H2 H' ∧ H' D = some (.lst (((ns.take i).map (okA kvs ns ws)).map V.bl))) ⟨Same.new hD, upd_same⟩ (fun i H' _ z => SqT.of (z.1 _ _ ht)) ?_ ?_
        · rintro i y Hy H3 hi ⟨s3, e3⟩ ⟨rfl, hy⟩
          rw [List.length_map] at hi
          rw [List.getElem?_map] at hy
          cases ea : ns[i]? with
          | none => rw [ea] at hy; cases hy
          | some a =>
            rw [ea] at hy
            cases hy
            have s13 := s12.trans s3
            refine ⟨rfl, lcTurn ⟨_, rfl, _, rfl, _, rfl, p, d, a, ns, ws, kvs, rfl, hG.same s13, s13 _ _ hd, fun key v h => (hv key v h).imp fun _ q => q.same s13, hall, List.mem_of_getElem? ea, fun H4 s4 => ⟨_, s4 _ _ e3, ?_, fun b' o' e' => ?_, ?_⟩⟩⟩
            · rw [List.length_map, List.length_map, List.length_take]
              omega
            · rw [upd_ne (ne_of_none e' hD)]
              exact s4 _ _ (s3 _ _ e')
            · rw [upd_same, take_snoc ea, List.map_append, List.map_append]
              rfl
        · rintro H3 ⟨s3, e3⟩
          rw [List.length_map, List.take_of_length_le (Nat.le_refl _)] at e3
          refine ⟨D, ns.map (okA kvs ns ws), rfl, SqL.of e3, ?_⟩
          have q := kq H3 (s12.trans s3)
          rw [List.all_map]
          exact q
end
end Qp
namespace Qp
open PySem L2
/-- a dealing's values, as they lie in it -/
structure DlA (kvs : List (Key × V)) (ns : List Str) (ws : Str → List Str) : Prop where
  v : ∀ a ∈ ns, valV kvs (Sum.inr a) = some .non ∨ ∃ h, valV kvs (Sum.inr a) = some (.str h) ∧ h ∈ ns ∧ h ∈ opn ws a
theorem dlA_of {kvs : List (Key × V)} {ns : List Str} {ws : Str → List Str} (h : isD ns ws (some kvs) = true) : DlA kvs ns ws := ⟨fun a ha => by
  have h : (hasB kvs ns && ns.all (okA kvs ns ws)) = true := h
  rw [Bool.and_eq_true, List.all_eq_true] at h
  have q := h.2 a ha
  unfold okA at q
  cases e : valV kvs (Sum.inr a) with
  | none => rw [e] at q; cases q
  | some v =>
    rw [e] at q
    simp only at q
    unfold okD at q
    rw [Bool.or_eq_true] at q
    rcases q with q | q
    · exact .inl (by rw [of_decide_eq_true q])
    · rw [Bool.and_eq_true, Bool.and_eq_true] at q
      obtain ⟨z, hz, rfl⟩ := inS_iff.mp q.1.1
      have q2 := q.1.2
      rw [inS_str] at q2
      exact .inr ⟨z, rfl, hz, of_decide_eq_true q2⟩⟩
/-- those whom a would rather have -/
def abv (kvs : List (Key × V)) (ws : Str → List Str) (a : Str) : List Str := match valV kvs (Sum.inr a) with
  | some (.str h) => (opn ws a).take ((opn ws a).idxOf h)
  | _ => opn ws a
/-- a pair that quarrels -/
def qB (kvs : List (Key × V)) (ws : Str → List Str) (p : Str × Str) : Bool := decide (p.2 ∈ abv kvs ws p.1) && decide (p.1 ∈ abv kvs ws p.2)
theorem idx_at {l : List Str} {z : Str} (h : z ∈ l) : l[l.idxOf z]? = some z := by
  have hlt := List.idxOf_lt_length_iff.mpr h
  rw [List.getElem?_eq_getElem hlt, List.getElem_idxOf hlt]
section
variable {P : Program} {w : World} {K : PySem.W.Frag} {mg : Str → Option Value} {base : Heap}
/-- _above(group, x, a) -/
def spAb (C : Addr) : Sp := fun vs H Q _ => ∃ (p d : Addr) (a : Str) (ns : List Str) (ws : Str → List Str) (kvs : List (Key × V)), vs = [.ref p, .ref d, .str a] ∧ GroupAt C H p ns ws ∧ H d = some (.dK kvs) ∧ (valV kvs (Sum.inr a) = some .non ∨ ∃ h, valV kvs (Sum.inr a) = some (.str h) ∧ h ∈ ns ∧ h ∈ opn ws a) ∧ a ∈ ns ∧ (opn ws a).Nodup ∧
  ∀ l H', Same H H' → H l = none → H' l = some (lstO (abv kvs ws a)) → Q (.ref l) H'
theorem ok_above {f C : Addr} {fd : FuncData} (F : Fun K "_above" "_above" sabove f fd) (B : Bl mg) (T : GTxt K mg C) (mO : MF P w K mg base 3 C "open_to" ["self", "a"] (spOpen C)) (mR : MF P w K mg base 4 C "rank" ["self", "a", "b"] (spRank C)) : FnOk P w K mg base CX0 5 f fd ["group", "x", "a"] (spAb C) := by
  obtain ⟨fO, fdO, FO, MO, bO⟩ := mO.ex
  obtain ⟨fR, fdR, FR, MR, bR⟩ := mR.ex
  refine F.ok scabove (fun vs H Q E h => ?_) (fun cdv A outer s H vs Q E hr h => ?_)
  · obtain ⟨p, d, a, ns, ws, kvs, rfl, _⟩ := h
    rfl
  · obtain ⟨p, d, a, ns, ws, kvs, rfl, hG, hd, hD, han, hnd, kq⟩ := h
    have hu := hu_of hr
    have hr3 : Room 3 _ := hr.mono (by decide)
    have esz : sizeLine = 16777216 := sizeLine_eq
    refine ⟨_, pss_cons (ps_set (i := 3) scabove.nd rfl (Or.inl rfl) (pe_meth (pv 0) T.cl MO FO hr3 bO .nil pass0 (pa_cons (pv 2) pa_nil)))
      (pss_one (ps_ret (pe_ifExp (pt_cmp (pc_isN (pe_dget hu (pv 1) (pv 2) (fun _ _ => rfl)))) (pv 3) (pe_slice sl_list (pv 3) po_none (po_some (pe_meth (pv 0) T.cl MR FR hr bR .nil pass0 (pa_cons (pv 2) (pa_cons (pe_dget hu (pv 1) (pv 2) (fun _ _ => rfl)) pa_nil)))))))), ?_⟩
    have hG2 := hG
    obtain ⟨dx, _, _, _, _, hp, _⟩ := hG2
    refine ⟨_, rfl, p, dx, _, rfl, hp, gF_no _ _ _ _ (by decide +kernel) (by decide +kernel) (by decide +kernel) (by decide +kernel), _, rfl, p, a, ns, ws, rfl, hG, han, fun l hl => ?_⟩
    have s1 : Same H (upd H l (lstO (opn ws a))) := Same.new hl
    have el : (upd H l (lstO (opn ws a))) l = some (lstO (opn ws a)) := upd_same
    generalize upd H l (lstO (opn ws a)) = H1 at s1 el
    rcases hD with ev | ⟨h, ev, hhn, hho⟩
    · have eab : abv kvs ws a = opn ws a := by unfold abv; rw [ev]
      refine ⟨_, rfl, _, rfl, d, .non, rfl, by rw [← ev]; exact DGet.k (k := Sum.inr a) (s1 _ _ hd), _, rfl, iteT ⟨_, rfl, kq l H1 s1 hl ?_⟩⟩
      rw [eab]
      exact el
    · have eab : abv kvs ws a = (opn ws a).take ((opn ws a).idxOf h) := by unfold abv; rw [ev]
      refine ⟨_, rfl, _, rfl, d, .str h, rfl, by rw [← ev]; exact DGet.k (k := Sum.inr a) (s1 _ _ hd), _, rfl, iteF ?_⟩
      have hG3 := hG.same s1
      have hG4 := hG3
      obtain ⟨dx, _, _, _, _, hp, _⟩ := hG4
      refine ⟨_, rfl, _, rfl, p, dx, _, rfl, hp, gF_no _ _ _ _ (by decide +kernel) (by decide +kernel) (by decide +kernel) (by decide +kernel), _, rfl, _, rfl, _, rfl, d, .str h, rfl, by rw [← ev]; exact DGet.k (k := Sum.inr a) (s1 _ _ hd), p, a, h, ns, ws, (opn ws a).idxOf h, rfl, hG3, han, hhn, hnd, idx_at hho, ?_⟩
      refine ⟨_, rfl, l, _, rfl, SqL.of el, fun l2 hl2 => ?_⟩
      refine kq l2 _ (s1.trans (Same.new hl2)) (s1.free hl2) ?_
      rw [upd_same, cut_to, eab]
      unfold lstO
      rw [List.map_take]
end
end Qp
namespace Qp
open PySem L2
section
variable {P : Program} {w : World} {K : PySem.W.Frag} {mg : Str → Option Value} {base : Heap}
/-- _law_mutual(names, wishes) -/
def spMut : Sp := fun vs H Q _ => ∃ (n d : Addr) (ns ord : List Str) (ws : Str → List Str), vs = [.ref n, .ref d] ∧ H n = some (lstO ns) ∧ RowsG H d ord (fun a => lstO (ws a)) ∧ ns.Nodup ∧ ns.length ≤ 1000 ∧ (∀ a ∈ ns, a ∈ ord ∧ (ws a).length ≤ 1000 ∧ ∀ b ∈ ws a, b ∈ ord) ∧
  ∀ D H', Same H H' → RowsG H' D ns (fun a => lstO (opn ws a)) → Q (.ref D) H'
theorem ok_mut {f : Addr} {fd : FuncData} (F : Fun K "_law_mutual" "_law_mutual" sLmutual f fd) (B : Bl mg) : FnOk P w K mg base CX0 1 f fd ["_law_names_here", "_law_wishes"] spMut := by
  refine F.ok scLmutual (fun vs H Q E h => ?_) (fun cdv A outer s H vs Q E hr h => ?_)
  · obtain ⟨n, d, ns, ord, ws, rfl, _⟩ := h
    rfl
  · obtain ⟨n, d, ns, ord, ws, rfl, hn, hR, hnd, hlen, hcl, kq⟩ := h
    have hu := hu_of hr
    have esz : sizeLine = 16777216 := sizeLine_eq
    refine ⟨_, pss_cons (ps_set (i := 2) scLmutual.nd rfl (Or.inl rfl) pe_dnewK)
      (pss_cons (ps_for PassesOwn.never rfl (pi_list (pv 0)) (pg_name (i := 3) scLmutual.nd rfl (Or.inr rfl))
        (pss_one (ps_dput hu (pv 2) (pv 3) (pe_lc (own := [("_law_b", 4)]) (g := gName 4) rfl scLmutual.nd (pi_list (pe_dget hu (pv 1) (pv 3) (fun _ _ => rfl))) (blkOk_by (own := [("_law_b", 4)]) (N := ["_law_names_here", "_law_wishes", "_law_mutual_here", "_law_a", "_law_b"]) (sc := defScope sLmutual) (by decide +kernel))
          (fun _ _ _ _ _ => pg_name (i := 4) scLmutual.nd rfl (Or.inl rfl)) (fun _ _ _ _ _ => pts_one (pt_cmpR (op_inSK (K := K) rfl hr.units) (pv 3) (pe_dget hu (pv 1) (pv 4) (fun _ _ => rfl)) (by rfl))) (fun _ _ _ _ _ => pv 4)) rfl)))
      (pss_one (ps_ret (pv 2)))), ?_⟩
    obtain ⟨ad, hd, hrows⟩ := hR
    refine fun D hD => ?_
    have s0 : Same H (upd H D (.dK [])) := Same.new hD
    have R0 : RowsG (upd H D (.dK [])) D [] (fun a => lstO (opn ws a)) := RowsG.nil upd_same
    generalize upd H D (.dK []) = H0 at s0 R0
    refine ⟨_, rfl, n, rfl, ⟨_, SqL.of (s0 _ _ hn)⟩, for_it walk_list (fun i σ H' => ∃ v : Option V, σ = [some (.ref n), some (.ref d), some (.ref D), v, none] ∧ Same H H' ∧ RowsG H' D (ns.take i) (fun a => lstO (opn ws a))) ⟨none, rfl, s0, R0⟩ (fun i σ H' _ ⟨_, _, z, _⟩ => SqL.of (z _ _ hn)) ?_ ?_⟩
    · rintro i x σ Hx H1 hi ⟨v, rfl, s1, R1⟩ ⟨rfl, hx⟩
      rw [List.length_map] at hi
      rw [List.getElem?_map] at hx
      cases ea : ns[i]? with
      | none => rw [ea] at hx; cases hx
      | some a =>
        rw [ea] at hx
        cases hx
        have ha : a ∈ ns := List.mem_of_getElem? ea
        obtain ⟨hao, hl1, hl2⟩ := hcl a ha
        have g2 : H1 (ad a) = some (lstO (ws a)) := s1 _ _ (hrows a hao).1
        have gL : SqL K H1 (ad a) ((ws a).map V.str) := SqL.of g2
        refine ⟨_, rfl, _, rfl, d, _, rfl, by rw [← valV_rows (ad := ad) hao]; exact DGet.k (k := Sum.inr a) (s1 _ _ hd), ad a, rfl, ⟨_, gL⟩, fun L hL2 => lc_it (walk_list (xs := (ws a).map V.str)) (fun j H' => Same H1 H' ∧ H' L = some (.lst ((((ws a).take j).filter fun b => decide (a ∈ ws b)).map V.str))) ⟨Same.new hL2, upd_same⟩ (fun j H' _ z => z.1.seq gL) ?_ ?_⟩
        · rintro j y Hy H2 hj ⟨s2, hL3⟩ ⟨rfl, hy⟩
          rw [List.length_map] at hj
          rw [List.getElem?_map] at hy
          cases eb : (ws a)[j]? with
          | none => rw [eb] at hy; cases hy
          | some b =>
            rw [eb] at hy
            cases hy
            have hb : b ∈ ord := hl2 b (List.mem_of_getElem? eb)
            have g4' : SqL K H2 (ad b) ((ws b).map V.str) := SqL.of (s2 _ _ (s1 _ _ (hrows b hb).1))
            refine ⟨rfl, _, rfl, _, rfl, _, rfl, d, _, rfl, by rw [← valV_rows (ad := ad) hb]; exact DGet.k (k := Sum.inr b) (s2 _ _ (s1 _ _ hd)), ad b, ws b, rfl, .inl g4', .flat rfl, _, rfl, ?_⟩
            have einS : inS (V.str a) (ws b) = decide (a ∈ ws b) := inS_str
            rw [einS]
            have tk : ((ws a).take (j + 1)).filter (fun b => decide (a ∈ ws b)) = ((ws a).take j).filter (fun b => decide (a ∈ ws b)) ++ [b].filter (fun b => decide (a ∈ ws b)) := by
              rw [take_snoc eb, List.filter_append]
            have hlt : ((((ws a).take j).filter fun b => decide (a ∈ ws b)).map V.str).length < sizeLine := by
              have q1 := List.length_filter_le (fun b => decide (a ∈ ws b)) ((ws a).take j)
              rw [List.length_take] at q1
              rw [List.length_map]
              omega
            by_cases em : a ∈ ws b
            · rw [decide_eq_true em]
              refine iteT ⟨_, rfl, _, hL3, hlt, fun b' o' e' => ?_, ?_⟩
              · rw [upd_ne (ne_of_none e' hL2)]
                exact s2 _ _ e'
              · rw [upd_same, tk, List.filter_cons_of_pos (by exact decide_eq_true em), List.filter_nil, List.map_append]
                rfl
            · rw [decide_eq_false em]
              refine iteF ⟨s2, ?_⟩
              rw [hL3, tk, List.filter_cons_of_neg (by rw [decide_eq_false em]; decide), List.filter_nil, List.append_nil]
        · rintro H2 ⟨s2, hL3⟩
          rw [List.length_map, List.take_of_length_le (Nat.le_refl _)] at hL3
          have hDL : L ≠ D := by
            obtain ⟨ad2, e2, _⟩ := R1
            intro z
            rw [z, e2] at hL2
            cases hL2
          obtain ⟨kvs, h1, h2, h3⟩ := R1.snoc s2 (not_mem_take hnd ea) (p := L) hL3 hDL
          refine ⟨_, rfl, _, rfl, D, _, rfl, DPut.k (k := Sum.inr a) h1 (by rw [h2, List.length_take]; omega), _, rfl, fun b o e => ?_, ?_⟩
          · rw [upd_ne (ne_of_none e hD)]
            exact s2 _ _ (s1 _ _ e)
          · rw [take_snoc ea]
            exact h3
    · rintro σ H1 ⟨v, rfl, s1, R1⟩
      rw [List.length_map, List.take_of_length_le (Nat.le_refl _)] at R1
      exact ⟨_, rfl, kq D H1 s1 R1⟩
end
end Qp
namespace Qp
open PySem L2
def leS (a b : Str) : Prop := a.cps.toList ≤ b.cps.toList
theorem rising_pw : ∀ (p : Str) (l : List Str), PyProof.Rows.risingS p l = true → (p :: l).Pairwise leS
  | p, [], _ => List.pairwise_singleton leS p
  | p, x :: r, h => by
    have h' : (!PySem.Spec.ltCps x.cps.toList p.cps.toList && PyProof.Rows.risingS x r) = true := h
    rw [Bool.and_eq_true] at h'
    obtain ⟨h1, h2⟩ := h'
    have ih := rising_pw x r h2
    have hpx : leS p x := by
      rw [PyProof.Rows.ltCps_eq] at h1
      have : ¬ (x.cps.toList < p.cps.toList) := by simpa using h1
      exact List.not_lt.mp this
    refine List.pairwise_cons.mpr ⟨fun y hy => ?_, ih⟩
    rcases List.mem_cons.mp hy with e | hy
    · rw [e]; exact hpx
    · exact List.le_trans hpx ((List.pairwise_cons.mp ih).1 y hy)
theorem sorted_pw {l : List Str} (h : PyProof.Rows.sortedS l = true) : l.Pairwise leS := by
  cases l with
  | nil => exact List.Pairwise.nil
  | cons x r => exact rising_pw x r h
/-! ### nested rows of sorted ones are sorted pairs -/
def pz (g : Str → List Str) (a : Str) : List (Str × Str) := ((g a).filter fun b => decide (a.cps.toList < b.cps.toList)).map fun b => (a, b)
theorem pz_srtd {g : Str → List Str} {a : Str} (h : (g a).Pairwise leS) : SrtO.Srtd ltZ (pz g a) := by
  unfold pz
  refine List.pairwise_map.mpr (List.Pairwise.imp (fun {b c} hbc => ?_) (h.filter _))
  show QP.lexS (a.cps.toList, c.cps.toList) (a.cps.toList, b.cps.toList) = false
  exact QP.lexS_no.mpr (.inl ⟨rfl, hbc⟩)
theorem pzs_srtd {g : Str → List Str} : ∀ {ys : List Str}, ys.Pairwise leS → ys.Nodup → (∀ a ∈ ys, (g a).Pairwise leS) → SrtO.Srtd ltZ (ys.flatMap (pz g))
  | [], _, _, _ => List.Pairwise.nil
  | a :: r, h, hn, hg => by
    obtain ⟨h1, h2⟩ := List.pairwise_cons.mp h
    obtain ⟨n1, n2⟩ := List.nodup_cons.mp hn
    rw [List.flatMap_cons]
    refine SrtO.srtd_app.mpr ⟨pz_srtd (hg a List.mem_cons_self), pzs_srtd h2 n2 fun b hb => hg b (List.mem_cons_of_mem _ hb), fun p hp q hq => ?_⟩
    obtain ⟨b, hb, rfl⟩ := List.mem_map.mp hp
    obtain ⟨c, hc, hq⟩ := List.mem_flatMap.mp hq
    obtain ⟨d, hd, rfl⟩ := List.mem_map.mp hq
    show QP.lexS (c.cps.toList, d.cps.toList) (a.cps.toList, b.cps.toList) = false
    refine QP.lexS_no.mpr (.inr ⟨fun e => ?_, h1 c hc⟩)
    exact n1 (str_ext e ▸ hc)
theorem flat_perm {g k : Str → List (Str × Str)} : ∀ {l : List Str}, (∀ a ∈ l, (g a).Perm (k a)) → (l.flatMap g).Perm (l.flatMap k)
  | [], _ => List.Perm.refl _
  | a :: r, h => by
    rw [List.flatMap_cons, List.flatMap_cons]
    exact (h a List.mem_cons_self).append (flat_perm fun b hb => h b (List.mem_cons_of_mem _ hb))
theorem pzs_perm {g ws : Str → List Str} {ys ps : List Str} (hy : ys.Perm ps) (hg : ∀ a ∈ ys, (g a).Perm (opn ws a)) : (ys.flatMap (pz g)).Perm (prs ps ws) := by
  refine (flat_perm fun a ha => ?_).trans (List.Perm.flatMap_right _ hy)
  exact ((hg a ha).filter _).map _
theorem ltZ_anti {p q : Str × Str} (h1 : ltZ p q = false) (h2 : ltZ q p = false) : p = q := by
  rcases QP.lexS_no.mp h1 with ⟨e1, l1⟩ | ⟨n1, l1⟩
  · rcases QP.lexS_no.mp h2 with ⟨e2, l2⟩ | ⟨n2, l2⟩
    · have a1 : p.1 = q.1 := str_ext e2
      have a2 : p.2 = q.2 := str_ext (List.le_antisymm l2 l1)
      exact Prod.ext a1 a2
    · exact absurd e1.symm n2
  · rcases QP.lexS_no.mp h2 with ⟨e2, l2⟩ | ⟨n2, l2⟩
    · exact absurd e2.symm n1
    · exact absurd (List.le_antisymm l1 l2) n1
theorem srtZ_uniq : ∀ {l m : List (Str × Str)}, SrtO.Srtd ltZ l → SrtO.Srtd ltZ m → l.Perm m → l = m
  | [], m, _, _, p => (List.Perm.eq_nil p.symm).symm
  | x :: l, [], _, _, p => absurd p.length_eq (by simp)
  | x :: l, y :: m, hl, hm, p => by
    have e : x = y := by
      rcases List.mem_cons.mp (p.mem_iff.mp (List.mem_cons_self (a := x) (l := l))) with e | q
      · exact e
      · rcases List.mem_cons.mp (p.mem_iff.mpr (List.mem_cons_self (a := y) (l := m))) with e | q2
        · exact e.symm
        · exact ltZ_anti ((List.pairwise_cons.mp hm).1 x q) ((List.pairwise_cons.mp hl).1 y q2)
    subst e
    rw [srtZ_uniq (List.pairwise_cons.mp hl).2 (List.pairwise_cons.mp hm).2 p.cons_inv]
theorem PairsAt.updL {H : Hp} {l b : Addr} {zs : List (Str × Str)} {xs ys : List V} (h : PairsAt H l zs) (e : H b = some (.lst xs)) (n : l ≠ b) : PairsAt (upd H b (.lst ys)) l zs := by
  obtain ⟨us, k, e1, q, r⟩ := h
  refine ⟨us, k, by rw [upd_ne n]; exact e1, fun y hy => ?_, r⟩
  obtain ⟨t, ey, et⟩ := q y hy
  exact ⟨t, ey, by rw [upd_ne (ne_of et e (by intro z; cases z))]; exact et⟩
section
variable {P : Program} {w : World} {K : PySem.W.Frag} {mg : Str → Option Value} {base : Heap}
/-- _law_pairs(mutual) -/
def spLP : Sp := fun vs H Q _ => ∃ (d : Addr) (ps : List Str) (rs : Str → List Str), vs = [.ref d] ∧ RowsG H d ps (fun a => lstO (rs a)) ∧ ps.Nodup ∧ ps.length < 64 ∧ (∀ a ∈ ps, (rs a).length < 64) ∧
  ∀ (l : Addr) (H' : Hp) (ys : List Str) (g : Str → List Str), Same H H' → ys.Perm ps → ys.Pairwise leS → (∀ a ∈ ys, (g a).Perm (rs a) ∧ (g a).Pairwise leS) → PairsAt H' l (ys.flatMap (pz g)) → Q (.ref l) H'
theorem ok_lp {f : Addr} {fd : FuncData} (F : Fun K "_law_pairs" "_law_pairs" sLpairs f fd) (B : Bl mg) : FnOk P w K mg base CX0 1 f fd ["_law_mutual_here"] spLP := by
  refine F.ok scLpairs (fun vs H Q E h => ?_) (fun cdv A outer s H vs Q E hr h => ?_)
  · obtain ⟨d, ps, rs, rfl, _⟩ := h
    rfl
  · obtain ⟨d, ps, rs, rfl, ⟨ad, hd, hrows⟩, hnd, hlen, hrl, kq⟩ := h
    have hu := hu_of hr
    have esz : sizeLine = 16777216 := sizeLine_eq
    refine ⟨_, pss_cons (ps_set (i := 1) scLpairs.nd rfl (Or.inl rfl) (pe_lst pa_nil))
      (pss_cons (ps_for PassesOwn.never rfl (pi_list (pe_callB cr_sortedS (by rfl) B.srt (by decide +kernel) (pa_cons (pe_callTy (call_listD rfl) (by rfl) B.lst (by decide +kernel) (pa_cons (pv 0) pa_nil)) pa_nil))) (pg_name (i := 2) scLpairs.nd rfl (Or.inl rfl))
        (pss_one (ps_for PassesOwn.never rfl (pi_list (pe_callB cr_sortedS (by rfl) B.srt (by decide +kernel) (pa_cons (pe_dget hu (pv 0) (pv 2) (fun _ _ => rfl)) pa_nil))) (pg_name (i := 3) scLpairs.nd rfl (Or.inl rfl))
          (pss_one (ps_if (pt_cmpR op_lt_str (pv 2) (pv 3) (nomark _)) (pss_one (ps_expr (pe_bm PySem.F.plainAttrs_list PySem.F.slot_list_append PySem.F.type_list_append mt_append (pv 1) (pa_cons (pe_tup (pa_cons (pv 2) (pa_cons (pv 3) pa_nil))) pa_nil)))) pss_nil)))))
      (pss_one (ps_ret (pv 1)))), ?_⟩
    refine ⟨by show 0 ≤ sizeLine; exact Nat.zero_le _, fun R hR => ?_⟩
    have s0 : Same H (upd H R (.lst [])) := Same.new hR
    have P0 : PairsAt (upd H R (.lst [])) R [] := PairsAt.nil upd_same
    generalize upd H R (.lst []) = H0 at s0 P0
    have ek : ((ps.map fun a => ((Sum.inr a : Key), V.ref (ad a))).map fun kv => kV kv.1) = ps.map V.str := by
      rw [List.map_map]
      rfl
    refine ⟨_, rfl, d, _, rfl, .inl (s0 _ _ hd), fun p hp => ?_⟩
    have s1 : Same H0 (upd H0 p (.lst ((ps.map fun a => ((Sum.inr a : Key), V.ref (ad a))).map fun kv => kV kv.1))) := Same.new hp
    have ep : (upd H0 p (.lst ((ps.map fun a => ((Sum.inr a : Key), V.ref (ad a))).map fun kv => kV kv.1))) p = some (.lst (ps.map V.str)) := by rw [upd_same, ek]
    generalize upd H0 p (.lst ((ps.map fun a => ((Sum.inr a : Key), V.ref (ad a))).map fun kv => kV kv.1)) = H1 at s1 ep
    refine ⟨p, ps, rfl, SqL.of ep, hlen, fun ys q hys hss hq => ?_⟩
    have s2 : Same H1 (upd H1 q (.lst (ys.map V.str))) := Same.new hq
    have eq : (upd H1 q (.lst (ys.map V.str))) q = some (.lst (ys.map V.str)) := upd_same
    have nqR : q ≠ R := fun z => by
      obtain ⟨ys0, k0, e0, _⟩ := P0
      rw [z, s1 _ _ e0] at hq
      cases hq
    have P2 := (P0.same s1).same s2
    generalize upd H1 q (.lst (ys.map V.str)) = H2 at s2 eq P2
    have s02 : Same H H2 := (s0.trans s1).trans s2
    have hyl : ys.length = ps.length := hys.length_eq
    have hfr : ∀ b o, H b = some o → b ≠ R := fun b o e => ne_of_none e hR
    refine ⟨q, rfl, ⟨_, SqL.of eq⟩, for_it walk_list (fun i σ H' => ∃ (v2 v3 : Option V) (g : Str → List Str), σ = [some (.ref d), some (.ref R), v2, v3] ∧ Same H H' ∧ H' q = some (.lst (ys.map V.str)) ∧ (∀ a ∈ ys.take i, (g a).Perm (rs a) ∧ (g a).Pairwise leS) ∧ PairsAt H' R ((ys.take i).flatMap (pz g)) ∧ ((ys.take i).flatMap (pz g)).length ≤ i * 64)
      ⟨none, none, fun _ => [], rfl, s02, eq, (fun a ha => by rw [List.take_zero] at ha; cases ha), by rw [List.take_zero]; exact P2, by rw [List.take_zero]; exact Nat.zero_le _⟩ (fun i σ H' _ ⟨_, _, _, _, _, z, _⟩ => SqL.of z) ?_ ?_⟩
    · rintro i x σ Hx H3 hi ⟨v2, v3, g, rfl, s3, eq3, hg, P3, hl3⟩ ⟨rfl, hx⟩
      rw [List.length_map] at hi
      rw [List.getElem?_map] at hx
      cases ea : ys[i]? with
      | none => rw [ea] at hx; cases hx
      | some a =>
        rw [ea] at hx
        cases hx
        have haq : a ∈ ps := hys.mem_iff.mp (List.mem_of_getElem? ea)
        have hat : a ∉ ys.take i := not_mem_take (hys.nodup_iff.mpr hnd) ea
        refine ⟨_, rfl, _, rfl, d, _, rfl, by rw [← valV_rows (ad := ad) haq]; exact DGet.k (k := Sum.inr a) (s3 _ _ hd), ad a, rs a, rfl, SqL.of (s3 _ _ (hrows a haq).1), hrl a haq, fun zs b hzs hzss hb => ?_⟩
        have s4 : Same H3 (upd H3 b (.lst (zs.map V.str))) := Same.new hb
        have eb4 : (upd H3 b (.lst (zs.map V.str))) b = some (.lst (zs.map V.str)) := upd_same
        have nbR : b ≠ R := fun z => by
          obtain ⟨ys0, k0, e0, _⟩ := P3
          rw [z, e0] at hb
          cases hb
        have P4 := P3.same s4
        have hfb : H b = none := by
          cases e : H b with
          | none => rfl
          | some o =>
            rw [s3 _ _ e] at hb
            cases hb
        have eq4 := s4 _ _ eq3
        have nqb : q ≠ b := ne_of_none eq3 hb
        generalize upd H3 b (.lst (zs.map V.str)) = H4 at s4 eb4 P4 eq4
        have hzl := hzs.length_eq
        have hra := hrl a haq
        refine ⟨b, rfl, ⟨_, SqL.of eb4⟩, for_it walk_list (fun j σ H' => ∃ v3 : Option V, σ = [some (.ref d), some (.ref R), some (.str a), v3] ∧ Same H H' ∧ H' q = some (.lst (ys.map V.str)) ∧ H' b = some (.lst (zs.map V.str)) ∧ PairsAt H' R ((ys.take i).flatMap (pz g) ++ ((zs.take j).filter fun c => decide (a.cps.toList < c.cps.toList)).map fun c => (a, c)))
          ⟨v3, rfl, s3.trans s4, eq4, eb4, by rw [List.take_zero, List.filter_nil, List.map_nil, List.append_nil]; exact P4⟩ (fun j σ H' _ ⟨_, _, _, _, z, _⟩ => SqL.of z) ?_ ?_⟩
        · rintro j y σ Hy H5 hj ⟨v3, rfl, s5, eq5, eb5, P5⟩ ⟨rfl, hy⟩
          rw [List.length_map] at hj
          rw [List.getElem?_map] at hy
          cases ec : zs[j]? with
          | none => rw [ec] at hy; cases hy
          | some c =>
            rw [ec] at hy
            cases hy
            refine ⟨_, rfl, _, rfl, a, c, rfl, rfl, _, rfl, ?_⟩
            by_cases hlt : a.cps.toList < c.cps.toList
            · rw [decide_eq_true hlt]
              obtain ⟨ys0, k0, ed0, _⟩ := id P5
              refine iteT ⟨_, rfl, .inl ⟨rfl, _, SqL.of ed0⟩, _, rfl, _, rfl, by show 2 ≤ sizeLine; omega, fun Tt hT => ?_⟩
              obtain ⟨ys1, g1, g2, g3⟩ := P5.snoc (a := a) (b := c) hT
              have nbl : ((zs.take j).filter fun c => decide (a.cps.toList < c.cps.toList)).length ≤ 64 := by
                have q2 := List.length_filter_le (fun c => decide (a.cps.toList < c.cps.toList)) (zs.take j)
                rw [List.length_take] at q2
                omega
              refine ⟨R, ys1, .ref Tt, rfl, rfl, g1, ?_, _, rfl, fun b' o e => ?_, ?_, ?_, ?_⟩
              · rw [g2, List.length_append, List.length_map]
                omega
              · rw [upd_ne (hfr _ _ e), upd_ne (ne_of_none (s5 _ _ e) hT)]
                exact s5 _ _ e
              · rw [upd_ne nqR, upd_ne (ne_of_none eq5 hT)]
                exact eq5
              · rw [upd_ne nbR, upd_ne (ne_of_none eb5 hT)]
                exact eb5
              · rw [take_snoc ec, List.filter_append, List.filter_cons_of_pos (by rw [decide_eq_true hlt]), List.filter_nil, List.map_append, ← List.append_assoc]
                exact g3
            · rw [decide_eq_false hlt]
              refine iteF ⟨_, rfl, s5, eq5, eb5, ?_⟩
              rw [take_snoc ec, List.filter_append, List.filter_cons_of_neg (by rw [decide_eq_false hlt]; decide), List.filter_nil, List.append_nil]
              exact P5
        · rintro σ H5 ⟨v3, rfl, s5, eq5, eb5, P5⟩
          rw [List.length_map, List.take_of_length_le (Nat.le_refl _)] at P5
          have fl : (ys.take (i + 1)).flatMap (pz fun x => if x = a then zs else g x) = (ys.take i).flatMap (pz g) ++ (zs.filter fun c => decide (a.cps.toList < c.cps.toList)).map fun c => (a, c) := by
            rw [take_snoc ea, List.flatMap_append]
            congr 1
            · have : ∀ (l : List Str), (∀ x ∈ l, x ≠ a) → l.flatMap (pz fun x => if x = a then zs else g x) = l.flatMap (pz g) := fun l hl => by
                induction l with
                | nil => rfl
                | cons x r ih =>
                  rw [List.flatMap_cons, List.flatMap_cons, ih fun y hy => hl y (List.mem_cons_of_mem _ hy)]
                  unfold pz
                  dsimp only
                  rw [if_neg (hl x List.mem_cons_self)]
              exact this _ fun x hx e => hat (e ▸ hx)
            · rw [List.flatMap_cons, List.flatMap_nil, List.append_nil]
              unfold pz
              dsimp only
              rw [if_pos rfl]
          refine ⟨_, _, fun x => if x = a then zs else g x, rfl, s5, eq5, fun x hx => ?_, ?_, ?_⟩
          · show (if x = a then zs else g x).Perm (rs x) ∧ (if x = a then zs else g x).Pairwise leS
            by_cases e : x = a
            · rw [if_pos e, e]
              exact ⟨hzs, sorted_pw hzss⟩
            · rw [if_neg e]
              refine hg x ?_
              rw [take_snoc ea] at hx
              rcases List.mem_append.mp hx with h | h
              · exact h
              · exact absurd (by simpa using h) e
          · rw [fl]
            exact P5
          · rw [fl, List.length_append, List.length_map]
            have q2 := List.length_filter_le (fun c => decide (a.cps.toList < c.cps.toList)) zs
            omega
    · rintro σ H3 ⟨v2, v3, g, rfl, s3, eq3, hg, P3, _⟩
      rw [List.length_map, List.take_of_length_le (Nat.le_refl _)] at hg P3
      exact ⟨_, rfl, kq R H3 ys g s3 hys (sorted_pw hss) hg P3⟩
end
end Qp
namespace Qp
open PySem L2
theorem strOk_name {z : Str} (h : nameS z = true) : PyData.strOk z = true := by
  unfold nameS at h
  rw [Bool.and_eq_true] at h
  have h2 := h.2
  rw [List.all_eq_true] at h2
  unfold PyData.strOk
  rw [Array.all_eq_true']
  intro c hc
  have q := h2 c (by simpa using hc)
  unfold lowC at q
  rw [Bool.and_eq_true] at q
  have := of_decide_eq_true q.2
  exact decide_eq_true (by omega)
theorem lay_all : ∀ {ds : List PyData}, (∀ d ∈ ds, PyData.canLay0 d = true) → PyData.canLayAll0 ds = true
  | [], _ => by simp [PyData.canLayAll0]
  | d :: ds, h => by
    have ih := lay_all (ds := ds) fun y hy => h y (List.mem_cons_of_mem _ hy)
    unfold PyData.canLayAll0
    rw [h d List.mem_cons_self, ih]
    rfl
theorem depth_all : ∀ {ds : List PyData} {n : Nat}, (∀ d ∈ ds, PyData.depth d ≤ n) → PyData.depthAll ds ≤ n
  | [], _, _ => by simp [PyData.depthAll]
  | d :: ds, n, h => by
    have ih := depth_all (ds := ds) (n := n) fun y hy => h y (List.mem_cons_of_mem _ hy)
    have h1 := h d List.mem_cons_self
    unfold PyData.depthAll
    omega
theorem shaped_list {ds : List PyData} (h : ∀ d ∈ ds, PyData.canLay0 d = true ∧ PyData.depth d ≤ 9) : SeqAt.shaped (.list ds) = true := by
  unfold SeqAt.shaped
  rw [Bool.and_eq_true]
  refine ⟨?_, decide_eq_true ?_⟩
  · unfold PyData.canLay0
    exact lay_all fun d hd => (h d hd).1
  · have := depth_all (n := 9) fun d hd => (h d hd).2
    simp only [PyData.depth]
    omega
theorem str_data {z : Str} (h : nameS z = true) : PyData.canLay0 (.str z) = true ∧ PyData.depth (.str z) ≤ 9 := by
  constructor
  · unfold PyData.canLay0
    exact strOk_name h
  · simp [PyData.depth]
theorem pair_data {p : Str × Str} (h1 : nameS p.1 = true) (h2 : nameS p.2 = true) : PyData.canLay0 (.tuple [.str p.1, .str p.2]) = true ∧ PyData.depth (.tuple [.str p.1, .str p.2]) ≤ 9 := by
  constructor
  · unfold PyData.canLay0
    exact lay_all fun d hd => by
      rcases List.mem_cons.mp hd with e | hd
      · rw [e]; exact (str_data h1).1
      · have e : d = .str p.2 := by simpa using hd
        rw [e]; exact (str_data h2).1
  · simp [PyData.depth, PyData.depthAll]
theorem dp_strs {K : PySem.W.Frag} {H : Hp} : ∀ zs : List Str, DpAll K H (zs.map V.str) (zs.map PyData.str)
  | [] => .nil
  | z :: zs => .cons (.str z) (dp_strs zs)
theorem dp_pairs {K : PySem.W.Frag} {H : Hp} {k : V → Str × Str} : ∀ {ys : List V}, (∀ y ∈ ys, ∃ t, y = .ref t ∧ H t = some (.tup [.str (k y).1, .str (k y).2])) → DpAll K H ys ((ys.map k).map fun p => PyData.tuple [.str p.1, .str p.2])
  | [], _ => .nil
  | y :: ys, h => by
    obtain ⟨t, e1, e2⟩ := h y List.mem_cons_self
    have ih := dp_pairs (K := K) (k := k) (ys := ys) fun z hz => h z (List.mem_cons_of_mem _ hz)
    refine .cons ?_ ih
    subst e1
    exact .tup (SqT.of e2) (.cons (.str _) (.cons (.str _) .nil))
end Qp
namespace Qp
open PySem L2
def vD (kvs : List (Key × V)) (a : Str) : V := (valV kvs (Sum.inr a)).getD .non
/-- whether a would rather have b than what a has -/
def rt (ws : Str → List Str) (a b : Str) : V → Bool
  | .str h => decide ((opn ws a).idxOf b < (opn ws a).idxOf h)
  | _ => true
def qL (kvs : List (Key × V)) (ws : Str → List Str) (p : Str × Str) : Bool := !decide (vD kvs p.1 = .str p.2) && (rt ws p.1 p.2 (vD kvs p.1) && rt ws p.2 p.1 (vD kvs p.2))
theorem mem_take_idx : ∀ {l : List Str} {b : Str} {k : Nat}, b ∈ l → (b ∈ l.take k ↔ l.idxOf b < k)
  | [], _, _, h => by cases h
  | x :: r, b, 0, h => by simp
  | x :: r, b, k + 1, h => by
    by_cases e : x = b
    · subst e
      simp
    · have hb : b ∈ r := by
        rcases List.mem_cons.mp h with q | q
        · exact absurd q.symm e
        · exact q
      have ih := mem_take_idx (k := k) hb
      have ei : (x :: r).idxOf b = r.idxOf b + 1 := by
        rw [List.idxOf_cons, beq_false_of_ne e]
        rfl
      rw [List.take_succ_cons, List.mem_cons, ei]
      constructor
      · rintro (q | q)
        · exact absurd q.symm e
        · have := ih.mp q
          omega
      · intro q
        exact .inr (ih.mpr (by omega))
theorem rt_abv {kvs : List (Key × V)} {ns : List Str} {ws : Str → List Str} (D : DlA kvs ns ws) {a b : Str} (ha : a ∈ ns) (hb : b ∈ opn ws a) : decide (b ∈ abv kvs ws a) = rt ws a b (vD kvs a) := by
  unfold vD abv
  rcases D.v a ha with e | ⟨h, e, _, _⟩
  · rw [e]
    exact decide_eq_true hb
  · rw [e]
    show decide (b ∈ (opn ws a).take ((opn ws a).idxOf h)) = decide ((opn ws a).idxOf b < (opn ws a).idxOf h)
    exact decide_eq_decide.mpr (mem_take_idx hb)
theorem qL_qB {kvs : List (Key × V)} {ns : List Str} {ws : Str → List Str} (D : DlA kvs ns ws) {a b : Str} (ha : a ∈ ns) (hb : b ∈ ns) (h1 : b ∈ opn ws a) (h2 : a ∈ opn ws b) : qL kvs ws (a, b) = qB kvs ws (a, b) := by
  unfold qL qB
  rw [rt_abv D ha h1, rt_abv D hb h2]
  show (!decide (vD kvs a = .str b) && (rt ws a b (vD kvs a) && rt ws b a (vD kvs b))) = (rt ws a b (vD kvs a) && rt ws b a (vD kvs b))
  by_cases e : vD kvs a = .str b
  · have z : rt ws a b (vD kvs a) = false := by
      rw [e]
      exact decide_eq_false (Nat.lt_irrefl _)
    rw [z, Bool.false_and, Bool.and_false]
  · rw [decide_eq_false e]
    rfl
section
variable {P : Program} {w : World} {K : PySem.W.Frag} {mg : Str → Option Value} {base : Heap}
theorem pairs_eq_nil {K : PySem.W.Frag} {H : Hp} {l e : Addr} {zs : List (Str × Str)} {Q : VK} (h : PairsAt H l zs) (he : H e = some (.lst [])) (hn : ∀ p ∈ zs, nameS p.1 = true ∧ nameS p.2 = true) (hl : zs.length ≤ 100000) (q : Q (.bl (decide (zs = []))) H) : rEqD K (.ref l) (.ref e) H Q := by
  obtain ⟨ys, k, e1, q1, rfl⟩ := h
  refine ⟨.list ((ys.map k).map fun p => PyData.tuple [.str p.1, .str p.2]), .list [], .lst (SqL.of e1) (dp_pairs q1), .lst (SqL.of he) .nil, shaped_list fun d hd => ?_, by decide, ?_⟩
  · obtain ⟨p, hp, rfl⟩ := List.mem_map.mp hd
    exact pair_data (hn p hp).1 (hn p hp).2
  · cases ys with
    | nil => exact q
    | cons y r => exact q
/-- is_calm(group, x) -/
def isC (ns : List Str) (ws : Str → List Str) : Option (List (Key × V)) → Bool
  | none => false
  | some kvs => isD ns ws (some kvs) && (prs ns ws).all fun p => !qB kvs ws p
theorem fil_all {α : Type} [DecidableEq α] {l m : List α} (p : l.Perm m) (f : α → Bool) : decide (l.filter f = []) = m.all fun x => !f x := by
  rw [Bool.eq_iff_iff, decide_eq_true_iff, List.all_eq_true, List.filter_eq_nil_iff]
  constructor
  · intro h x hx
    have := h x (p.mem_iff.mpr hx)
    simpa using this
  · intro h x hx
    have := h x (p.mem_iff.mp hx)
    simpa using this
end
theorem idx_map {l : List Str} {b : Str} (h : b ∈ l) : (l.map V.str)[l.idxOf b]? = some (.str b) := by
  rw [List.getElem?_map, idx_at h]
  rfl
theorem idx_no {l : List Str} {b : Str} {m : Nat} {z : V} (hm : m < l.idxOf b) (h : (l.map V.str)[m]? = some z) : eqV z (.str b) = false := by
  rw [List.getElem?_map] at h
  cases e : l[m]? with
  | none => rw [e] at h; cases h
  | some y =>
    rw [e] at h
    cases h
    show (y == b) = false
    refine beq_false_of_ne fun q => ?_
    subst q
    have h1 : y ∈ l.take (m + 1) := by
      rw [take_snoc e]
      exact List.mem_append_right _ (List.mem_singleton.mpr rfl)
    have := (mem_take_idx (List.mem_of_getElem? e)).mp h1
    omega
theorem all_flat (l : List Str) : (l.map V.str).all flatV = true := by
  rw [List.all_map, List.all_eq_true]
  exact fun _ _ => rfl
section
variable {P : Program} {w : World} {K : PySem.W.Frag} {mg : Str → Option Value} {base : Heap}
/-- _law_rather(mutual, a, b, held) -/
def spRa : Sp := fun vs H Q _ => ∃ (M : Addr) (a b : Str) (v : V) (ns : List Str) (ws : Str → List Str), vs = [.ref M, .str a, .str b, v] ∧ RowsG H M ns (fun z => lstO (opn ws z)) ∧ a ∈ ns ∧ b ∈ opn ws a ∧ (v = .non ∨ ∃ h, v = .str h ∧ h ∈ opn ws a) ∧ Q (.bl (rt ws a b v)) H
theorem ok_ra {f : Addr} {fd : FuncData} (F : Fun K "_law_rather" "_law_rather" sLrather f fd) (B : Bl mg) : FnOk P w K mg base CX0 1 f fd ["_law_mutual_here", "_law_a", "_law_b", "_law_held"] spRa := by
  refine F.ok scLrather (fun vs H Q E h => ?_) (fun cdv A outer s H vs Q E hr h => ?_)
  · obtain ⟨M, a, b, v, ns, ws, rfl, _⟩ := h
    rfl
  · obtain ⟨M, a, b, v, ns, ws, rfl, ⟨ad, eM, rM⟩, ha, hb, hv, kq⟩ := h
    have hu := hu_of hr
    refine ⟨_, pss_one (ps_ret (pe_or (pe_cmp (pc_isN (pv 3)) rfl) (pe_one (pe_cmpR op_lt (pe_bm PySem.F.plainAttrs_list PySem.F.slot_list_index PySem.F.type_list_index mt_index (pe_dget hu (pv 0) (pv 1) (fun _ _ => rfl)) (pa_cons (pv 2) pa_nil))
      (pe_bm PySem.F.plainAttrs_list PySem.F.slot_list_index PySem.F.type_list_index mt_index (pe_dget hu (pv 0) (pv 1) (fun _ _ => rfl)) (pa_cons (pv 3) pa_nil)) (nomark _))))), ?_⟩
    have gM : DGet H M (.str a) (some (.ref (ad a))) := by rw [← valV_rows (ad := ad) ha]; exact DGet.k (k := Sum.inr a) eM
    have gS : SqL K H (ad a) ((opn ws a).map V.str) := SqL.of (rM a ha).1
    have ix : ∀ z, z ∈ opn ws a → ∀ Q' : VK, Q' (.int ((opn ws a).idxOf z : Nat)) H → rIndex K (.ref (ad a)) [.str z] H Q' := fun z hz Q' q => ⟨ad a, _, .str z, (opn ws a).idxOf z, .str z, rfl, rfl, gS, rfl, all_flat _, idx_map hz, by show (z == z) = true; simp, fun m z' hm h => idx_no hm h, q⟩
    rcases hv with rfl | ⟨h, rfl, hh⟩
    · exact ⟨_, rfl, _, rfl, iteT kq⟩
    · refine ⟨_, rfl, _, rfl, iteF ?_⟩
      refine ⟨_, rfl, _, rfl, M, _, rfl, gM, .inl ⟨rfl, _, gS⟩, _, rfl, ?_⟩
      dsimp only [tNil]
      refine ix b hb _ ?_
      refine ⟨_, rfl, _, rfl, M, _, rfl, gM, .inl ⟨rfl, _, gS⟩, _, rfl, ?_⟩
      dsimp only [tNil]
      refine ix h hh _ ?_
      refine ⟨_, _, rfl, rfl, ?_⟩
      have e : decide ((((opn ws a).idxOf b : Nat) : Int) < (((opn ws a).idxOf h : Nat) : Int)) = rt ws a b (.str h) := by
        show _ = decide ((opn ws a).idxOf b < (opn ws a).idxOf h)
        exact decide_eq_decide.mpr (by omega)
      rw [← e] at kq
      exact kq
/-- _law_quarrels(mutual, x), x a dealing -/
def spLQ : Sp := fun vs H Q _ => ∃ (M d : Addr) (ns : List Str) (ws : Str → List Str) (kvs : List (Key × V)), vs = [.ref M, .ref d] ∧ RowsG H M ns (fun z => lstO (opn ws z)) ∧ H d = some (.dK kvs) ∧ DlA kvs ns ws ∧ Nm ns ∧ (∀ a ∈ ns, GRow ns a (ws a)) ∧
  ∀ (zs : List (Str × Str)) (l : Addr) (H' : Hp), zs.Perm (prs ns ws) → Same H H' → PairsAt H' l (zs.filter (qL kvs ws)) → Q (.ref l) H'
theorem opn_sym {ns : List Str} {ws : Str → List Str} (g : ∀ a ∈ ns, GRow ns a (ws a)) {a b : Str} (ha : a ∈ ns) (h : b ∈ opn ws a) : b ∈ ns ∧ a ∈ opn ws b := by
  have h1 := (List.mem_filter.mp h).1
  have h2 := of_decide_eq_true (List.mem_filter.mp h).2
  exact ⟨((g a ha).2 b h1).1, List.mem_filter.mpr ⟨h2, decide_eq_true h1⟩⟩
theorem ok_lq {f : Addr} {fd : FuncData} (F : Fun K "_law_quarrels" "_law_quarrels" sLquarrels f fd) (B : Bl mg) (cP : CF P w K mg base CX0 1 "_law_pairs" ["_law_mutual_here"] spLP) (cR : CF P w K mg base CX0 1 "_law_rather" ["_law_mutual_here", "_law_a", "_law_b", "_law_held"] spRa) : FnOk P w K mg base CX0 2 f fd ["_law_mutual_here", "_law_x"] spLQ := by
  refine F.ok scLquarrels (fun vs H Q E h => ?_) (fun cdv A outer s H vs Q E hr h => ?_)
  · obtain ⟨M, d, ns, ws, kvs, rfl, _⟩ := h
    rfl
  · obtain ⟨M, d, ns, ws, kvs, rfl, hM, hd, hD, nn, g1, kq⟩ := h
    have hu := hu_of hr
    have esz : sizeLine = 16777216 := sizeLine_eq
    have hnl := nn.len
    refine ⟨_, pss_cons (ps_set (i := 2) scLquarrels.nd rfl (Or.inl rfl) (pe_lst pa_nil))
      (pss_cons (ps_for PassesOwn.never rfl (pi_list (pe_cf cP hr pass0 (pa_cons (pv 0) pa_nil))) (pg_name (i := 3) scLquarrels.nd rfl (Or.inl rfl))
        (pss_cons (ps_set (i := 4) scLquarrels.nd rfl (Or.inl rfl) (pe_ix ix_tup (pv 3) pe_int (fun _ _ => rfl)))
        (pss_cons (ps_set (i := 5) scLquarrels.nd rfl (Or.inl rfl) (pe_ix ix_tup (pv 3) pe_int (fun _ _ => rfl)))
        (pss_one (ps_if (PW.pt (pw_and (pt_cmpR (op_neT hr.units) (pe_dget hu (pv 1) (pv 4) (fun _ _ => rfl)) (pv 5) (nomark _)) (pw_and (pt_val (pe_cf cR hr pass0 (pa_cons (pv 0) (pa_cons (pv 4) (pa_cons (pv 5) (pa_cons (pe_dget hu (pv 1) (pv 4) (fun _ _ => rfl)) pa_nil))))))
            (pw_and1 (pt_val (pe_cf cR hr pass0 (pa_cons (pv 0) (pa_cons (pv 5) (pa_cons (pv 4) (pa_cons (pe_dget hu (pv 1) (pv 5) (fun _ _ => rfl)) pa_nil))))))))))
          (pss_one (ps_expr (pe_bm PySem.F.plainAttrs_list PySem.F.slot_list_append PySem.F.type_list_append mt_append (pv 2) (pa_cons (pe_tup (pa_cons (pv 4) (pa_cons (pv 5) pa_nil))) pa_nil)))) pss_nil)))))
      (pss_one (ps_ret (pv 2)))), ?_⟩
    refine ⟨by show 0 ≤ sizeLine; exact Nat.zero_le _, fun R hR => ?_⟩
    have s0 : Same H (upd H R (.lst [])) := Same.new hR
    have P0 : PairsAt (upd H R (.lst [])) R [] := PairsAt.nil upd_same
    generalize upd H R (.lst []) = H0 at s0 P0
    have hol : ∀ a ∈ ns, (opn ws a).length < 64 := fun a ha => by
      have q1 := List.length_filter_le (fun b => decide (a ∈ ws b)) (ws a)
      have q2 := (g1 a ha).len
      have q3 : (opn ws a).length ≤ (ws a).length := q1
      omega
    refine ⟨_, rfl, M, ns, opn ws, rfl, hM.same s0, nn.nd, by omega, hol, fun l H1 ys g s1 hys hyp hg PP => ?_⟩
    have hperm := pzs_perm (ws := ws) hys fun a ha => (hg a ha).1
    generalize ys.flatMap (pz g) = zs at PP hperm
    obtain ⟨us, kk, e1, q1, rfl⟩ := PP
    have hul : us.length ≤ 16000 := by
      have q2 : (us.map kk).length = (prs ns ws).length := hperm.length_eq
      rw [List.length_map] at q2
      have q3 := prs_len (ws := ws) (ps := ns) fun a ha => by have := (g1 a ha).len; omega
      omega
    have s01 := s0.trans s1
    refine ⟨l, rfl, ⟨_, SqL.of e1⟩, for_it walk_list (fun i σ H' => ∃ v3 v4 v5 : Option V, σ = [some (.ref M), some (.ref d), some (.ref R), v3, v4, v5] ∧ Same H H' ∧ H' l = some (.lst us) ∧ (∀ y ∈ us, ∃ t, y = .ref t ∧ H' t = some (.tup [.str (kk y).1, .str (kk y).2])) ∧ PairsAt H' R (((us.map kk).take i).filter (qL kvs ws)))
      ⟨none, none, none, rfl, s01, e1, q1, P0.same s1⟩ (fun i σ H' _ ⟨_, _, _, _, _, z, _⟩ => SqL.of z) ?_ ?_⟩
    · rintro i y σ Hx H2 hi ⟨v3, v4, v5, rfl, s2, e2, q2, P2⟩ ⟨rfl, hy⟩
      have hym := List.mem_of_getElem? hy
      obtain ⟨t, rfl, ht⟩ := q2 y hym
      have ez : (us.map kk)[i]? = some (kk (.ref t)) := by rw [List.getElem?_map, hy]; rfl
      have hzm : kk (.ref t) ∈ prs ns ws := hperm.mem_iff.mp (List.mem_of_getElem? ez)
      generalize kk (.ref t) = ab at ht ez hzm
      obtain ⟨a, b⟩ := ab
      obtain ⟨a', ha', hm⟩ := List.mem_flatMap.mp hzm
      obtain ⟨b', hb', e⟩ := List.mem_map.mp hm
      cases e
      have hbo := (List.mem_filter.mp hb').1
      obtain ⟨hbn, hao⟩ := opn_sym g1 ha' hbo
      have hM2 := hM.same s2
      have val : ∀ z ∈ ns, ∃ v, valV kvs (Sum.inr z) = some v ∧ vD kvs z = v ∧ (∃ k, IsK H2 v k) ∧ (v = .non ∨ ∃ h, v = .str h ∧ h ∈ opn ws z) := fun z hz => by
        rcases hD.v z hz with e | ⟨h, e, _, ho⟩
        · exact ⟨_, e, by unfold vD; rw [e]; rfl, ⟨_, .non⟩, .inl rfl⟩
        · exact ⟨_, e, by unfold vD; rw [e]; rfl, ⟨_, .str h⟩, .inr ⟨h, rfl, ho⟩⟩
      obtain ⟨va, ea, dva, ⟨ka, ika⟩, cva⟩ := val a ha'
      obtain ⟨vb, eb, dvb, _, cvb⟩ := val b hbn
      have gA : DGet H2 d (.str a) (some va) := by rw [← ea]; exact DGet.k (k := Sum.inr a) (s2 _ _ hd)
      have gB : DGet H2 d (.str b) (some vb) := by rw [← eb]; exact DGet.k (k := Sum.inr b) (s2 _ _ hd)
      have tk : ((us.map kk).take (i + 1)).filter (qL kvs ws) = ((us.map kk).take i).filter (qL kvs ws) ++ [(a, b)].filter (qL kvs ws) := by
        rw [take_snoc ez, List.filter_append]
      have no : qL kvs ws (a, b) = false → PairsAt H2 R (((us.map kk).take (i + 1)).filter (qL kvs ws)) := fun c => by
        rw [tk, List.filter_cons_of_neg (by rw [c]; decide), List.filter_nil, List.append_nil]
        exact P2
      have eq : qL kvs ws (a, b) = (!decide (va = .str b) && (rt ws a b va && rt ws b a vb)) := by
        unfold qL
        rw [dva, dvb]
      refine ⟨_, rfl, t, _, 0, .str a, rfl, rfl, SqT.of ht, rfl, _, rfl, t, _, 1, .str b, rfl, rfl, SqT.of ht, rfl, ?_⟩
      refine ⟨_, rfl, _, rfl, d, va, rfl, gA, _, rfl, ka, b, ika, rfl, _, rfl, ?_⟩
      by_cases n1 : va = .str b
      · rw [decide_eq_true n1]
        exact iteF ⟨_, _, _, rfl, s2, e2, q2, no (by rw [eq, decide_eq_true n1]; rfl)⟩
      · rw [decide_eq_false n1] at eq ⊢
        refine iteT ⟨_, rfl, _, rfl, _, rfl, _, rfl, _, rfl, d, va, rfl, gA, M, a, b, va, ns, ws, rfl, hM2, ha', hbo, cva, _, rfl, ?_⟩
        cases r1 : rt ws a b va with
        | false => exact iteF ⟨_, _, _, rfl, s2, e2, q2, no (by rw [eq, r1]; rfl)⟩
        | true =>
          refine iteT ⟨_, rfl, _, rfl, _, rfl, _, rfl, _, rfl, d, vb, rfl, gB, M, b, a, vb, ns, ws, rfl, hM2, hbn, hao, cvb, _, rfl, ?_⟩
          cases r2 : rt ws b a vb with
          | false => exact iteF ⟨_, _, _, rfl, s2, e2, q2, no (by rw [eq, r1, r2]; rfl)⟩
          | true =>
            have c : qL kvs ws (a, b) = true := by rw [eq, r1, r2]; rfl
            obtain ⟨ys0, k0, e0, _, z0⟩ := id P2
            refine iteT ⟨_, rfl, .inl ⟨rfl, _, SqL.of e0⟩, _, rfl, _, rfl, by show 2 ≤ sizeLine; omega, fun Tt hT => ?_⟩
            obtain ⟨us', g1', g2', g3'⟩ := P2.snoc (a := a) (b := b) hT
            have nlR : l ≠ R := fun z => by
              obtain ⟨u0, _, e0', _, m0⟩ := P0.same s1
              rw [← z, e1] at e0'
              cases e0'
              rw [List.map_eq_nil_iff.mp m0] at hi
              exact absurd hi (Nat.not_lt_zero i)
            refine ⟨R, us', .ref Tt, rfl, rfl, g1', ?_, _, _, _, rfl, fun b' o e => ?_, ?_, fun y hy => ?_, ?_⟩
            · rw [g2']
              have q1 := List.length_filter_le (qL kvs ws) ((us.map kk).take i)
              rw [List.length_take, List.length_map] at q1
              omega
            · rw [upd_ne (ne_of_none e hR), upd_ne (ne_of_none (s2 _ _ e) hT)]
              exact s2 _ _ e
            · rw [upd_ne nlR, upd_ne (ne_of_none e2 hT)]
              exact e2
            · obtain ⟨t', e', ht'⟩ := q2 y hy
              refine ⟨t', e', ?_⟩
              rw [upd_ne (ne_of (show (upd H2 Tt (.tup [.str a, .str b])) t' = some _ by rw [upd_ne (ne_of_none ht' hT)]; exact ht') g1' (by intro z; cases z)), upd_ne (ne_of_none ht' hT)]
              exact ht'
            · rw [tk, List.filter_cons_of_pos (by rw [c]), List.filter_nil]
              exact g3'
    · rintro σ H2 ⟨v3, v4, v5, rfl, s2, e2, q2, P2⟩
      rw [List.take_of_length_le (by rw [List.length_map]; exact Nat.le_refl _)] at P2
      exact ⟨_, rfl, kq _ R H2 hperm s2 P2⟩
end
end Qp
namespace Qp
open PySem L2
section
variable {P : Program} {w : World} {K : PySem.W.Frag} {mg : Str → Option Value} {base : Heap}
/-- _check_dealing(group, x), x a dealing -/
def spCkX (K : PySem.W.Frag) (C : Addr) : Sp := fun vs H Q _ => ∃ (p : Addr) (x : V) (ns : List Str) (ws : Str → List Str) (o : Option (List (Key × V))), vs = [.ref p, x] ∧ GroupAt C H p ns ws ∧ ns.length ≤ 60 ∧ DV K H x o ∧ isD ns ws o = true ∧ ∀ H', Same H H' → Q .non H'
theorem ok_ckx {f C : Addr} {fd : FuncData} (F : Fun K "check_dealing" "check_dealing" scheckdealing f fd) (B : Bl mg) (cD : CF P w K mg base CX0 4 "is_dealing" ["group", "x"] (spIsD K C)) : FnOk P w K mg base CX0 5 f fd ["group", "x"] (spCkX K C) := by
  refine F.ok sccheckdealing (fun vs H Q E h => ?_) (fun cdv A outer s H vs Q E hr h => ?_)
  · obtain ⟨p, x, ns, ws, o, rfl, _⟩ := h
    rfl
  · obtain ⟨p, x, ns, ws, o, rfl, hG, hlen, hx, hD, kq⟩ := h
    refine ⟨_, pss_one (ps_if (pt_not (pt_val (pe_cf cD hr pass0 (pa_cons (pv 0) (pa_cons (pv 1) pa_nil))))) pss_never pss_nil), ?_⟩
    refine ⟨_, rfl, _, rfl, p, x, ns, ws, o, rfl, hG, hlen, hx, fun H1 s1 => ⟨_, rfl, ?_⟩⟩
    rw [hD]
    exact iteF (kq H1 s1)
/-- quarrels(group, x), x a dealing -/
def spQu (K : PySem.W.Frag) (C : Addr) : Sp := fun vs H Q _ => ∃ (p : Addr) (x : V) (ns : List Str) (ws : Str → List Str) (o : Option (List (Key × V))), vs = [.ref p, x] ∧ GroupAt C H p ns ws ∧ ns.length ≤ 16 ∧ ns.Nodup ∧ (∀ a ∈ ns, GRow ns a (ws a)) ∧ DV K H x o ∧ isD ns ws o = true ∧
  ∀ kvs zs l H', o = some kvs → SortP (prs ns ws) zs → Same H H' → PairsAt H' l (zs.filter (qB kvs ws)) → Q (.ref l) H'
theorem ok_qu {f C fI : Addr} {fdI : FuncData} {fd : FuncData} (F : Fun K "quarrels" "quarrels" squarrels f fd) (B : Bl mg) (T : GTxt K mg C) (cC : CF P w K mg base CX0 5 "check_dealing" ["group", "x"] (spCkX K C)) (cA : CF P w K mg base CX0 5 "_above" ["group", "x", "a"] (spAb C))
    (mP : MF P w K mg base 1 C "pairs" ["self"] (spPairs C)) (MI : Meth K C "__iter__" fI) (bI : Binds K fdI ["self"] []) (FI : ∀ b', K.In b' → b'.Ns mainGlobals mg → FnOk P w K mg b' CX0 1 fI fdI ["self"] (spIter C b'.objs.size)) : FnOk P w K mg base CX0 6 f fd ["group", "x"] (spQu K C) := by
  obtain ⟨fP, fdP, FP, MP, bP⟩ := mP.ex
  refine F.ok scquarrels (fun vs H Q E h => ?_) (fun cdv A outer s H vs Q E hr h => ?_)
  · obtain ⟨p, x, ns, ws, o, rfl, _⟩ := h
    rfl
  · obtain ⟨p, x, ns, ws, o, rfl, hG, hlen, hnd, g1, hx, hD, kq⟩ := h
    have hu := hu_of hr
    have hr1 : Room 1 _ := hr.mono (by decide)
    have esz : sizeLine = 16777216 := sizeLine_eq
    refine ⟨_, pss_cons (ps_expr (pe_cf cC hr pass0 (pa_cons (pv 0) (pa_cons (pv 1) pa_nil))))
      (pss_cons (ps_set (i := 2) scquarrels.nd rfl (Or.inr rfl) (pe_dc (own := [("a", 3)]) (g := gName 3) (tt := tYes) rfl scquarrels.nd (pi_ownB (sp := fun m => spIter C m) MI FI hr1 bI (pv 0)) (blkOk_by (own := [("a", 3)]) (N := ["group", "x", "above", "a", "b"]) (sc := defScope squarrels) (by decide +kernel))
        (fun _ _ _ _ _ => pg_name (i := 3) scquarrels.nd rfl (Or.inl rfl)) (fun _ _ _ _ _ => pts_nil) (fun _ _ _ _ _ => pv 3) (fun _ _ _ _ _ => pe_cf cA hr pass0 (pa_cons (pv 0) (pa_cons (pv 1) (pa_cons (pv 3) pa_nil))))))
      (pss_one (ps_ret (pe_lc (own := [("a", 3), ("b", 4)]) (g := gTup K 2 (gCons (gName 3) (gCons (gName 4) gNil))) rfl scquarrels.nd (pi_list (pe_meth0 (pv 0) T.cl MP FP hr1 bP .nil pass0)) (blkOk_by (own := [("a", 3), ("b", 4)]) (N := ["group", "x", "above", "a", "b"]) (sc := defScope squarrels) (by decide +kernel))
        (fun _ _ _ _ _ => pg_tupK (K := K) rfl rfl (pgs_cons (pg_name (i := 3) scquarrels.nd rfl (Or.inl rfl)) (pgs_cons (pg_name (i := 4) scquarrels.nd rfl (Or.inl rfl)) pgs_nil)))
        (fun _ _ _ _ _ => pts_one (PW.pt (pw_and (pt_cmpR (op_inSK (K := K) rfl hr.units) (pv 4) (pe_dget hu (pv 2) (pv 3) (fun _ _ => rfl)) (by rfl)) (pw_and1 (pt_cmpR (op_inSK (K := K) rfl hr.units) (pv 3) (pe_dget hu (pv 2) (pv 4) (fun _ _ => rfl)) (by rfl))))))
        (fun _ _ _ _ _ => pe_tup (pa_cons (pv 3) (pa_cons (pv 4) pa_nil))))))), ?_⟩
    refine ⟨_, rfl, _, rfl, p, x, ns, ws, o, rfl, hG, by omega, hx, hD, fun H1 s1 => ?_⟩
    cases o with
    | none => cases hD
    | some kvs =>
      obtain ⟨d, rfl, hd, hv⟩ := hx
      have hDl := dlA_of hD
      have hG1 := hG.same s1
      have hG2 := hG1
      obtain ⟨dx, _, _, _, _, hp, _⟩ := hG2
      have hon : ∀ a ∈ ns, (opn ws a).Nodup := fun a ha => (g1 a ha).1.filter _
      have hol : ∀ a ∈ ns, (ws a).length ≤ 16 := fun a ha => Nat.le_trans (g1 a ha).len hlen
      refine ⟨_, rfl, p, dx, _, rfl, hp, fun m hm => ⟨p, ns, ws, rfl, hG1, fun it tp ht hit hmt => ⟨it, tp, rfl, hmt, upd_same, ?_⟩⟩⟩
      rw [ItX.dropH_upd hit]
      refine fun Ab hAb => dc_it walk_tup (fun i H' => Same H1 H' ∧ RowsG H' Ab (ns.take i) (fun a => lstO (abv kvs ws a))) ⟨Same.new hAb, RowsG.nil upd_same⟩ (fun i H' _ z => SqT.of (z.1 _ _ ht)) ?_ ?_
      · rintro i y Hy H3 hi ⟨s3, R3⟩ ⟨rfl, hy⟩
        rw [List.length_map] at hi
        rw [List.getElem?_map] at hy
        cases ea : ns[i]? with
        | none => rw [ea] at hy; cases hy
        | some a =>
          rw [ea] at hy
          cases hy
          have han : a ∈ ns := List.mem_of_getElem? ea
          have s13 := s1.trans s3
          refine ⟨rfl, dcTurn ⟨_, rfl, _, rfl, _, rfl, _, rfl, p, d, a, ns, ws, kvs, rfl, hG.same s13, s13 _ _ hd, (hDl.v a han), han, hon a han, fun l H4 s4 hl el => ?_⟩⟩
          have nl : l ≠ Ab := by
            obtain ⟨ad2, e2, _⟩ := R3
            intro z
            rw [z, e2] at hl
            cases hl
          obtain ⟨kvs2, h1, h2, h3⟩ := R3.snoc s4 (not_mem_take hnd ea) (p := l) el nl
          refine ⟨kvs2, Sum.inr a, rfl, h1, ?_, ?_, ?_⟩
          · rw [h2, List.length_take]
            omega
          · intro b o e
            rw [upd_ne (ne_of_none e hAb)]
            exact s4 _ _ (s3 _ _ e)
          · rw [take_snoc ea]
            exact h3
      · rintro H3 ⟨s3, R3⟩
        rw [List.length_map, List.take_of_length_le (Nat.le_refl _)] at R3
        obtain ⟨adA, eA, rA⟩ := R3
        have s13 := s1.trans s3
        have hG3 := hG.same s13
        have hG4 := hG3
        obtain ⟨dx, _, _, _, _, hp, _⟩ := hG4
        refine ⟨_, rfl, p, dx, _, rfl, hp, gF_no _ _ _ _ (by decide +kernel) (by decide +kernel) (by decide +kernel) (by decide +kernel), p, ns, ws, rfl, hG3, by omega, fun a ha => by have := hol a ha; omega, fun l H4 zs s4 hzs PP => ?_⟩
        obtain ⟨ys, kk, e4, q4, rfl⟩ := PP
        have hyl : ys.length ≤ 16000 := by
          have q1 : (ys.map kk).length = (prs ns ws).length := hzs.2.perm.length_eq
          rw [List.length_map] at q1
          have q2 := prs_len (ws := ws) (ps := ns) fun a ha => by have := hol a ha; omega
          omega
        refine ⟨l, rfl, ⟨_, SqL.of e4⟩, fun D hD => lc_it walk_list (fun i H' => Same H4 H' ∧ PairsAt H' D (((ys.map kk).take i).filter (qB kvs ws))) ⟨Same.new hD, PairsAt.nil upd_same⟩ (fun i H' _ z => SqL.of (z.1 _ _ e4)) ?_ ?_⟩
        · rintro i y Hy H5 hi ⟨s5, P5⟩ ⟨rfl, hy⟩
          have hym := List.mem_of_getElem? hy
          obtain ⟨t, rfl, ht⟩ := q4 y hym
          have ez : (ys.map kk)[i]? = some (kk (.ref t)) := by rw [List.getElem?_map, hy]; rfl
          have hzm : kk (.ref t) ∈ prs ns ws := hzs.2.perm.mem_iff.mp (List.mem_of_getElem? ez)
          generalize kk (.ref t) = ab at ht ez hzm
          obtain ⟨a, b⟩ := ab
          obtain ⟨a', ha', hm⟩ := List.mem_flatMap.mp hzm
          obtain ⟨b', hb', e⟩ := List.mem_map.mp hm
          cases e
          have hbn : b ∈ ns := ((g1 a ha').2 b (List.mem_filter.mp (List.mem_filter.mp hb').1).1).1
          have s35 := s4.trans s5
          have gA : ∀ z ∈ ns, DGet H5 Ab (.str z) (some (.ref (adA z))) := fun z hz => by rw [← valV_rows (ad := adA) hz]; exact DGet.k (k := Sum.inr z) (s35 _ _ eA)
          have gS : ∀ z ∈ ns, SqL K H5 (adA z) ((abv kvs ws z).map V.str) := fun z hz => SqL.of (s35 _ _ (rA z hz).1)
          have tk : ((ys.map kk).take (i + 1)).filter (qB kvs ws) = ((ys.map kk).take i).filter (qB kvs ws) ++ [(a, b)].filter (qB kvs ws) := by
            rw [take_snoc ez, List.filter_append]
          refine ⟨t, [.str a, .str b], rfl, SqT.of (s5 _ _ ht), rfl, _, _, rfl, _, _, rfl, rfl, rfl, ?_⟩
          refine ⟨_, rfl, _, rfl, _, rfl, Ab, _, rfl, gA a ha', adA a, _, rfl, .inl (gS a ha'), .flat rfl, _, rfl, ?_⟩
          have e1 : inS (V.str b) (abv kvs ws a) = decide (b ∈ abv kvs ws a) := inS_str
          rw [e1]
          have no : qB kvs ws (a, b) = false → Same H4 H5 ∧ PairsAt H5 D (((ys.map kk).take (i + 1)).filter (qB kvs ws)) := fun c => by
            refine ⟨s5, ?_⟩
            rw [tk, List.filter_cons_of_neg (by rw [c]; decide), List.filter_nil, List.append_nil]
            exact P5
          by_cases m1 : b ∈ abv kvs ws a
          · rw [decide_eq_true m1]
            refine iteT ⟨_, rfl, _, rfl, _, rfl, Ab, _, rfl, gA b hbn, adA b, _, rfl, .inl (gS b hbn), .flat rfl, _, rfl, ?_⟩
            have e2 : inS (V.str a) (abv kvs ws b) = decide (a ∈ abv kvs ws b) := inS_str
            rw [e2]
            by_cases m2 : a ∈ abv kvs ws b
            · rw [decide_eq_true m2]
              have c : qB kvs ws (a, b) = true := by
                unfold qB
                rw [decide_eq_true m1, decide_eq_true m2]
                rfl
              refine iteT ⟨_, rfl, _, rfl, by show 2 ≤ sizeLine; omega, fun Tt hT => ?_⟩
              obtain ⟨us, g1', g2', g3'⟩ := P5.snoc (a := a) (b := b) hT
              refine ⟨us, g1', ?_, fun b' o e => ?_, ?_⟩
              · rw [g2']
                have q1 := List.length_filter_le (qB kvs ws) ((ys.map kk).take i)
                rw [List.length_take, List.length_map] at q1
                omega
              · rw [upd_ne (ne_of_none e hD), upd_ne (ne_of_none (s5 _ _ e) hT)]
                exact s5 _ _ e
              · rw [tk, List.filter_cons_of_pos (by rw [c]), List.filter_nil]
                exact g3'
            · rw [decide_eq_false m2]
              exact iteF (no (by unfold qB; rw [decide_eq_false m2, Bool.and_false]))
          · rw [decide_eq_false m1]
            exact iteF (no (by unfold qB; rw [decide_eq_false m1, Bool.false_and]))
        · rintro H5 ⟨s5, P5⟩
          rw [List.take_of_length_le (by rw [List.length_map]; exact Nat.le_refl _)] at P5
          exact kq kvs _ D H5 rfl hzs ((s13.trans s4).trans s5) P5
def spIsC (K : PySem.W.Frag) (C : Addr) : Sp := fun vs H Q _ => ∃ (p : Addr) (x : V) (ns : List Str) (ws : Str → List Str) (o : Option (List (Key × V))), vs = [.ref p, x] ∧ GroupAt C H p ns ws ∧ Nm ns ∧ (∀ a ∈ ns, GRow ns a (ws a)) ∧ DV K H x o ∧ ∀ H', Same H H' → Q (.bl (isC ns ws o)) H'
theorem ok_isC {f C : Addr} {fd : FuncData} (F : Fun K "is_calm" "is_calm" siscalm f fd) (B : Bl mg) (cD : CF P w K mg base CX0 4 "is_dealing" ["group", "x"] (spIsD K C)) (cQ : CF P w K mg base CX0 6 "quarrels" ["group", "x"] (spQu K C)) : FnOk P w K mg base CX0 7 f fd ["group", "x"] (spIsC K C) := by
  refine F.ok sciscalm (fun vs H Q E h => ?_) (fun cdv A outer s H vs Q E hr h => ?_)
  · obtain ⟨p, x, ns, ws, o, rfl, _⟩ := h
    rfl
  · obtain ⟨p, x, ns, ws, o, rfl, hG, nn, g1, hx, kq⟩ := h
    have hr4 : Room 4 _ := hr.mono (by decide)
    have hnl := nn.len
    refine ⟨_, pss_one (ps_ret (pe_and (pe_cf cD hr4 pass0 (pa_cons (pv 0) (pa_cons (pv 1) pa_nil))) (pe_one (pe_cmpR (op_eqD hr.units) (pe_cf cQ hr pass0 (pa_cons (pv 0) (pa_cons (pv 1) pa_nil))) (pe_lst pa_nil) (nomark _))))), ?_⟩
    refine ⟨_, rfl, _, rfl, p, x, ns, ws, o, rfl, hG, by omega, hx, fun H1 s1 => ⟨_, rfl, ?_⟩⟩
    cases hD : isD ns ws o with
    | false =>
      refine iteF ?_
      have q := kq H1 s1
      cases o with
      | none => exact q
      | some kvs =>
        have q : Q (.bl (isD ns ws (some kvs) && (prs ns ws).all fun p => !qB kvs ws p)) H1 := q
        rw [hD, Bool.false_and] at q
        exact q
    | true =>
      refine iteT ⟨_, rfl, _, rfl, p, x, ns, ws, o, rfl, hG.same s1, hnl, nn.nd, g1, hx.same s1, hD, fun kvs z2 l H2 eo hz2 s2 PP => ?_⟩
      subst eo
      refine ⟨by show 0 ≤ sizeLine; exact Nat.zero_le _, fun e he => ?_⟩
      have s3 : Same H2 (upd H2 e (.lst [])) := Same.new he
      have hm : ∀ p ∈ z2, nameS p.1 = true ∧ nameS p.2 = true := fun ab h => by
        obtain ⟨a', ha', hm⟩ := List.mem_flatMap.mp (hz2.2.perm.mem_iff.mp h)
        obtain ⟨b', hb', e⟩ := List.mem_map.mp hm
        subst e
        exact ⟨nn.nm a' ha', nn.nm b' ((g1 a' ha').2 b' (List.mem_filter.mp (List.mem_filter.mp hb').1).1).1⟩
      refine pairs_eq_nil (PP.same s3) upd_same (fun p hp => hm p (List.mem_filter.mp hp).1) ?_ ?_
      · have q1 := hz2.2.perm.length_eq
        have q2 := prs_len (ws := ws) (ps := ns) fun a ha => by have := (g1 a ha).len; omega
        have q3 := List.length_filter_le (qB kvs ws) z2
        omega
      · have q : Q (.bl (isD ns ws (some kvs) && (prs ns ws).all fun p => !qB kvs ws p)) _ := kq _ ((s1.trans s2).trans s3)
        rw [hD, Bool.true_and, ← fil_all hz2.2.perm] at q
        exact q
end
end Qp
namespace Qp
open PySem L2
/-- the law's own words for a person's value -/
def okM (kvs : List (Key × V)) (ws : Str → List Str) (a : Str) (v : V) : Bool := decide (v = .non) || (inS v (opn ws a) && decide (valV kvs (Sum.inr (unV v)) = some (.str a)))
theorem okM_okD {kvs : List (Key × V)} {ns : List Str} {ws : Str → List Str} {a : Str} {v : V} (h : ∀ z ∈ opn ws a, z ∈ ns) : okD kvs ns ws a v = okM kvs ws a v := by
  unfold okD okM
  cases e : inS v (opn ws a) with
  | false => rw [Bool.and_false, Bool.false_and]
  | true =>
    obtain ⟨z, hz, rfl⟩ := inS_iff.mp e
    rw [inS_str, decide_eq_true (h z hz), Bool.true_and]
section
variable {P : Program} {w : World} {K : PySem.W.Frag} {mg : Str → Option Value} {base : Heap}
theorem back_lock {H : Hp} {M : Addr} {u v : HO} (e : H M = some u) : upd (upd H M v) M u = H := by
  funext b
  by_cases hb : b = M
  · rw [hb, upd_same, e]
  · rw [upd_ne hb, upd_ne hb]
theorem _root_.L2.IsK.lock {H : Hp} {M : Addr} {u : HO} {v : V} {k : Kd} (ik : IsK H v k) (n : v ≠ .ref M) : IsK (upd H M u) v k := by
  cases ik with
  | non => exact .non
  | bl b => exact .bl b
  | int b => exact .int b
  | str b => exact .str b
  | lst h => exact .lst (by rw [upd_ne (fun z => n (by rw [z]))]; exact h)
  | tup h => exact .tup (by rw [upd_ne (fun z => n (by rw [z]))]; exact h)
  | dct h => exact .dct (by rw [upd_ne (fun z => n (by rw [z]))]; exact h)
/-- _law_is_dealing(mutual, x) -/
def spLD (K : PySem.W.Frag) : Sp := fun vs H Q _ => ∃ (M : Addr) (x : V) (ns : List Str) (ws : Str → List Str) (o : Option (List (Key × V))), vs = [.ref M, x] ∧ RowsG H M ns (fun z => lstO (opn ws z)) ∧ Nm ns ∧ (∀ a ∈ ns, GRow ns a (ws a)) ∧ DV K H x o ∧ x ≠ .ref M ∧ ∀ H', Same H H' → Q (.bl (isD ns ws o)) H'
theorem ok_ld {f : Addr} {fd : FuncData} (F : Fun K "_law_is_dealing" "_law_is_dealing" sLisdealing f fd) (B : Bl mg) : FnOk P w K mg base CX0 1 f fd ["_law_mutual_here", "_law_x"] (spLD K) := by
  refine F.ok scLisdealing (fun vs H Q E h => ?_) (fun cdv A outer s H vs Q E hr h => ?_)
  · obtain ⟨M, x, ns, ws, o, rfl, _⟩ := h
    rfl
  · obtain ⟨M, x, ns, ws, o, rfl, ⟨ad, eM, rM⟩, nn, g1, hx, hxM, kq⟩ := h
    have hu := hu_of hr
    have hnl := nn.len
    have esz : sizeLine = 16777216 := sizeLine_eq
    refine ⟨_, pss_cons (ps_if (PW.pt (pw_or (pt_not (pt_val (pe_isiD B.isi B.dct (pv 1)))) (pw_or1 (pt_cmpR op_ne (pe_callB call_lenD (by rfl) B.len PySem.boot_len (pa_cons (pv 1) pa_nil)) (pe_callB call_lenD (by rfl) B.len PySem.boot_len (pa_cons (pv 0) pa_nil)) (nomark _)))))
        (pss_one (ps_ret pe_bl)) pss_nil)
      (pss_cons (ps_lock (ps_for PassesOwn.never rfl (pi_keys (pv 0)) (pg_name (i := 2) scLisdealing.nd rfl (Or.inl rfl)) (pss_one (ps_if (pt_cmp (pc_dnotin hu (pv 2) (pv 1)) rfl) (pss_one (ps_ret pe_bl)) pss_nil))))
      (pss_cons (ps_lock (ps_for PassesOwn.never rfl (pi_keys (pv 0)) (pg_name (i := 2) scLisdealing.nd rfl (Or.inl rfl))
        (pss_one (ps_if (pt_cmp (pc_notN (pe_dget hu (pv 1) (pv 2) (fun _ _ => rfl))))
          (pss_one (ps_if (PW.pt (pw_or (pt_not (pt_val (pe_isiS B.isi B.str (pe_dget hu (pv 1) (pv 2) (fun _ _ => rfl))))) (pw_or (pt_cmpR (op_notInS hr.units) (pe_dget hu (pv 1) (pv 2) (fun _ _ => rfl)) (pe_dget hu (pv 0) (pv 2) (fun _ _ => rfl)) (by rfl))
            (pw_or1 (pt_cmpR ((op_neT hr.units).or (op_neF hr.units)) (pe_dget hu (pv 1) (pe_dget hu (pv 1) (pv 2) (fun _ _ => rfl)) (fun _ _ => rfl)) (pv 2) (nomark _)))))) (pss_one (ps_ret pe_bl)) pss_nil)) pss_nil))))
      (pss_one (ps_ret pe_bl)))), ?_⟩
    cases o with
    | none => exact ⟨_, rfl, .inr ⟨x, rfl, hx, _, rfl, iteT (iteT (kq H (Same.refl H)))⟩⟩
    | some kvs =>
      obtain ⟨d, rfl, hd, hv⟩ := hx
      have ndM : d ≠ M := fun z => hxM (by rw [z])
      have kq : Q (.bl (hasB kvs ns && ns.all (okA kvs ns ws))) H := kq H (Same.refl H)
      refine ⟨_, rfl, .inl ⟨.ref d, .dct, rfl, .dct hd, _, rfl, iteF ?_⟩⟩
      refine ⟨_, rfl, d, kvs, rfl, hd, _, rfl, M, _, rfl, eM, rfl, _, rfl, ?_⟩
      by_cases hc : kvs.length = ns.length
      · refine (if_neg ?_).mpr ?_
        · show ¬ (!decide (V.int (kvs.length : Int) = V.int (((ns.map fun a => ((Sum.inr a : Key), V.ref (ad a))).length : Nat) : Int))) = true
          rw [List.length_map, hc, decide_eq_true rfl]
          decide
        have key1 : ∀ {i : Nat} {k : Key} {v : V}, (ns.map fun a => ((Sum.inr a : Key), V.ref (ad a)))[i]? = some (k, v) → ∃ a, ns[i]? = some a ∧ k = Sum.inr a := fun {i k v} h => by
          rw [List.getElem?_map] at h
          cases ea : ns[i]? with
          | none => rw [ea] at h; cases h
          | some a =>
            rw [ea] at h
            cases h
            exact ⟨a, rfl, rfl⟩
        -- all keys
        refine ⟨M, _, eM, True.intro, fun od => ?_⟩
        have hb1 : upd (upd H M (.frz od (.dK (ns.map fun a => ((Sum.inr a : Key), V.ref (ad a)))))) M (.dK (ns.map fun a => ((Sum.inr a : Key), V.ref (ad a)))) = H := back_lock eM
        have hf : (upd H M (.frz od (.dK (ns.map fun a => ((Sum.inr a : Key), V.ref (ad a)))))) M = some (.frz od (.dK (ns.map fun a => ((Sum.inr a : Key), V.ref (ad a))))) := upd_same
        have hdL : (upd H M (.frz od (.dK (ns.map fun a => ((Sum.inr a : Key), V.ref (ad a)))))) d = some (.dK kvs) := by rw [upd_ne ndM]; exact hd
        generalize hHL : upd H M (.frz od (.dK (ns.map fun a => ((Sum.inr a : Key), V.ref (ad a))))) = HL at hb1 hf hdL
        refine ⟨_, rfl, M, od, rfl, .inl ⟨_, hf, for_it walk_keys (fun i σ H' => ∃ v2 : Option V, σ = [some (.ref M), some (.ref d), v2] ∧ H' = HL ∧ ∀ z ∈ ns.take i, (valV kvs (Sum.inr z)).isSome = true) ⟨none, rfl, rfl, fun z hz => by simp at hz⟩ (fun i σ H' _ ⟨_, _, e, _⟩ => by rw [e]; exact hf) ?_ ?_⟩⟩
        · rintro i y σ Hx H1 hi ⟨v2, rfl, rfl, hall⟩ ⟨rfl, k, v, hk, rfl⟩
          obtain ⟨a, ea, rfl⟩ := key1 hk
          refine ⟨_, rfl, _, rfl, d, _, rfl, DGet.k (k := Sum.inr a) hdL, _, rfl, ?_⟩
          cases eb : (valV kvs (Sum.inr a)).isSome with
          | true =>
            refine iteF ⟨_, rfl, rfl, fun z hz => ?_⟩
            rw [take_snoc ea] at hz
            rcases List.mem_append.mp hz with q | q
            · exact hall z q
            · have : z = a := by simpa using q
              rw [this]; exact eb
          | false =>
            refine iteT ⟨hf, ?_⟩
            rw [hb1]
            have e : hasB kvs ns = false := by
              unfold hasB
              rw [Bool.and_eq_false_iff]
              refine .inr ?_
              rw [List.all_eq_false]
              exact ⟨a, List.mem_of_getElem? ea, by rw [eb]; decide⟩
            rw [e, Bool.false_and] at kq
            exact kq
        · rintro σ H1 ⟨v2, rfl, rfl, hall⟩
          rw [List.length_map, List.take_of_length_le (Nat.le_refl _)] at hall
          have hB : hasB kvs ns = true := by
            unfold hasB
            rw [decide_eq_true hc, Bool.true_and, List.all_eq_true]
            exact hall
          rw [hB, Bool.true_and] at kq
          refine ⟨hf, ?_⟩
          rw [hb1]
          -- all values
          refine ⟨M, _, eM, True.intro, fun od2 => ?_⟩
          have hb2 : upd (upd H M (.frz od2 (.dK (ns.map fun a => ((Sum.inr a : Key), V.ref (ad a)))))) M (.dK (ns.map fun a => ((Sum.inr a : Key), V.ref (ad a)))) = H := back_lock eM
          have hf2 : (upd H M (.frz od2 (.dK (ns.map fun a => ((Sum.inr a : Key), V.ref (ad a)))))) M = some (.frz od2 (.dK (ns.map fun a => ((Sum.inr a : Key), V.ref (ad a))))) := upd_same
          have hdL2 : (upd H M (.frz od2 (.dK (ns.map fun a => ((Sum.inr a : Key), V.ref (ad a)))))) d = some (.dK kvs) := by rw [upd_ne ndM]; exact hd
          have hvL : ∀ key v, valV kvs key = some v → (∃ k, IsK (upd H M (.frz od2 (.dK (ns.map fun a => ((Sum.inr a : Key), V.ref (ad a)))))) v k) ∨ v = .ref M := fun key v h => by
            by_cases e : v = .ref M
            · exact .inr e
            · exact .inl ((hv key v h).imp fun _ q => q.lock e)
          have hrL : ∀ a ∈ ns, (upd H M (.frz od2 (.dK (ns.map fun a => ((Sum.inr a : Key), V.ref (ad a)))))) (ad a) = some (lstO (opn ws a)) := fun a ha => by
            rw [upd_ne (rM a ha).2]
            exact (rM a ha).1
          generalize upd H M (.frz od2 (.dK (ns.map fun a => ((Sum.inr a : Key), V.ref (ad a))))) = HM at hb2 hf2 hdL2 hvL hrL
          refine ⟨_, rfl, M, od2, rfl, .inl ⟨_, hf2, for_it walk_keys (fun i σ H' => ∃ v2 : Option V, σ = [some (.ref M), some (.ref d), v2] ∧ H' = HM ∧ ∀ z ∈ ns.take i, okA kvs ns ws z = true) ⟨_, rfl, rfl, fun z hz => by simp at hz⟩ (fun i σ H' _ ⟨_, _, e, _⟩ => by rw [e]; exact hf2) ?_ ?_⟩⟩
          · rintro i y σ Hx H1 hi ⟨v2, rfl, rfl, hok⟩ ⟨rfl, k, v, hk, rfl⟩
            obtain ⟨a, ea, rfl⟩ := key1 hk
            have han : a ∈ ns := List.mem_of_getElem? ea
            obtain ⟨v, ev⟩ := Option.isSome_iff_exists.mp (hall a han)
            have gV : ∀ z u, valV kvs (Sum.inr z) = some u → DGet H1 d (.str z) (some u) := fun z u e => by rw [← e]; exact DGet.k (k := Sum.inr z) hdL2
            have eA : okA kvs ns ws a = okM kvs ws a v := by
              unfold okA
              rw [ev]
              exact okM_okD fun z hz => (opn_sym g1 han hz).1
            have good : okM kvs ws a v = true → ∃ v2' : Option V, ([some (.ref M), some (.ref d), some (V.str a)] : St) = [some (.ref M), some (.ref d), v2'] ∧ H1 = H1 ∧ ∀ z ∈ ns.take (i + 1), okA kvs ns ws z = true := fun c => by
              refine ⟨_, rfl, rfl, fun z hz => ?_⟩
              rw [take_snoc ea] at hz
              rcases List.mem_append.mp hz with q | q
              · exact hok z q
              · have : z = a := by simpa using q
                rw [this, eA]; exact c
            have bad : okM kvs ws a v = false → Q (.bl false) (upd H1 M (.dK (ns.map fun a => ((Sum.inr a : Key), V.ref (ad a))))) := fun c => by
              rw [hb2]
              have e : ns.all (okA kvs ns ws) = false := by
                rw [List.all_eq_false]
                exact ⟨a, han, by rw [eA, c]; decide⟩
              rw [e] at kq
              exact kq
            refine ⟨_, rfl, _, rfl, d, v, rfl, gV a v ev, _, rfl, ?_⟩
            by_cases n0 : v = .non
            · rw [decide_eq_true n0]
              exact iteF (good (by unfold okM; rw [decide_eq_true n0]; rfl))
            · rw [decide_eq_false n0]
              have eO : okM kvs ws a v = (inS v (opn ws a) && decide (valV kvs (Sum.inr (unV v)) = some (.str a))) := by
                unfold okM
                rw [decide_eq_false n0, Bool.false_or]
              rcases hvL _ _ ev with ⟨k, ik⟩ | rfl
              case inr =>
                have nS : NotS K H1 (.ref M) := fun H' s => ⟨_, .fDict (s _ _ hf2), kit_ty (by decide +kernel)⟩
                exact iteT ⟨_, rfl, _, rfl, d, _, rfl, gV a _ ev, .inr ⟨_, rfl, nS, _, rfl, iteT (iteT ⟨hf2, bad (by rw [eO, inS_no (by intro z h; cases h)]; rfl)⟩)⟩⟩
              refine iteT ⟨_, rfl, _, rfl, d, v, rfl, gV a v ev, .inl ⟨v, k, rfl, ik, _, rfl, ?_⟩⟩
              cases ik with
              | str z =>
                have gM : DGet H1 M (.str a) (some (.ref (ad a))) := .inl ⟨_, Sum.inr a, .inr ⟨od2, hf2⟩, rfl, (valV_rows han).symm⟩
                refine iteF ⟨_, rfl, _, rfl, d, _, rfl, gV a _ ev, _, rfl, _, rfl, M, _, rfl, gM, ad a, opn ws a, rfl, .inl (SqL.of (hrL a han)), .flat rfl, _, rfl, ?_⟩
                rw [inS_str] at eO
                have einS : inS (V.str z) (opn ws a) = decide (z ∈ opn ws a) := inS_str
                rw [einS]
                by_cases mz : z ∈ opn ws a
                · rw [decide_eq_true mz] at eO ⊢
                  have hzn := (opn_sym g1 han mz).1
                  obtain ⟨u, eu⟩ := Option.isSome_iff_exists.mp (hall z hzn)
                  have e2 : okM kvs ws a (V.str z) = decide (u = V.str a) := by
                    rw [eO, Bool.true_and]
                    show decide (valV kvs (Sum.inr z) = some (V.str a)) = _
                    rw [eu]
                    by_cases q : u = V.str a
                    · rw [q]; simp
                    · rw [decide_eq_false q, decide_eq_false fun z => q (Option.some.inj z)]
                  rcases hvL _ _ eu with ⟨k2, ik2⟩ | rfl
                  case inr =>
                    exact iteF ⟨_, rfl, _, rfl, _, rfl, d, _, rfl, gV a _ ev, d, _, rfl, gV z _ eu, _, rfl, .inr ⟨M, _, _, a, rfl, hf2, rfl, _, rfl, iteT ⟨hf2, bad (by rw [e2]; exact decide_eq_false (by intro h; cases h))⟩⟩⟩
                  refine iteF ⟨_, rfl, _, rfl, _, rfl, d, _, rfl, gV a _ ev, d, u, rfl, gV z u eu, _, rfl, .inl ⟨k2, a, ik2, rfl, _, rfl, ?_⟩⟩
                  by_cases q : u = V.str a
                  · rw [decide_eq_true q]
                    exact iteF (good (by rw [e2, decide_eq_true q]))
                  · rw [decide_eq_false q]
                    exact iteT ⟨hf2, bad (by rw [e2, decide_eq_false q])⟩
                · rw [decide_eq_false mz] at eO ⊢
                  exact iteT ⟨hf2, bad (by rw [eO]; rfl)⟩
              | non => exact absurd rfl n0
              | _ => exact iteT (iteT ⟨hf2, bad (by rw [eO, inS_no (by intro z h; cases h)]; rfl)⟩)
          · rintro σ H1 ⟨v2, rfl, rfl, hok⟩
            rw [List.length_map, List.take_of_length_le (Nat.le_refl _)] at hok
            refine ⟨hf2, ?_⟩
            rw [hb2]
            have e : ns.all (okA kvs ns ws) = true := List.all_eq_true.mpr hok
            rw [e] at kq
            exact kq
      · refine (if_pos ?_).mpr ?_
        · show (!decide (V.int (kvs.length : Int) = V.int (((ns.map fun a => ((Sum.inr a : Key), V.ref (ad a))).length : Nat) : Int))) = true
          rw [List.length_map, decide_eq_false (fun z => hc (by have := V.int.inj z; omega))]
          rfl
        · have e : hasB kvs ns = false := by
            unfold hasB
            rw [decide_eq_false hc]
            rfl
          rw [e, Bool.false_and] at kq
          exact kq
end
end Qp
namespace L2
open PySem PySem.Spec PyProof.Rows
theorem rcP_dicts_ne {prog : Program} {w : World} {K : Type} [DecidableEq K] {knd : KeyKind prog w K} {A : Around} {s : Shared} {a b : Addr} {ka kb : List (K × Value)} {r : Bool} (ha : (a == sysModules) = false) (hb : (b == sysModules) = false)
    (da : s.heap.DictOf knd a ka) (db : s.heap.DictOf knd b kb) (hu : A.units < cLine) (hits : ka.length = kb.length → PySem.W.KeqHitsP prog w A.in1 s kb ka r) (E Q : Value → Shared → Prop) (h : Q (.bool (!(ka.length == kb.length && r))) s) : wpAny (model prog w) A (richCompare .NotEq (.ref a) (.ref b)) Q E s := by
  refine wpAny_richCompare_same_room (op := .NotEq) da.typeIs db.typeIs PySem.F.slot_dict_ne (wpAny_call_entry PySem.F.slot_dict_ne da.typeIs PySem.F.entry_dict_ne ?_ (PySem.F.args_dict_ne_2 _ _)) hu
  show wpAny _ _ (Builtin.Dict.dictSlotArgs "__ne__" ⟨[.ref a, .ref b], []⟩ >>= _) _ _ s
  refine wpAny_bind ?_
  unfold Builtin.Dict.dictSlotArgs
  refine wpAny_bind (wpAny_notOrdered_dict da.typeIs ?_)
  show wpAny _ _ (pure (Value.ref a, Value.ref b)) _ _ s
  refine wpAny_pure ?_
  refine wpAny_bind (wpAny_isInstance (T := "dict") db.typeIs PySem.F.sub_dict_dict ?_)
  simp only [Bool.not_true, Bool.false_eq_true, if_false]
  refine wpAny_bind (wpAny_pure (wpAny_bind (wpAny_pure ?_)))
  refine wpAny_bind (PySem.W.samePairsP ha hb da db hits ?_)
  refine wpAny_pure ⟨_, rfl, ?_, ?_⟩
  · exact fun x => nomatch x
  · simpa using h
/-- the keys of a dict of the heap are different -/
theorem valV_nd : ∀ {kvs : List (Key × V)}, (kvs.map (·.1)).Nodup → ∀ p ∈ kvs, valV kvs p.1 = some p.2
  | [], _, p, h => by cases h
  | (k, v) :: r, nd, p, h => by
    rw [List.map_cons, List.nodup_cons] at nd
    rcases List.mem_cons.mp h with e | h
    · subst e
      exact valV_pos rfl
    · have hk : k ≠ p.1 := fun e => nd.1 (by show k ∈ r.map (·.1); rw [e]; exact List.mem_map.mpr ⟨p, h, rfl⟩)
      rw [valV_neg hk]
      exact valV_nd nd.2 p h
section
variable {X : Cx}
/-- != of what is the same, or of two dicts with the same values -/
def rNeW : R2 := fun x y H Q => ((∃ k, IsK H x k ∧ k ≠ .dct ∧ x = y) ∨ ∃ a b ks ls, x = .ref a ∧ y = .ref b ∧ H a = some (.dK ks) ∧ H b = some (.dK ls) ∧ ks.length = ls.length ∧ ∀ key v, valV ks key = some v → valV ls key = some v ∧ ∃ k, IsK H v k) ∧ Q (.bl false) H
theorem op_neW (hu : X.A.units + 64 < cLine) : OpR X (compareOp .NotEq) rNeW := by
  intro pins s σ H x y v u Q I rx ry h
  rcases h with ⟨⟨k, ik, hk, rfl⟩ | ⟨a, b, kvs, ls, rfl, rfl, ha, hb, hln, hk⟩, q⟩
  · have fin : ∀ (r : Bool), r = false → SeqAt.RcNeAt X.A s v u r → wpAny (model X.prog X.w) X.A (compareOp .NotEq v u) (EP X pins σ Q) X.xe s := fun r e key => by
      subst e
      exact key X.prog X.w X.xe _ ⟨.bl false, H, I, rfl, q⟩
    cases ik with
    | non => cases rx; cases ry; exact fin _ rfl SeqAt.RcNeAt.none_none
    | bl b => cases rx; cases ry; exact fin _ (by simp) (SeqAt.RcNeAt.bool_bool _ _)
    | int i =>
      obtain ⟨t1, rfl⟩ := rx
      obtain ⟨t2, rfl⟩ := ry
      exact fin _ (by simp) (SeqAt.RcNeAt.int_int _ _ _ _)
    | str i =>
      obtain ⟨t1, rfl⟩ := rx
      obtain ⟨t2, rfl⟩ := ry
      exact fin _ (by simp) (SeqAt.RcNeAt.str_str _ _ _ _)
    | @lst a xs ha =>
      cases rx; cases ry
      obtain ⟨us, r1, p1, _⟩ := I.list (.inl (.inl ha))
      have e3 : (!(List.range us.toArray.size).all fun _ => true) = false := by
        rw [List.all_eq_true.mpr fun _ _ => rfl]
        rfl
      exact fin _ e3 (SeqAt.RcNeAt.lists (A := X.A) (e := fun _ => true) p1.isList p1.isList rfl (by omega) fun j h1 h2 => SeqAt.EqAt.same _)
    | @tup a xs ha =>
      cases rx; cases ry
      obtain ⟨us, r1, p1, _⟩ := I.tuple (.inl (.inl ha))
      have e3 : (!((List.range (min us.toArray.size us.toArray.size)).all (fun _ => true) && us.toArray.size == us.toArray.size)) = false := by
        rw [List.all_eq_true.mpr fun _ _ => rfl]
        simp
      exact fin _ e3 (SeqAt.RcNeAt.tuples (A := X.A) (e := fun _ => true) p1 p1 (by omega) fun j h1 h2 => SeqAt.EqAt.same _)
    | dct => exact absurd rfl hk
  · obtain rfl : v = Value.ref a := rx
    obtain rfl : u = Value.ref b := ry
    obtain ⟨_, ya, va, ra, da⟩ := (show ObjOk X.prog X.w H s.heap a (.dK _) from I.hok a _ ha)
    obtain ⟨_, yb, vb, rb, db⟩ := (show ObjOk X.prog X.w H s.heap b (.dK _) from I.hok b _ hb)
    have el : va.length = vb.length := by rw [← ra.length, ← rb.length, hln]
    have nd : (kvs.map (·.1)).Nodup := by
      obtain ⟨oa, es, ep, hoa, _, hda, hka, hpa, nd⟩ := id da
      have e := ra.keys
      have e2 : kvs.map (·.1) = va.map (·.1) := e
      rw [e2]
      exact nd
    have ih : ∀ x y v u, (x = y ∧ ∃ k, IsK H x k) → RelV x v → RelV y u → SeqAt.EqP X.prog X.w X.A.in1 s v u true := fun x y v u ⟨e, k, ik⟩ q1 q2 => by
      subst e
      have key : SeqAt.EqAt X.A.in1 s v u true := by
        cases ik with
        | non => exact eqAt_same q1 q2 rfl
        | bl b => exact eqAt_same q1 q2 rfl
        | int i => exact eqAt_same q1 q2 rfl
        | str i => exact eqAt_same q1 q2 rfl
        | lst h => cases q1; cases q2; exact SeqAt.EqAt.same _
        | tup h => cases q1; cases q2; exact SeqAt.EqAt.same _
        | dct h => cases q1; cases q2; exact SeqAt.EqAt.same _
      exact key.eqP
    refine rcP_dicts_ne (knd := mixKind X.prog X.w) ya yb da db (by omega) (fun _ => hits_run (A := X.A.in1) ih rb ra fun p hp => ⟨p.2, (hk _ _ (valV_nd nd p hp)).1, rfl, (hk _ _ (valV_nd nd p hp)).2⟩) _ _ ?_
    refine ⟨.bl false, H, I, ?_, q⟩
    show Value.bool _ = Value.bool _
    rw [el]
    simp
end
end L2
namespace Qp
open PySem L2
theorem perm_of {α : Type} [DecidableEq α] : ∀ {l m : List α}, l.Nodup → (∀ x ∈ l, x ∈ m) → m.length = l.length → m.Perm l
  | [], m, _, _, h => by
    rw [List.length_nil, List.length_eq_zero_iff] at h
    rw [h]
  | x :: l, m, nd, hs, h => by
    rw [List.nodup_cons] at nd
    have hx := hs x List.mem_cons_self
    have p := List.perm_cons_erase hx
    refine p.trans (List.Perm.cons x ?_)
    refine perm_of nd.2 (fun y hy => ?_) ?_
    · have hne : y ≠ x := fun e => nd.1 (e ▸ hy)
      exact (List.mem_erase_of_ne hne).mpr (hs y (List.mem_cons_of_mem _ hy))
    · rw [List.length_erase_of_mem hx, h, List.length_cons]
      omega
theorem key_of_val : ∀ {kvs : List (Key × V)} {key : Key}, (valV kvs key).isSome = true → key ∈ kvs.map (·.1)
  | [], _, h => by cases h
  | (k, v) :: r, key, h => by
    by_cases e : k = key
    · rw [e]; exact List.mem_cons_self
    · rw [valV_neg e] at h
      exact List.mem_cons_of_mem _ (key_of_val h)
theorem has_names {kvs : List (Key × V)} {ns : List Str} (h : hasB kvs ns = true) (nd : ns.Nodup) : ∃ qs : List Str, qs.Perm ns ∧ kvs.map (·.1) = qs.map Sum.inr := by
  have hl : kvs.length = ns.length := by
    unfold hasB at h
    rw [Bool.and_eq_true] at h
    exact of_decide_eq_true h.1
  have p : (kvs.map (·.1)).Perm (ns.map (Sum.inr : Str → Key)) := perm_of (List.Pairwise.map _ (fun a b n e => n (Sum.inr.inj e)) nd) (fun k hk => by
    obtain ⟨z, hz, rfl⟩ := List.mem_map.mp hk
    exact key_of_val (has_all h z hz)) (by rw [List.length_map, List.length_map, hl])
  let g : Key → Str := fun k => match k with
    | .inr z => z
    | .inl _ => ""
  refine ⟨(kvs.map (·.1)).map g, ?_, ?_⟩
  · have q := p.map g
    have e : (ns.map (Sum.inr : Str → Key)).map g = ns := by
      rw [List.map_map]
      exact (List.map_congr_left fun a _ => rfl).trans (List.map_id ns)
    rw [e] at q
    exact q
  · rw [List.map_map]
    refine ((List.map_congr_left fun k hk => ?_).trans (List.map_id _)).symm
    obtain ⟨z, _, rfl⟩ := List.mem_map.mp (p.mem_iff.mp hk)
    rfl
/-- the same dealing, its keys in this order -/
def tkD (kvs : List (Key × V)) (zs : List Str) : List (Key × V) := zs.map fun a => ((Sum.inr a : Key), vD kvs a)
theorem tk_val {kvs : List (Key × V)} : ∀ {zs : List Str} {a : Str}, a ∈ zs → valV (tkD kvs zs) (Sum.inr a) = some (vD kvs a)
  | x :: r, a, h => by
    show valV ((Sum.inr x, vD kvs x) :: tkD kvs r) (Sum.inr a) = _
    by_cases e : x = a
    · rw [e]; exact valV_pos rfl
    · rw [valV_neg (fun q => e (Sum.inr.inj q))]
      refine tk_val ?_
      rcases List.mem_cons.mp h with q | q
      · exact absurd q.symm e
      · exact q
theorem tk_none {kvs : List (Key × V)} : ∀ {zs : List Str} {a : Str}, a ∉ zs → valV (tkD kvs zs) (Sum.inr a) = none
  | [], _, _ => rfl
  | x :: r, a, h => by
    rw [List.mem_cons, not_or] at h
    show valV ((Sum.inr x, vD kvs x) :: tkD kvs r) (Sum.inr a) = _
    rw [valV_neg (fun q => h.1 (Sum.inr.inj q).symm)]
    exact tk_none h.2
theorem tk_sub {kvs : List (Key × V)} : ∀ {zs : List Str} {key : Key} {v : V}, valV (tkD kvs zs) key = some v → ∃ a ∈ zs, key = Sum.inr a ∧ v = vD kvs a
  | [], _, _, h => by cases h
  | x :: r, key, v, h => by
    by_cases e : (Sum.inr x : Key) = key
    · have h : valV ((Sum.inr x, vD kvs x) :: tkD kvs r) key = some v := h
      rw [valV_pos e] at h
      exact ⟨x, List.mem_cons_self, e.symm, (Option.some.inj h).symm⟩
    · have h : valV ((Sum.inr x, vD kvs x) :: tkD kvs r) key = some v := h
      rw [valV_neg e] at h
      obtain ⟨a, ha, q⟩ := tk_sub h
      exact ⟨a, List.mem_cons_of_mem _ ha, q⟩
theorem val_vD {kvs : List (Key × V)} {a : Str} (h : (valV kvs (Sum.inr a)).isSome = true) : valV kvs (Sum.inr a) = some (vD kvs a) := by
  obtain ⟨v, e⟩ := Option.isSome_iff_exists.mp h
  unfold vD
  rw [e]
  rfl
section
variable {kvs : List (Key × V)} {ns zs : List Str} {ws : Str → List Str}
theorem tk_same (h : hasB kvs ns = true) (p : zs.Perm ns) {a : Str} (ha : a ∈ ns) : valV (tkD kvs zs) (Sum.inr a) = valV kvs (Sum.inr a) := by
  rw [tk_val (p.mem_iff.mpr ha), val_vD (has_all h a ha)]
theorem tk_has (p : zs.Perm ns) : hasB (tkD kvs zs) ns = true := by
  unfold hasB
  rw [Bool.and_eq_true, List.all_eq_true]
  refine ⟨decide_eq_true (by unfold tkD; rw [List.length_map]; exact p.length_eq), fun z hz => ?_⟩
  rw [tk_val (p.mem_iff.mpr hz)]
  rfl
theorem all_eq {f g : Str → Bool} (e : ∀ a ∈ ns, f a = g a) : ns.all f = ns.all g := by
  rw [Bool.eq_iff_iff, List.all_eq_true, List.all_eq_true]
  exact ⟨fun h a ha => by rw [← e a ha]; exact h a ha, fun h a ha => by rw [e a ha]; exact h a ha⟩
theorem tk_okA (h : hasB kvs ns = true) (p : zs.Perm ns) {a : Str} (ha : a ∈ ns) : okA (tkD kvs zs) ns ws a = okA kvs ns ws a := by
  unfold okA
  rw [tk_same h p ha]
  cases valV kvs (Sum.inr a) with
  | none => rfl
  | some v =>
    show okD (tkD kvs zs) ns ws a v = okD kvs ns ws a v
    unfold okD
    cases e : inS v ns with
    | false => rw [Bool.false_and, Bool.false_and, Bool.false_and]
    | true =>
      obtain ⟨z, hz, rfl⟩ := inS_iff.mp e
      have e2 : valV (tkD kvs zs) (Sum.inr (unV (V.str z))) = valV kvs (Sum.inr (unV (V.str z))) := tk_same h p hz
      rw [e2]
theorem tk_isD (h : hasB kvs ns = true) (p : zs.Perm ns) : isD ns ws (some (tkD kvs zs)) = isD ns ws (some kvs) := by
  show (hasB (tkD kvs zs) ns && ns.all (okA (tkD kvs zs) ns ws)) = (hasB kvs ns && ns.all (okA kvs ns ws))
  rw [h, tk_has p, Bool.true_and, Bool.true_and]
  exact all_eq fun a ha => tk_okA h p ha
end
section
variable {P : Program} {w : World} {K : PySem.W.Frag} {mg : Str → Option Value} {base : Heap}
/-- _law_is_calm(mutual, x) -/
def spLC (K : PySem.W.Frag) : Sp := fun vs H Q _ => ∃ (M : Addr) (x : V) (ns : List Str) (ws : Str → List Str) (o : Option (List (Key × V))), vs = [.ref M, x] ∧ RowsG H M ns (fun z => lstO (opn ws z)) ∧ Nm ns ∧ (∀ a ∈ ns, GRow ns a (ws a)) ∧ DV K H x o ∧ x ≠ .ref M ∧ ∀ H', Same H H' → Q (.bl (isC ns ws o)) H'
theorem ok_lc {f : Addr} {fd : FuncData} (F : Fun K "_law_is_calm" "_law_is_calm" sLiscalm f fd) (B : Bl mg) (cD : CF P w K mg base CX0 1 "_law_is_dealing" ["_law_mutual_here", "_law_x"] (spLD K)) (cQ : CF P w K mg base CX0 2 "_law_quarrels" ["_law_mutual_here", "_law_x"] spLQ) : FnOk P w K mg base CX0 3 f fd ["_law_mutual_here", "_law_x"] (spLC K) := by
  refine F.ok scLiscalm (fun vs H Q E h => ?_) (fun cdv A outer s H vs Q E hr h => ?_)
  · obtain ⟨M, x, ns, ws, o, rfl, _⟩ := h
    rfl
  · obtain ⟨M, x, ns, ws, o, rfl, hM, nn, g1, hx, h1, kq⟩ := h
    have hr1 : Room 1 _ := hr.mono (by decide)
    have hnl := nn.len
    refine ⟨_, pss_one (ps_ret (pe_and (pe_cf cD hr1 pass0 (pa_cons (pv 0) (pa_cons (pv 1) pa_nil))) (pe_one (pe_cmpR (op_eqD hr.units) (pe_cf cQ hr pass0 (pa_cons (pv 0) (pa_cons (pv 1) pa_nil))) (pe_lst pa_nil) (nomark _))))), ?_⟩
    refine ⟨_, rfl, _, rfl, M, x, ns, ws, o, rfl, hM, nn, g1, hx, h1, fun H1 s1 => ⟨_, rfl, ?_⟩⟩
    cases hD : isD ns ws o with
    | false =>
      refine iteF ?_
      have q := kq H1 s1
      cases o with
      | none => exact q
      | some kvs =>
        have q : Q (.bl (isD ns ws (some kvs) && (prs ns ws).all fun p => !qB kvs ws p)) H1 := q
        rw [hD, Bool.false_and] at q
        exact q
    | true =>
      cases o with
      | none => cases hD
      | some kvs =>
        have hx2 := hx.same s1
        obtain ⟨d, rfl, hd, _⟩ := hx2
        have hDl := dlA_of hD
        refine iteT ⟨_, rfl, _, rfl, M, d, ns, ws, kvs, rfl, hM.same s1, hd, hDl, nn, g1, fun zs l H2 hp s2 PP => ?_⟩
        refine ⟨by show 0 ≤ sizeLine; exact Nat.zero_le _, fun e he => ?_⟩
        have s3 : Same H2 (upd H2 e (.lst [])) := Same.new he
        have mem : ∀ ab ∈ zs, ab.1 ∈ ns ∧ ab.2 ∈ ns ∧ ab.2 ∈ opn ws ab.1 ∧ ab.1 ∈ opn ws ab.2 := fun ab h => by
          obtain ⟨a', ha', hm⟩ := List.mem_flatMap.mp (hp.mem_iff.mp h)
          obtain ⟨b', hb', e⟩ := List.mem_map.mp hm
          subst e
          have hbo := (List.mem_filter.mp hb').1
          obtain ⟨h1, h2⟩ := opn_sym g1 ha' hbo
          exact ⟨ha', h1, hbo, h2⟩
        have eqf : zs.filter (qL kvs ws) = zs.filter (qB kvs ws) := List.filter_congr fun ab h => by
          obtain ⟨m1, m2, m3, m4⟩ := mem ab h
          exact qL_qB hDl m1 m2 m3 m4
        rw [eqf] at PP
        refine pairs_eq_nil (PP.same s3) upd_same (fun p hp => ?_) ?_ ?_
        · obtain ⟨m1, m2, _⟩ := mem p (List.mem_filter.mp hp).1
          exact ⟨nn.nm _ m1, nn.nm _ m2⟩
        · have q1 := hp.length_eq
          have q2 := prs_len (ws := ws) (ps := ns) fun a ha => by have := (g1 a ha).len; omega
          have q3 := List.length_filter_le (qB kvs ws) zs
          omega
        · have q : Q (.bl (isD ns ws (some kvs) && (prs ns ws).all fun p => !qB kvs ws p)) _ := kq _ ((s1.trans s2).trans s3)
          rw [hD, Bool.true_and, ← fil_all hp] at q
          exact q
end
end Qp
namespace Qp
open PySem L2
theorem valV_put_or {kvs : List (Key × V)} {k key : Key} {v x : V} (h : valV (putK kvs k v) key = some x) : x = v ∨ valV kvs key = some x := by
  rw [valV_put] at h
  split at h
  · exact .inl (Option.some.inj h).symm
  · exact .inr h
/-- the values of a drawn dealing -/
def NV (v : V) : Prop := v = .non ∨ ∃ z, v = .str z ∧ nameS z = true
/-- a part of a dealing -/
structure PD (kvs : List (Key × V)) (ns : List Str) (ws : Str → List Str) : Prop where
  nd : (kvs.map (·.1)).Nodup
  ks : ∀ k ∈ kvs.map (·.1), ∃ a ∈ ns, k = Sum.inr a
  v : ∀ a v, valV kvs (Sum.inr a) = some v → v = .non ∨ ∃ b, v = .str b ∧ b ∈ opn ws a ∧ valV kvs (Sum.inr b) = some (.str a)
theorem keys_put {kvs : List (Key × V)} {k : Key} {v : V} (h : valV kvs k = none) : (putK kvs k v).map (·.1) = kvs.map (·.1) ++ [k] := by
  rw [putK_new v h, List.map_append]
  rfl
theorem keys_old {kvs : List (Key × V)} {k : Key} {v : V} (h : (valV kvs k).isSome = true) : (putK kvs k v).map (·.1) = kvs.map (·.1) := by
  unfold putK
  have a : (kvs.any fun kv => decide (kv.1 = k)) = true := by
    rw [List.any_eq_true]
    obtain ⟨p, hp, e⟩ := List.mem_map.mp (key_of_val h)
    exact ⟨p, hp, decide_eq_true e⟩
  rw [if_pos a, List.map_map]
  refine List.map_congr_left fun p _ => ?_
  show (if p.1 = k then (p.1, v) else p).1 = p.1
  split <;> rfl
theorem not_key {kvs : List (Key × V)} {k : Key} (h : valV kvs k = none) : k ∉ kvs.map (·.1) := by
  induction kvs with
  | nil => intro z; cases z
  | cons p r ih =>
    obtain ⟨k0, v0⟩ := p
    by_cases e : k0 = k
    · rw [valV_pos e] at h
      cases h
    · rw [valV_neg e] at h
      rw [List.map_cons, List.mem_cons]
      rintro (q | q)
      · exact e q.symm
      · exact ih h q
theorem PD.nil {ns : List Str} {ws : Str → List Str} : PD [] ns ws := ⟨List.nodup_nil, (fun _ h => by cases h), fun _ _ h => by cases h⟩
theorem nd_snoc {α : Type} {l : List α} {x : α} (h : l.Nodup) (hx : x ∉ l) : (l ++ [x]).Nodup := by
  rw [List.nodup_append]
  refine ⟨h, by simp, fun a ha b hb e => ?_⟩
  have : b = x := by simpa using hb
  subst this
  subst e
  exact hx ha
theorem PD.non {kvs : List (Key × V)} {ns : List Str} {ws : Str → List Str} (h : PD kvs ns ws) {a : Str} (ha : a ∈ ns) (hn : valV kvs (Sum.inr a) = none) : PD (putK kvs (Sum.inr a) .non) ns ws := by
  refine ⟨?_, fun k hk => ?_, fun c v hv => ?_⟩
  · rw [keys_put hn]
    exact nd_snoc h.nd (not_key hn)
  · rw [keys_put hn] at hk
    rcases List.mem_append.mp hk with q | q
    · exact h.ks k q
    · exact ⟨a, ha, by simpa using q⟩
  · rw [valV_put] at hv
    by_cases e : (Sum.inr c : Key) = Sum.inr a
    · rw [if_pos e] at hv
      exact .inl (Option.some.inj hv).symm
    · rw [if_neg e] at hv
      rcases h.v c v hv with q | ⟨b, q1, q2, q3⟩
      · exact .inl q
      · refine .inr ⟨b, q1, q2, ?_⟩
        rw [valV_put, if_neg (fun e2 => by rw [e2, hn] at q3; cases q3)]
        exact q3
theorem PD.pair {kvs : List (Key × V)} {ns : List Str} {ws : Str → List Str} (h : PD kvs ns ws) (g : ∀ a ∈ ns, GRow ns a (ws a)) {a z : Str} (ha : a ∈ ns) (hn : valV kvs (Sum.inr a) = none) (hz : z ∈ opn ws a) (hzn : valV kvs (Sum.inr z) = none) :
    PD (putK (putK (putK kvs (Sum.inr a) .non) (Sum.inr a) (.str z)) (Sum.inr z) (.str a)) ns ws := by
  have hza : z ≠ a := ((g a ha).2 z (List.mem_filter.mp hz).1).2
  have hsy := opn_sym g ha hz
  have e1 : valV (putK kvs (Sum.inr a) V.non) (Sum.inr a) = some .non := by rw [valV_put, if_pos rfl]
  have nz : ∀ {y z' : Str}, y ≠ z' → (Sum.inr y : Key) ≠ Sum.inr z' := fun h e => h (Sum.inr.inj e)
  have e2 : valV (putK (putK kvs (Sum.inr a) V.non) (Sum.inr a) (.str z)) (Sum.inr z) = none := by rw [valV_put, if_neg (nz hza), valV_put, if_neg (nz hza)]; exact hzn
  have ek : (putK (putK (putK kvs (Sum.inr a) .non) (Sum.inr a) (.str z)) (Sum.inr z) (.str a)).map (·.1) = kvs.map (·.1) ++ [Sum.inr a] ++ [Sum.inr z] := by
    rw [keys_put e2, keys_old (by rw [e1]; rfl), keys_put hn]
  have val : ∀ c, valV (putK (putK (putK kvs (Sum.inr a) .non) (Sum.inr a) (.str z)) (Sum.inr z) (.str a)) (Sum.inr c) = if c = z then some (.str a) else if c = a then some (.str z) else valV kvs (Sum.inr c) := fun c => by
    rw [valV_put, valV_put, valV_put]
    by_cases h1 : c = z
    · rw [if_pos (by rw [h1]), if_pos h1]
    · rw [if_neg (nz h1), if_neg h1]
      by_cases h2 : c = a
      · rw [if_pos (by rw [h2]), if_pos h2]
      · rw [if_neg (nz h2), if_neg (nz h2), if_neg h2]
  refine ⟨?_, fun k hk => ?_, fun c v hv => ?_⟩
  · rw [ek]
    refine nd_snoc (nd_snoc h.nd (not_key hn)) fun q => ?_
    rcases List.mem_append.mp q with q | q
    · exact not_key hzn q
    · exact nz hza (by simpa using q)
  · rw [ek] at hk
    rcases List.mem_append.mp hk with q | q
    · rcases List.mem_append.mp q with q | q
      · exact h.ks k q
      · exact ⟨a, ha, by simpa using q⟩
    · exact ⟨z, hsy.1, by simpa using q⟩
  · rw [val] at hv
    by_cases h1 : c = z
    · rw [if_pos h1] at hv
      refine .inr ⟨a, (Option.some.inj hv).symm, by rw [h1]; exact hsy.2, ?_⟩
      rw [val, if_neg (Ne.symm hza), if_pos rfl, h1]
    · rw [if_neg h1] at hv
      by_cases h2 : c = a
      · rw [if_pos h2] at hv
        refine .inr ⟨z, (Option.some.inj hv).symm, by rw [h2]; exact hz, ?_⟩
        rw [val, if_pos rfl, h2]
      · rw [if_neg h2] at hv
        rcases h.v c v hv with q | ⟨b, q1, q2, q3⟩
        · exact .inl q
        · refine .inr ⟨b, q1, q2, ?_⟩
          rw [val, if_neg (fun e => by rw [e, hzn] at q3; cases q3), if_neg (fun e => by rw [e, hn] at q3; cases q3)]
          exact q3
theorem PD.isD {kvs : List (Key × V)} {ns : List Str} {ws : Str → List Str} (h : PD kvs ns ws) (g : ∀ a ∈ ns, GRow ns a (ws a)) (hnd : ns.Nodup) (all : ∀ a ∈ ns, (valV kvs (Sum.inr a)).isSome = true) : isD ns ws (some kvs) = true := by
  show (hasB kvs ns && ns.all (okA kvs ns ws)) = true
  rw [Bool.and_eq_true]
  refine ⟨?_, List.all_eq_true.mpr fun a ha => ?_⟩
  · unfold hasB
    rw [Bool.and_eq_true]
    refine ⟨decide_eq_true (Nat.le_antisymm ?_ ?_), List.all_eq_true.mpr all⟩
    · have := nodup_sub_length (l := kvs.map (·.1)) (m := ns.map Sum.inr) h.nd fun k hk => by
        obtain ⟨a, ha, e⟩ := h.ks k hk
        rw [e]
        exact List.mem_map.mpr ⟨a, ha, rfl⟩
      rw [List.length_map, List.length_map] at this
      exact this
    · have := nodup_sub_length (l := ns.map (Sum.inr : Str → Key)) (m := kvs.map (·.1)) (List.Pairwise.map _ (fun _ _ n e => n (Sum.inr.inj e)) hnd) fun k hk => by
        obtain ⟨a, ha, e⟩ := List.mem_map.mp hk
        subst e
        exact key_of_val (all a ha)
      rw [List.length_map, List.length_map] at this
      exact this
  · obtain ⟨v, ev⟩ := Option.isSome_iff_exists.mp (all a ha)
    unfold okA
    rw [ev]
    show okD kvs ns ws a v = true
    unfold okD
    rcases h.v a v ev with q | ⟨b, rfl, q2, q3⟩
    · rw [decide_eq_true q, Bool.true_or]
    · have e1 : inS (V.str b) ns = true := by rw [inS_str, decide_eq_true (opn_sym g ha q2).1]
      have e2 : inS (V.str b) (opn ws a) = true := by rw [inS_str, decide_eq_true q2]
      have e3 : decide (valV kvs (Sum.inr (unV (V.str b))) = some (V.str a)) = true := decide_eq_true q3
      rw [e1, e2, e3]
      simp
abbrev nAny : List Str := ["_law_state", "_law_mutual_here", "_law_x", "_law_a", "_law_free", "_law_at", "_law_b"]
section
variable {P : Program} {w : World} {K : PySem.W.Frag} {mg : Str → Option Value} {base : Heap}
/-- _law_any_dealing(state, mutual) -/
def spAny : Sp := fun vs H Q _ => ∃ (st M : Addr) (ns : List Str) (ws : Str → List Str), vs = [.ref st, .ref M] ∧ StAt H st ∧ RowsG H M ns (fun z => lstO (opn ws z)) ∧ Nm ns ∧ (∀ a ∈ ns, GRow ns a (ws a)) ∧
  ∀ D H' kvs, SameBut st H H' → StAt H' st → H D = none → H' D = some (.dK kvs) → kvs.length ≤ 64 → (∀ key v, valV kvs key = some v → NV v) → isD ns ws (some kvs) = true → Q (.ref D) H'
structure AnI (H H' : Hp) (st D p : Addr) (ps : List Str) (kvs : List (Key × V)) (b : Nat) : Prop where
  sb : SameBut st H H'
  s : StAt H' st
  d : H' D = some (.dK kvs)
  p : H' p = some (lstO ps)
  l : kvs.length ≤ b
  v : ∀ key v, valV kvs key = some v → NV v
theorem AnI.put {H H' : Hp} {st D p : Addr} {ps : List Str} {kvs : List (Key × V)} {b : Nat} (m : AnI H H' st D p ps kvs b) (hD : H D = none) {k : Key} {v : V} (hv : NV v) : AnI H (upd H' D (.dK (putK kvs k v))) st D p ps (putK kvs k v) (b + 1) := by
  obtain ⟨n, z, e, r⟩ := m.s
  have nd : ∀ b o, H' b = some o → (∀ kv, o ≠ .dK kv) → (upd H' D (.dK (putK kvs k v))) b = some o := fun b o e n => by
    rw [upd_ne (fun q => by rw [q, m.d] at e; exact n _ (Option.some.inj e).symm)]
    exact e
  refine ⟨fun b o nb e => ?_, ⟨n, z, nd _ _ e (fun _ q => by cases q), r⟩, upd_same, nd _ _ m.p (fun _ q => by cases q), Nat.le_trans (length_putK _ _ _) (Nat.add_le_add_right m.l 1), fun key x hx => ?_⟩
  · rw [upd_ne (ne_of_none e hD)]
    exact m.sb _ _ nb e
  · rcases valV_put_or hx with q | q
    · rw [q]; exact hv
    · exact m.v key x q
theorem AnI.but {H H' H2 : Hp} {st D p : Addr} {ps : List Str} {kvs : List (Key × V)} {b : Nat} (m : AnI H H' st D p ps kvs b) (sb : SameBut st H' H2) (hs : StAt H2 st) : AnI H H2 st D p ps kvs b := by
  obtain ⟨n, z, e, r⟩ := m.s
  exact ⟨m.sb.trans sb, hs, sb _ _ (ne_of m.d e (by intro z; cases z)) m.d, sb _ _ (ne_st m.s m.p) m.p, m.l, m.v⟩
theorem AnI.up {H H' : Hp} {st D p : Addr} {ps : List Str} {kvs : List (Key × V)} {b c : Nat} (m : AnI H H' st D p ps kvs b) (h : b ≤ c) : AnI H H' st D p ps kvs c := ⟨m.sb, m.s, m.d, m.p, Nat.le_trans m.l h, m.v⟩
end
end Qp
/-! name = {k: v for ..} on one line, the name a local -/
namespace L2
open PySem PySem.Spec PyProof.Rows
section
variable {X : Cx}
theorem swD_true {kx vx : Expr} {cs : List Comprehension} {sco : Scope} {po pn : Pos} {nm : Str} {ln : Nat} {en : Env} (kf : en.scope.kind = .function) (lo : en.scope.names.lookup nm = some .local) (eq1 : (pn.line == po.line) = true)
    (no : (sco.names.any fun (z, q) => z == nm && (q == .local || q == .cell)) = false) : swapsWith (.DictComp kx vx cs sco po) (some (.Name nm pn)) ln en = pure true := by
  have h1 : en.kindOf nm = some .local := lo
  have h2 : en.blockKind = .function := by
    unfold Env.blockKind
    rw [kf]
    rfl
  unfold swapsWith
  simp only [h2, h1, no, Expr.pos, eq1]
  rfl
theorem ps_setDc {j : Nat} {nm : Str} {pn : Pos} {kx vx tgt src : Expr} {cond : List Expr} {sco : Scope} {mine : List (Str × Nat)} {po sp : Pos} {rw1 : TI} {gg : TG} {tc : TT} {rk rv : TE} (calm : X.calm = true) (nd : X.N.Nodup) (at_ : X.N[j]? = some nm) (lo : X.env.scope.names.lookup nm = some .local)
    (sw : swapsWith (.DictComp kx vx [⟨tgt, src, cond, 0⟩] sco po) (some (.Name nm pn)) sp.line X.env = pure true) (walk : PI X tgt src rw1) (bo : BlkOk X.N X.env.scope sco mine)
    (p1 : ∀ (z : Shared) (G : Hp) (B : Addr) (cc : List (Str × Addr)) (ff : List Addr), PG (X.blk z G sco (compEnvC sco cc B X.env) ff) tgt gg) (p2 : ∀ (z : Shared) (G : Hp) (B : Addr) (cc : List (Str × Addr)) (ff : List Addr), PTs (X.blk z G sco (compEnvC sco cc B X.env) ff) cond tc)
    (p3 : ∀ (z : Shared) (G : Hp) (B : Addr) (cc : List (Str × Addr)) (ff : List Addr), PE (X.blk z G sco (compEnvC sco cc B X.env) ff) kx rk)
    (p4 : ∀ (z : Shared) (G : Hp) (B : Addr) (cc : List (Str × Addr)) (ff : List Addr), PE (X.blk z G sco (compEnvC sco cc B X.env) ff) vx rv) (fo : ∀ x, foldedSetIterable src X.env x = pure x := by intro _; rfl) :
    PS X (.Assign [.Name nm pn] (.DictComp kx vx [⟨tgt, src, cond, 0⟩] sco po) sp) (tAsg (tDc rw1 gg tc rk rv (mine.map (·.2))) (gName j)) := by
  refine ⟨fun ps0 st0 q0 G0 E0 J0 h0 => ?_⟩
  rw [exec_Assign_Name_used _ _ _ _ sw]
  refine wpAny_bind (wpAny_standAt (wpAny_bind ?_))
  have h1 : tDc rw1 gg tc rk rv (mine.map (·.2)) q0 G0 (fun v G1 => gName j v q0 G1 E0.nx) := h0
  show wpAny _ X.A (do let _ ← comprehension (.DictComp kx vx [⟨tgt, src, cond, 0⟩] sco po) sco X.env (firstIterPos [⟨tgt, src, cond, 0⟩] po) newDict false (eval src X.env) (some (assign (.Name nm pn) X.env))) _ _ st0
  refine wpAny_bind (thn (dc_core (Qf := fun _ st1 => SP X ps0 E0 .next st1) calm nd J0 walk bo p1 p2 p3 p4 fo h1 fun D B st1 m1 G1 J1 q1 ns1 f1 => ?_) fun _ st1 hq => wpAny_pure (wpAny_pure hq))
  show wpAny _ _ (assign (.Name nm pn) X.env (.ref D)) _ _ _
  refine wpAny_assign_Name (store_ok2 (v := V.ref D) J1 nd at_ (.inl lo) rfl (fun st2 J2 ⟨a, sb, ha⟩ => ?_) (.inr lo))
  obtain ⟨c0, c1, c2, c3, c4, c5⟩ := f1
  have nBa : B ≠ a := by
    rcases ha with e | e
    · rw [e]
      exact c1
    · exact fun y => c4 nm a e y.symm
  refine ⟨m1, ns1.sameBut sb nBa, fun st3 sb3 => ?_⟩
  exact ⟨_, G1, J2.turned (t' := st2.toks) (fun b o hb e => (sb3.2 b hb).trans e) c0 c1 c3 c4 c5, q1⟩
end
end L2
/-! several clauses, each 'except T as n', all with one name n -/
namespace L2
open PySem PySem.Spec PyProof.Rows
abbrev Sui := Addr → Value → Option Addr → TS
/-- behind a suite its name is gone -/
def without (i : Nat) (D : Ends) : Ends :=
  { nx := fun q H => D.nx (q.set i none) H, rt := D.rt, bk := fun q H => D.bk (q.set i none) H, ct := fun q H => D.ct (q.set i none) H }
/-- the clauses' wishes, from the first -/
def wNamed (K : PySem.W.Frag) (i : Nat) (Wo : WX) (D : Ends) : List (Value × Sui) → WX
  | [] => Wo
  | p :: more => fun T d q H => ∃ yes, PySem.W.exmOne K T p.1 = some yes ∧
      (yes = true → ∀ e, H e = none → p.2 e T d (without i D) (q.set i (some (.ref e))) H) ∧ (yes = false → wNamed K i Wo D more T d q H)
/-- the clauses as they are written, their suites as rules -/
inductive NamedHds (X : Cx) (n : Str) : List ExceptHandler → List (Value × Sui) → Prop
  | nil : NamedHds X n [] []
  | cons {x : Str} {c : Value} {ts : Sui} {st : Stmt} {sts : List Stmt} {px ph : Pos} {hs : List ExceptHandler} {l : List (Value × Sui)} (hc : Names X x c)
      (su : ∀ (e : Addr) (oe : Obj) (T : Value) (d : Option Addr) (pn : List (Addr × Obj)), Zc T d oe → (∃ vs, oe.data = .fields vs) → PSs (X.suite e ((e, oe) :: pn)) (st :: sts) (ts e T d))
      (tl : NamedHds X n hs l) : NamedHds X n (.ExceptHandler (some (.Name x px)) (some n) (st :: sts) ph :: hs) ((c, ts) :: l)
section
variable {X : Cx} {body : List Stmt} {h0 : ExceptHandler} {hs : List ExceptHandler} {l : List (Value × Sui)} {pos : Pos} {tb : WX → TS} {Wo : WX} {i : Nat} {n : Str}
theorem ps_try_named (hst : X.stack = X.env :: X.outer) (hfr0 : X.env.frame = some X.env.locals) (hN : X.N.Nodup) (hi : X.N[i]? = some n) (hln : X.env.kindOf n = some .local) (tk : Takes X Wo)
    (hb : ∀ (W : WX) (pn : List (Addr × Obj)) (xe : Value → Shared → Prop), Takes (X.tr pn xe) W → PassesOwn (model X.prog X.w) X.A X.env xe → PSs (X.tr pn xe) body (tb W))
    (hh : NamedHds X n (h0 :: hs) l) : PS X (.Try body (h0 :: hs) [] [] pos) (fun D q H => tb (wNamed X.K i Wo D l) D q H) := by
  constructor
  intro pins s q H D I hw
  have ok := I.ok
  have stk : X.A.frames = some (X.env :: X.outer) := ok.frames.trans (by rw [hst])
  let late : Value → Shared → Prop := fun e a1 => wpAny (model X.prog X.w) X.A (noteFrame e X.env)
    (fun _ a2 => wpAny (model X.prog X.w) X.A (setFlight e none) (fun _ a3 => wpAny (model X.prog X.w) X.A (handleBy e X.env (h0 :: hs)) (SP X pins D) X.xe a3) X.xe a2) X.xe a1
  have catches : Takes (X.tr (X.pn ++ pins) late) (wNamed X.K i Wo D l) := by
    rintro u sB ⟨e0, B0, sIn, pin2, q2, H2, T, d, rfl, JT, nob, upB, skyB, free, sameOs, bareB, wish⟩
    have JI : Inv X pins q2 H2 sIn := JT.ofTry ok
    have skyE : Sky B0 (X.env :: X.outer) e0 (Zc T d) X.env.locals sB.heap := by
      rw [← hst]
      exact skyB
    show wpAny (model X.prog X.w) X.A (noteFrame (.ref e0) X.env) _ _ _
    apply Sky.land Zc.steady stk hfr0 skyE
    intro hA landed upA
    have JA : Inv X pins q2 H2 { sB with heap := hA } := JI.landed nob landed.1 (upB.trans upA) sameOs bareB
    obtain ⟨oA, flds, atA, zA, datA⟩ := landed.there
    have noFrame : e0 ∉ frs (X.env :: X.outer) := by
      intro inFr
      obtain ⟨_, o2, at2, noFl⟩ := landed.2.2.1.mem inFr
      obtain rfl : oA = o2 := Option.some.inj (atA.symm.trans at2)
      exact noFl _ datA
    have notL : e0 ≠ X.env.locals := by
      rintro rfl
      exact noFrame (List.mem_filterMap.mpr ⟨X.env, List.mem_cons_self, by rw [hfr0]⟩)
    have notF : e0 ∉ X.fs := by
      intro inF
      obtain ⟨en, hen, eq2⟩ := List.mem_filterMap.mp inF
      exact noFrame (List.mem_filterMap.mpr ⟨en, List.mem_cons_of_mem _ hen, eq2⟩)
    have JS := JA.suite atA datA free notL notF
    have clauses : ∀ (ks : List ExceptHandler) (m : List (Value × Sui)), NamedHds X n ks m → wNamed X.K i Wo D m T d q2 H2 → wpAny (model X.prog X.w) X.A (handleBy (.ref e0) X.env ks) (SP X pins D) X.xe { sB with heap := hA } := by
      intro ks m hk
      induction hk with
      | nil =>
        intro out
        apply wpAny_handleBy_nil
        obtain ⟨_, _, _, oC, fC, trb, oT, tsT, atC, zC, datC, oneC, _⟩ := id landed
        unfold PySem.passOn
        refine wpAny_bind (wpAny_field atC datC oneC ?_)
        have nn : ¬ ((Value.ref trb == Value.none) = true) := by simp
        rw [if_neg nn]
        have leave : wpAny (model X.prog X.w) X.A (setFlight (.ref e0) X.env.frame) (fun _ s4 => wpAny (model X.prog X.w) X.A (throw (.ref e0) : Sem Flow) (SP X pins D) X.xe s4) X.xe { sB with heap := hA } := by
          rw [hfr0]
          apply HandSPX.setFlight_upZ landed
          intro hC inC upC
          refine wpAny_throw (tk _ _ ⟨e0, B0, sIn, pins, q2, H2, T, d, rfl, JI, nob, (upB.trans upA).trans upC, ?_, free, sameOs, bareB, out⟩)
          exact .inr (.inr (by rw [hst]; exact inC))
        first
          | exact wpAny_bind leave
          | exact wpAny_bind (wpAny_pure (wpAny_bind leave))
      | @cons x c ts st sts px ph more rest named su tl ih =>
        rintro ⟨yes, isIt, onYes, onNo⟩
        have tyE : PySem.W.Looks (model X.prog X.w) hA (typeOf (.ref e0)) T := fun A2 Q2 E2 s2 kp q3 => wpAny_typeOf_ref (kp _ _ atA) (by rw [zA.1]; exact q3)
        have look := PySem.W.exm_one (M := model X.prog X.w) JA.kIn tyE isIt
        have nameIs : ∀ {Q2 : Value → Shared → Prop} {E2 : Value → Shared → Prop}, Q2 c { sB with heap := hA } → wpAny (model X.prog X.w) (X.A.mark (some (.ref e0))) (eval (.Name x px) X.env) Q2 E2 { sB with heap := hA } := by
          intro Q2 E2 q3
          rcases named with ⟨gl, nd, own | ⟨no, blt, nn⟩⟩
          · exact ld_glob (X := X.suite e0 ((e0, oA) :: (X.pn ++ pins))) JS gl own q3 nd
          · exact ld_blt (X := X.suite e0 ((e0, oA) :: (X.pn ++ pins))) JS gl no blt q3 nn nd
        refine wpAny_handleBy_cons (codeAny_handlers_test (nameIs (look.here ?_))) (by intro z; cases z)
        cases yes with
        | false =>
          show wpAny _ X.A (handleBy (.ref e0) X.env more) _ _ _
          exact ih (onNo rfl)
        | true =>
          apply codeAny_handlers_suite_as
          apply HandSPX.lands_againZ landed
          intro hD landD upD
          have JD : Inv X pins q2 H2 { sB with heap := hD } := JI.landed nob landD.1 ((upB.trans upA).trans upD) sameOs bareB
          obtain ⟨oD, fD, atD, zD, datD⟩ := landD.there
          have JDS := JD.suite atD datD free notL notF
          refine store_ok (X := X.suite e0 ((e0, oD) :: (X.pn ++ pins))) (v := .ref e0) JDS hN hi (.inl hln) rfl (fun sE JE => ?_) (.inr hln)
          have runs := (su e0 oD T d (X.pn ++ pins) zD ⟨_, datD⟩).run [] sE _ H2 _ JE (onYes rfl e0 free)
          refine wpAny_mono runs (fun fl sF ends => ?_) (fun _ _ z => z.elim)
          have bye : ∀ {qF : St} {HF : Hp} {QF : Shared → Prop}, Inv (X.suite e0 ((e0, oD) :: (X.pn ++ pins))) [] qF HF sF → (∀ sG, Inv X pins (qF.set i none) HF sG → QF sG) →
              wpAny (model X.prog X.w) X.A (do bindName X.env n .none; unbindBehindTheSuite X.env n ph) (fun _ sG => QF sG) X.xe sF := by
            intro qF HF QF JF after
            exact gone_ok (JF.unsuite ok) hN hi hln after
          cases fl with
          | ret u =>
            obtain ⟨vF, qF, HF, JF, rF, got⟩ := ends
            exact bye JF fun sG JG => ⟨_, _, _, JG, rF, got⟩
          | next =>
            obtain ⟨qF, HF, JF, got⟩ := ends
            exact bye JF fun sG JG => ⟨_, _, JG, got⟩
          | brk =>
            obtain ⟨qF, HF, JF, got⟩ := ends
            exact bye JF fun sG JG => ⟨_, _, JG, got⟩
          | cont =>
            obtain ⟨qF, HF, JF, got⟩ := ends
            exact bye JF fun sG JG => ⟨_, _, JG, got⟩
    exact clauses _ _ hh wish
  have ran := (hb (wNamed X.K i Wo D l) (X.pn ++ pins) late catches PassesOwn.looking).run [] s q H D (I.toTry _) hw
  refine wpAny_Try_except (wpAny_mono ran (fun fl sZ ends => ?_) fun _ _ z => z)
  cases fl with
  | next =>
    obtain ⟨qZ, HZ, JZ, got⟩ := ends
    exact wpAny_execs_nil ⟨qZ, HZ, JZ.ofTry ok, got⟩
  | ret u =>
    obtain ⟨vZ, qZ, HZ, JZ, rZ, got⟩ := ends
    exact ⟨vZ, qZ, HZ, JZ.ofTry ok, rZ, got⟩
  | brk =>
    obtain ⟨qZ, HZ, JZ, got⟩ := ends
    exact ⟨qZ, HZ, JZ.ofTry ok, got⟩
  | cont =>
    obtain ⟨qZ, HZ, JZ, got⟩ := ends
    exact ⟨qZ, HZ, JZ.ofTry ok, got⟩
end
end L2
namespace Qp
open PySem L2
def oV : Option Str → V
  | none => .non
  | some b => .str b
theorem oV_inj {a b : Option Str} (h : oV a = oV b) : a = b := by
  cases a with
  | none =>
    cases b with
    | none => rfl
    | some y => cases h
  | some x =>
    cases b with
    | none => cases h
    | some y =>
      cases h
      rfl
/-- the pairs of a dict of texts and partners -/
def okv (qs : List Str) (f : Str → Option Str) : List (Key × V) := qs.map fun a => ((Sum.inr a : Key), oV (f a))
theorem okv_len {qs : List Str} {f : Str → Option Str} : (okv qs f).length = qs.length := List.length_map ..
theorem okv_val {f : Str → Option Str} : ∀ {qs : List Str} {a : Str}, a ∈ qs → valV (okv qs f) (Sum.inr a) = some (oV (f a))
  | [], _, h => by cases h
  | b :: r, a, h => by
    by_cases e : b = a
    · exact valV_pos (by show (Sum.inr b : Key) = Sum.inr a; rw [e]) |>.trans (by rw [e])
    · show valV (((Sum.inr b : Key), oV (f b)) :: okv r f) (Sum.inr a) = _
      rw [valV_neg (fun z => e (Sum.inr.inj z))]
      rcases List.mem_cons.mp h with q | q
      · exact absurd q.symm e
      · exact okv_val q
theorem okv_none {f : Str → Option Str} : ∀ {qs : List Str} {a : Str}, a ∉ qs → valV (okv qs f) (Sum.inr a) = none
  | [], _, _ => rfl
  | b :: r, a, h => by
    show valV (((Sum.inr b : Key), oV (f b)) :: okv r f) (Sum.inr a) = _
    rw [valV_neg (fun z => h (by
      have e : b = a := Sum.inr.inj z
      rw [e]
      exact List.mem_cons_self))]
    exact okv_none fun q => h (List.mem_cons_of_mem _ q)
theorem okv_sub {f : Str → Option Str} {key : Key} {v : V} : ∀ {qs : List Str}, valV (okv qs f) key = some v → ∃ a ∈ qs, key = Sum.inr a ∧ v = oV (f a)
  | [], h => by cases h
  | b :: r, h => by
    by_cases e : (Sum.inr b : Key) = key
    · rw [show okv (b :: r) f = ((Sum.inr b : Key), oV (f b)) :: okv r f from rfl, valV_pos e] at h
      exact ⟨b, List.mem_cons_self, e.symm, (Option.some.inj h).symm⟩
    · rw [show okv (b :: r) f = ((Sum.inr b : Key), oV (f b)) :: okv r f from rfl, valV_neg e] at h
      obtain ⟨a, h1, h2⟩ := okv_sub h
      exact ⟨a, List.mem_cons_of_mem _ h1, h2⟩
theorem oV_kd {H : Hp} (o : Option Str) : ∃ k, IsK H (oV o) k := by
  cases o with
  | none => exact ⟨_, .non⟩
  | some b => exact ⟨_, .str b⟩
theorem okv_kd {H : Hp} {qs : List Str} {f : Str → Option Str} (key : Key) (v : V) (h : valV (okv qs f) key = some v) : ∃ k, IsK H v k := by
  obtain ⟨a, _, _, rfl⟩ := okv_sub h
  exact oV_kd _
theorem okv_keys {qs : List Str} {f : Str → Option Str} : (okv qs f).map (·.1) = qs.map Sum.inr := by
  unfold okv
  rw [List.map_map]
  rfl
def setO (f : Str → Option Str) (a : Str) (o : Option Str) : Str → Option Str := fun z => if z = a then o else f z
theorem okv_congr {f g : Str → Option Str} {qs : List Str} (h : ∀ a ∈ qs, f a = g a) : okv qs f = okv qs g := by
  unfold okv
  exact List.map_congr_left fun a ha => by rw [h a ha]
theorem okv_put {f : Str → Option Str} {qs : List Str} {a : Str} {o : Option Str} (h : a ∈ qs) : putK (okv qs f) (Sum.inr a) (oV o) = okv qs (setO f a o) := by
  have hm : ((okv qs f).any fun kv => decide (kv.1 = Sum.inr a)) = true := by
    rw [List.any_eq_true]
    exact ⟨(Sum.inr a, oV (f a)), List.mem_map.mpr ⟨a, h, rfl⟩, by simp⟩
  unfold putK
  rw [if_pos hm]
  unfold okv
  rw [List.map_map]
  refine List.map_congr_left fun z hz => ?_
  show (if (Sum.inr z : Key) = Sum.inr a then _ else _) = _
  unfold setO
  by_cases e : z = a
  · rw [if_pos (by rw [e]), if_pos e]
  · rw [if_neg (fun q => e (Sum.inr.inj q)), if_neg e]
theorem okv_snoc {f : Str → Option Str} {qs : List Str} {a : Str} (h : a ∉ qs) : putK (okv qs f) (Sum.inr a) (oV (f a)) = okv (qs ++ [a]) f := by
  rw [putK_new _ (okv_none h)]
  unfold okv
  rw [List.map_append]
  rfl
/-- a dict whose values are partners -/
theorem kv_okv {kvs : List (Key × V)} {qs : List Str} (hk : kvs.map (·.1) = qs.map Sum.inr) (nd : qs.Nodup) (hv : ∀ a ∈ qs, ∃ o, valV kvs (Sum.inr a) = some (oV o)) : ∃ f, kvs = okv qs f := by
  have ndk : (kvs.map (·.1)).Nodup := by
    rw [hk]
    exact List.Pairwise.map _ (fun _ _ n e => n (Sum.inr.inj e)) nd
  refine ⟨fun a => match valV kvs (Sum.inr a) with
    | some (.str b) => some b
    | _ => none, ?_⟩
  have e1 : kvs = kvs.map fun p => (p.1, (valV kvs p.1).getD .non) := by
    conv => lhs; rw [← List.map_id kvs]
    refine List.map_congr_left fun p hp => ?_
    rw [valV_nd ndk p hp]
    rfl
  have e2 : (kvs.map fun p => (p.1, (valV kvs p.1).getD .non)) = (kvs.map (·.1)).map fun k => (k, (valV kvs k).getD .non) := by
    rw [List.map_map]
    rfl
  rw [hk, List.map_map] at e2
  conv => lhs; rw [e1, e2]
  unfold okv
  refine List.map_congr_left fun a ha => ?_
  obtain ⟨o, ho⟩ := hv a ha
  show ((Sum.inr a : Key), (valV kvs (Sum.inr a)).getD .non) = _
  have e9 : (match valV kvs (Sum.inr a) with
    | some (.str b) => some b
    | _ => none) = o := by
    rw [ho]
    cases o <;> rfl
  show _ = ((Sum.inr a : Key), oV (match valV kvs (Sum.inr a) with
    | some (.str b) => some b
    | _ => none))
  rw [e9, ho]
  rfl
/-- f is a dealing of ns -/
def Dl (ns : List Str) (ws : Str → List Str) (f : Str → Option Str) : Prop := ∀ a ∈ ns, ∀ b, f a = some b → b ∈ opn ws a ∧ f b = some a
theorem isD_okv {ns qs : List Str} {ws : Str → List Str} {f : Str → Option Str} (hp : qs.Perm ns) (nd : ns.Nodup) (g : ∀ a ∈ ns, GRow ns a (ws a)) : isD ns ws (some (okv qs f)) = true ↔ Dl ns ws f := by
  have mem : ∀ a, a ∈ qs ↔ a ∈ ns := fun a => hp.mem_iff
  constructor
  · intro h a ha b hb
    have h' : (hasB (okv qs f) ns && ns.all (okA (okv qs f) ns ws)) = true := h
    rw [Bool.and_eq_true, List.all_eq_true] at h'
    have q := h'.2 a ha
    unfold okA at q
    rw [okv_val ((mem a).mpr ha), hb] at q
    have q : okD (okv qs f) ns ws a (.str b) = true := q
    unfold okD at q
    rw [decide_eq_false (by intro z; cases z), Bool.false_or, Bool.and_eq_true, Bool.and_eq_true, inS_str, inS_str] at q
    have hbn := of_decide_eq_true q.1.1
    have q2 := of_decide_eq_true q.2
    rw [show unV (V.str b) = b from rfl, okv_val ((mem b).mpr hbn)] at q2
    exact ⟨of_decide_eq_true q.1.2, oV_inj (Option.some.inj q2)⟩
  · intro h
    refine PD.isD ⟨?_, fun k hk => ?_, fun a v hv => ?_⟩ g nd fun a ha => ?_
    · rw [okv_keys]
      exact List.Pairwise.map _ (fun _ _ n e => n (Sum.inr.inj e)) (hp.nodup_iff.mpr nd)
    · rw [okv_keys] at hk
      obtain ⟨a, ha, rfl⟩ := List.mem_map.mp hk
      exact ⟨a, (mem a).mp ha, rfl⟩
    · obtain ⟨a', ha', e, rfl⟩ := okv_sub hv
      cases Sum.inr.inj e
      cases hf : f a with
      | none => exact .inl rfl
      | some b =>
        obtain ⟨h1, h2⟩ := h a ((mem a).mp ha') b hf
        have hb := (opn_sym g ((mem a).mp ha') h1).1
        exact .inr ⟨b, rfl, h1, by rw [okv_val ((mem b).mpr hb), h2]; rfl⟩
    · rw [okv_val ((mem a).mpr ha)]
      rfl
/-- a dealing that lies in a dict -/
theorem of_isD {ns : List Str} {ws : Str → List Str} {kvs : List (Key × V)} (h : isD ns ws (some kvs) = true) (nd : ns.Nodup) : ∃ qs f, qs.Perm ns ∧ kvs = okv qs f := by
  have h' : (hasB kvs ns && ns.all (okA kvs ns ws)) = true := h
  rw [Bool.and_eq_true] at h'
  obtain ⟨qs, hp, hk⟩ := has_names h'.1 nd
  have D := dlA_of h
  obtain ⟨f, e⟩ := kv_okv hk (hp.nodup_iff.mpr nd) fun a ha => by
    rcases D.v a (hp.mem_iff.mp ha) with q | ⟨b, q, _⟩
    · exact ⟨none, q⟩
    · exact ⟨some b, q⟩
  exact ⟨qs, f, hp, e⟩
/-! ### written as pairs -/
def gO (f : Str → Option Str) (a : Str) : List Str := match f a with
  | some b => [b]
  | none => []
theorem gO_pw {f : Str → Option Str} {a : Str} : (gO f a).Pairwise leS := by
  unfold gO
  cases f a with
  | none => exact List.Pairwise.nil
  | some b => exact List.pairwise_singleton _ _
def wr0 (f : Str → Option Str) (qs : List Str) : List (Str × Str) := qs.flatMap (pz (gO f))
theorem mem_wr0 {f : Str → Option Str} {qs : List Str} {p : Str × Str} : p ∈ wr0 f qs ↔ p.1 ∈ qs ∧ f p.1 = some p.2 ∧ p.1.cps.toList < p.2.cps.toList := by
  unfold wr0
  rw [List.mem_flatMap]
  constructor
  · rintro ⟨a, ha, hp⟩
    unfold pz at hp
    obtain ⟨b, hb, rfl⟩ := List.mem_map.mp hp
    obtain ⟨h1, h2⟩ := List.mem_filter.mp hb
    unfold gO at h1
    cases hf : f a with
    | none => rw [hf] at h1; cases h1
    | some c =>
      rw [hf] at h1
      have : b = c := by simpa using h1
      subst this
      exact ⟨ha, rfl, of_decide_eq_true h2⟩
  · rintro ⟨h1, h2, h3⟩
    refine ⟨p.1, h1, ?_⟩
    unfold pz gO
    rw [h2]
    exact List.mem_map.mpr ⟨p.2, List.mem_filter.mpr ⟨List.mem_singleton.mpr rfl, decide_eq_true h3⟩, rfl⟩
/-- zs is f written as pairs -/
structure Wr (qs : List Str) (f : Str → Option Str) (zs : List (Str × Str)) : Prop where
  p : zs.Perm (wr0 f qs)
  s : SrtO.Srtd ltZ zs
theorem Wr.uniq {qs rs : List Str} {f g : Str → Option Str} {zs us : List (Str × Str)} (h : Wr qs f zs) (k : Wr rs g us) (hp : qs.Perm rs) (e : ∀ a ∈ qs, f a = g a) : zs = us := by
  refine srtZ_uniq h.s k.s (h.p.trans (List.Perm.trans ?_ k.p.symm))
  refine List.Perm.trans (List.Perm.of_eq ?_) (List.Perm.flatMap_right _ hp)
  unfold wr0
  rw [List.flatMap_def, List.flatMap_def]
  congr 1
  refine List.map_congr_left fun a ha => ?_
  unfold pz gO
  rw [e a ha]
theorem wr0_cong {f g : Str → Option Str} {qs : List Str} (e : ∀ a ∈ qs, f a = g a) : wr0 f qs = wr0 g qs := by
  unfold wr0
  rw [List.flatMap_def, List.flatMap_def]
  congr 1
  refine List.map_congr_left fun a ha => ?_
  unfold pz gO
  rw [e a ha]
theorem Wr.move {qs rs : List Str} {f g : Str → Option Str} {zs : List (Str × Str)} (h : Wr qs f zs) (hp : qs.Perm rs) (e : ∀ a ∈ qs, f a = g a) : Wr rs g zs :=
  ⟨h.p.trans ((List.Perm.of_eq (wr0_cong e)).trans (List.Perm.flatMap_right _ hp)), h.s⟩
theorem wr0_nd {f : Str → Option Str} : ∀ {qs : List Str}, qs.Nodup → (wr0 f qs).Pairwise fun p q => p.1 ≠ q.1
  | [], _ => List.Pairwise.nil
  | a :: r, h => by
    obtain ⟨h1, h2⟩ := List.nodup_cons.mp h
    unfold wr0
    rw [List.flatMap_cons]
    refine List.pairwise_append.mpr ⟨?_, wr0_nd h2, fun p hp q hq e => ?_⟩
    · unfold pz gO
      cases f a with
      | none => exact List.Pairwise.nil
      | some b =>
        by_cases c : a.cps.toList < b.cps.toList
        · rw [List.filter_cons_of_pos (by simp [c])]
          exact List.pairwise_singleton _ _
        · rw [List.filter_cons_of_neg (by simp [c])]
          exact List.Pairwise.nil
    · have hp1 : p.1 = a := by
        unfold pz at hp
        obtain ⟨b, _, rfl⟩ := List.mem_map.mp hp
        rfl
      have hq1 := (mem_wr0.mp hq).1
      rw [← e, hp1] at hq1
      exact h1 hq1
/-! ### the walk over the pairs -/
def set2 (f : Str → Option Str) (p : Str × Str) : Str → Option Str := setO (setO f p.1 (some p.2)) p.2 (some p.1)
def run2 (f : Str → Option Str) (zs : List (Str × Str)) : Str → Option Str := zs.foldl set2 f
def f0 : Str → Option Str := fun _ => none
/-- every step finds both free and open -/
def Good (ns : List Str) (ws : Str → List Str) : (Str → Option Str) → List (Str × Str) → Prop
  | _, [] => True
  | f, p :: r => p.1 ∈ ns ∧ p.2 ∈ opn ws p.1 ∧ f p.1 = none ∧ f p.2 = none ∧ Good ns ws (set2 f p) r
theorem good_app {ns : List Str} {ws : Str → List Str} : ∀ {zs us : List (Str × Str)} {f : Str → Option Str}, Good ns ws f (zs ++ us) ↔ Good ns ws f zs ∧ Good ns ws (run2 f zs) us
  | [], us, f => by simp [Good, run2]
  | p :: r, us, f => by
    show _ ∧ _ ∧ _ ∧ _ ∧ Good ns ws (set2 f p) (r ++ us) ↔ (_ ∧ _ ∧ _ ∧ _ ∧ Good ns ws (set2 f p) r) ∧ Good ns ws (run2 (set2 f p) r) us
    rw [good_app]
    constructor
    · rintro ⟨a, b, c, d, e, g⟩
      exact ⟨⟨a, b, c, d, e⟩, g⟩
    · rintro ⟨⟨a, b, c, d, e⟩, g⟩
      exact ⟨a, b, c, d, e, g⟩
theorem run2_snoc {f : Str → Option Str} {zs : List (Str × Str)} {p : Str × Str} : run2 f (zs ++ [p]) = set2 (run2 f zs) p := by
  unfold run2
  rw [List.foldl_append]
  rfl
theorem dl_set2 {ns : List Str} {ws : Str → List Str} (g : ∀ a ∈ ns, GRow ns a (ws a)) {f : Str → Option Str} {a b : Str} (h : Dl ns ws f) (ha : a ∈ ns) (hb : b ∈ opn ws a) (fa : f a = none) (fb : f b = none) : Dl ns ws (set2 f (a, b)) := by
  obtain ⟨hbn, hab⟩ := opn_sym g ha hb
  have nab : a ≠ b := fun e => by
    have q := (g a ha).2 b (List.mem_filter.mp hb).1
    exact q.2 e.symm
  intro c hc d hd
  unfold set2 setO at hd ⊢
  dsimp only at hd ⊢
  by_cases c1 : c = b
  · rw [if_pos c1] at hd
    cases hd
    rw [c1, if_neg nab, if_pos rfl]
    exact ⟨hab, rfl⟩
  · rw [if_neg c1] at hd
    by_cases c2 : c = a
    · rw [if_pos c2] at hd
      cases hd
      rw [if_pos rfl, c2]
      exact ⟨hb, rfl⟩
    · rw [if_neg c2] at hd
      obtain ⟨h1, h2⟩ := h c hc d hd
      have n1 : d ≠ b := fun e => by rw [e, fb] at h2; cases h2
      have n2 : d ≠ a := fun e => by rw [e, fa] at h2; cases h2
      rw [if_neg n1, if_neg n2]
      exact ⟨h1, h2⟩
theorem good_dl {ns : List Str} {ws : Str → List Str} (g : ∀ a ∈ ns, GRow ns a (ws a)) : ∀ {zs : List (Str × Str)} {f : Str → Option Str}, Dl ns ws f → Good ns ws f zs → Dl ns ws (run2 f zs)
  | [], _, h, _ => h
  | p :: r, f, h, ⟨a, b, c, d, e⟩ => good_dl g (zs := r) (dl_set2 g h a b c d) e
theorem dl_f0 {ns : List Str} {ws : Str → List Str} : Dl ns ws f0 := fun a _ b h => by cases h
/-- pairs without a common person -/
def Apart (p q : Str × Str) : Prop := p.1 ≠ q.1 ∧ p.1 ≠ q.2 ∧ p.2 ≠ q.1 ∧ p.2 ≠ q.2
theorem apart_good {ns : List Str} {ws : Str → List Str} : ∀ {zs : List (Str × Str)} {f : Str → Option Str}, zs.Pairwise Apart → (∀ p ∈ zs, p.1 ∈ ns ∧ p.2 ∈ opn ws p.1 ∧ f p.1 = none ∧ f p.2 = none) → Good ns ws f zs
  | [], _, _, _ => True.intro
  | p :: r, f, hw, h => by
    obtain ⟨h1, h2⟩ := List.pairwise_cons.mp hw
    obtain ⟨a, b, c, d⟩ := h p List.mem_cons_self
    refine ⟨a, b, c, d, apart_good h2 fun q hq => ?_⟩
    obtain ⟨x1, x2, x3, x4⟩ := h q (List.mem_cons_of_mem _ hq)
    obtain ⟨y1, y2, y3, y4⟩ := h1 q hq
    refine ⟨x1, x2, ?_, ?_⟩
    · unfold set2 setO
      rw [if_neg (Ne.symm y3), if_neg (Ne.symm y1)]
      exact x3
    · unfold set2 setO
      rw [if_neg (Ne.symm y4), if_neg (Ne.symm y2)]
      exact x4
theorem wr_good {ns : List Str} {ws : Str → List Str} (nd : ns.Nodup) {f : Str → Option Str} {zs : List (Str × Str)} (D : Dl ns ws f) (W : Wr ns f zs) : Good ns ws f0 zs := by
  have mm : ∀ p ∈ zs, p.1 ∈ ns ∧ f p.1 = some p.2 ∧ p.1.cps.toList < p.2.cps.toList := fun p hp => mem_wr0.mp (W.p.mem_iff.mp hp)
  have pw : zs.Pairwise fun p q => p.1 ≠ q.1 := (List.Perm.pairwise_iff (fun {p q} h e => h e.symm) W.p).mpr (wr0_nd nd)
  refine apart_good ((List.pairwise_iff_forall_sublist.mpr fun {p q} hs => ?_)) fun p hp => ?_
  · have hp : p ∈ zs := hs.subset List.mem_cons_self
    have hq : q ∈ zs := hs.subset (List.mem_cons_of_mem _ List.mem_cons_self)
    have n1 : p.1 ≠ q.1 := List.pairwise_iff_forall_sublist.mp pw hs
    obtain ⟨p1, p2, p3⟩ := mm p hp
    obtain ⟨q1, q2, q3⟩ := mm q hq
    have bp := (D _ p1 _ p2).2
    have bq := (D _ q1 _ q2).2
    refine ⟨n1, fun e => ?_, fun e => ?_, fun e => ?_⟩
    · -- p.1 = q.2
      rw [← e, p2] at bq
      have e2 : p.2 = q.1 := Option.some.inj bq
      rw [e, e2] at p3
      exact absurd q3 (List.lt_asymm p3)
    · rw [e, q2] at bp
      have e2 : q.2 = p.1 := Option.some.inj bp
      rw [e2, ← e] at q3
      exact absurd p3 (List.lt_asymm q3)
    · rw [e, bq] at bp
      exact n1 (Option.some.inj bp).symm
  · obtain ⟨p1, p2, _⟩ := mm p hp
    exact ⟨p1, (D _ p1 _ p2).1, rfl, rfl⟩
end Qp
namespace Qp
open PySem L2
/-- the pair of texts that a value is -/
def prOf (H : Hp) : V → Option (Str × Str)
  | .ref t => match H t with
    | some (.tup [.str a, .str b]) => some (a, b)
    | _ => none
  | _ => none
theorem prOf_of {H : Hp} {t : Addr} {a b : Str} (h : H t = some (.tup [.str a, .str b])) : prOf H (.ref t) = some (a, b) := by
  show (match H t with
    | some (.tup [.str a, .str b]) => some (a, b)
    | _ => none) = _
  rw [h]
theorem prOf_at {H : Hp} {y : V} {p : Str × Str} (h : prOf H y = some p) : ∃ t, y = .ref t ∧ H t = some (.tup [.str p.1, .str p.2]) := by
  unfold prOf at h
  split at h
  · rename_i t
    split at h
    · rename_i a b e
      cases h
      exact ⟨t, rfl, e⟩
    · cases h
  · cases h
theorem prOf_same {H H' : Hp} (s : Same H H') {y : V} {p : Str × Str} (h : prOf H y = some p) : prOf H' y = some p := by
  obtain ⟨t, rfl, e⟩ := prOf_at h
  exact prOf_of (s _ _ e)
def PairsL (H : Hp) (ys : List V) (zs : List (Str × Str)) : Prop := ys.map (prOf H) = zs.map some
theorem PairsL.same {H H' : Hp} (s : Same H H') {ys : List V} {zs : List (Str × Str)} (h : PairsL H ys zs) : PairsL H' ys zs := by
  unfold PairsL at h ⊢
  rw [← h]
  refine List.map_congr_left fun y hy => ?_
  have hm : prOf H y ∈ ys.map (prOf H) := List.mem_map.mpr ⟨y, hy, rfl⟩
  rw [h] at hm
  obtain ⟨p, _, e⟩ := List.mem_map.mp hm
  rw [← e]
  exact prOf_same s e.symm
theorem PairsL.len {H : Hp} {ys : List V} {zs : List (Str × Str)} (h : PairsL H ys zs) : ys.length = zs.length := by
  have := congrArg List.length h
  rwa [List.length_map, List.length_map] at this
theorem PairsL.at {H : Hp} {ys : List V} {zs : List (Str × Str)} (h : PairsL H ys zs) {i : Nat} {y : V} (e : ys[i]? = some y) : ∃ p, zs[i]? = some p ∧ prOf H y = some p := by
  have q : (ys.map (prOf H))[i]? = (zs.map some)[i]? := by rw [h]
  rw [List.getElem?_map, List.getElem?_map, e] at q
  cases ez : zs[i]? with
  | none => rw [ez] at q; cases q
  | some p =>
    rw [ez] at q
    exact ⟨p, rfl, Option.some.inj q⟩
theorem PairsL.mem {H : Hp} {ys : List V} {zs : List (Str × Str)} (h : PairsL H ys zs) {y : V} (hy : y ∈ ys) : ∃ p ∈ zs, prOf H y = some p := by
  obtain ⟨i, e⟩ := List.mem_iff_getElem?.mp hy
  obtain ⟨p, h1, h2⟩ := h.at e
  exact ⟨p, List.mem_of_getElem? h1, h2⟩
theorem PairsL.uniq {H : Hp} {ys : List V} {zs us : List (Str × Str)} (h : PairsL H ys zs) (k : PairsL H ys us) : zs = us := by
  unfold PairsL at h k
  rw [h] at k
  exact List.map_inj_right (fun _ _ e => Option.some.inj e) |>.mp k
/-- pairs of texts that stand in a tuple -/
def PairsT (H : Hp) (t : Addr) (zs : List (Str × Str)) : Prop := ∃ ys, H t = some (.tup ys) ∧ PairsL H ys zs
theorem PairsT.same {H H' : Hp} (s : Same H H') {t : Addr} {zs : List (Str × Str)} (h : PairsT H t zs) : PairsT H' t zs := by
  obtain ⟨ys, e, q⟩ := h
  exact ⟨ys, s _ _ e, q.same s⟩
theorem pairsL_of {H : Hp} {ys : List V} {k : V → Str × Str} (q : ∀ y ∈ ys, ∃ t, y = .ref t ∧ H t = some (.tup [.str (k y).1, .str (k y).2])) : PairsL H ys (ys.map k) := by
  unfold PairsL
  rw [List.map_map]
  refine List.map_congr_left fun y hy => ?_
  obtain ⟨t, e1, e2⟩ := q y hy
  show prOf H y = some (k y)
  conv => lhs; rw [e1]
  exact prOf_of e2
theorem _root_.L2.PairsAt.tup {H : Hp} {l : Addr} {zs : List (Str × Str)} (h : PairsAt H l zs) : ∃ ys, H l = some (.lst ys) ∧ PairsL H ys zs := by
  obtain ⟨ys, k, e, q, rfl⟩ := h
  exact ⟨ys, e, pairsL_of q⟩
/-! ### pairs as data -/
def pdt (p : Str × Str) : PyData := PyData.tuple [.str p.1, .str p.2]
theorem eqv_pdt (p q : Str × Str) : PyData.eqv (pdt p) (pdt q) = decide (p = q) := by
  obtain ⟨a, b⟩ := p
  obtain ⟨c, d⟩ := q
  unfold pdt PyData.eqv
  simp only [PyData.eqvAll, PyData.eqv]
  by_cases h1 : a = c
  · subst h1
    by_cases h2 : b = d
    · subst h2; simp
    · simp [h2]
  · simp [h1]
theorem eqvAll_pdt : ∀ xs ys : List (Str × Str), PyData.eqvAll (xs.map pdt) (ys.map pdt) = decide (xs = ys)
  | [], [] => rfl
  | [], y :: ys => by simp [PyData.eqvAll]
  | x :: xs, [] => by simp [PyData.eqvAll]
  | x :: xs, y :: ys => by
    have ih := eqvAll_pdt xs ys
    rw [List.map_cons, List.map_cons]
    unfold PyData.eqvAll
    rw [ih, eqv_pdt]
    by_cases h1 : x = y
    · subst h1
      by_cases h2 : xs = ys
      · subst h2; simp
      · simp [h2]
    · simp [h1]
theorem shaped_pdt {zs : List (Str × Str)} (h : ∀ p ∈ zs, nameS p.1 = true ∧ nameS p.2 = true) : SeqAt.shaped (.tuple (zs.map pdt)) = true := by
  have q : SeqAt.shaped (.list (zs.map pdt)) = true := shaped_list fun d hd => by
    obtain ⟨p, hp, rfl⟩ := List.mem_map.mp hd
    exact pair_data (h p hp).1 (h p hp).2
  unfold SeqAt.shaped at q ⊢
  rw [Bool.and_eq_true] at q ⊢
  refine ⟨?_, ?_⟩
  · have := q.1
    unfold PyData.canLay0 at this ⊢
    exact this
  · have := of_decide_eq_true q.2
    simp only [PyData.depth] at this
    refine decide_eq_true ?_
    simp only [PyData.depth]
    exact this
theorem dp_pairsL {K : PySem.W.Frag} {H : Hp} : ∀ {ys : List V} {zs : List (Str × Str)}, PairsL H ys zs → DpAll K H ys (zs.map pdt)
  | [], [], _ => .nil
  | [], _ :: _, h => by cases h
  | _ :: _, [], h => by cases h
  | y :: ys, p :: zs, h => by
    unfold PairsL at h
    rw [List.map_cons, List.map_cons] at h
    obtain ⟨h1, h2⟩ := List.cons.inj h
    obtain ⟨t, rfl, e⟩ := prOf_at h1
    exact .cons (.tup (SqT.of e) (.cons (.str _) (.cons (.str _) .nil))) (dp_pairsL h2)
/-- t != u, both tuples of pairs -/
theorem neT_read {K : PySem.W.Frag} {H : Hp} {t u : Addr} {zs us : List (Str × Str)} {Q : VK} (h1 : PairsT H t zs) (h2 : PairsT H u us) (n1 : ∀ p ∈ zs, nameS p.1 = true ∧ nameS p.2 = true) (n2 : ∀ p ∈ us, nameS p.1 = true ∧ nameS p.2 = true)
    (q : Q (.bl (!decide (zs = us))) H) : rNeD K (.ref t) (.ref u) H Q := by
  obtain ⟨ys, e1, l1⟩ := h1
  obtain ⟨vs, e2, l2⟩ := h2
  refine ⟨.tuple (zs.map pdt), .tuple (us.map pdt), .tup (SqT.of e1) (dp_pairsL l1), .tup (SqT.of e2) (dp_pairsL l2), shaped_pdt n1, shaped_pdt n2, ?_⟩
  have e : PyData.eqv (.tuple (zs.map pdt)) (.tuple (us.map pdt)) = decide (zs = us) := by
    unfold PyData.eqv
    exact eqvAll_pdt _ _
  rw [e]
  exact q
section
variable {P : Program} {w : World} {K : PySem.W.Frag} {mg : Str → Option Value} {base : Heap}
theorem wr0_snoc {f : Str → Option Str} {qs : List Str} {a : Str} : wr0 f (qs ++ [a]) = wr0 f qs ++ pz (gO f) a := by
  unfold wr0
  rw [List.flatMap_append]
  simp
theorem wr0_len {f : Str → Option Str} : ∀ {qs : List Str}, (wr0 f qs).length ≤ qs.length
  | [] => Nat.le_refl _
  | a :: r => by
    have ih := wr0_len (f := f) (qs := r)
    show (pz (gO f) a ++ wr0 f r).length ≤ r.length + 1
    rw [List.length_append]
    have : (pz (gO f) a).length ≤ 1 := by
      unfold pz
      rw [List.length_map]
      refine Nat.le_trans (List.length_filter_le _ _) ?_
      unfold gO
      cases f a <;> simp
    omega
theorem pz_none {f : Str → Option Str} {a : Str} (h : f a = none) : pz (gO f) a = [] := by
  unfold pz gO
  rw [h]
  rfl
theorem pz_lt {f : Str → Option Str} {a b : Str} (h : f a = some b) (c : a.cps.toList < b.cps.toList) : pz (gO f) a = [(a, b)] := by
  unfold pz gO
  rw [h]
  show (List.filter _ [b]).map _ = _
  exact congrArg (List.map fun b => (a, b)) (List.filter_eq_self.mpr fun x hx => by
    have e : x = b := by simpa using hx
    subst e
    exact decide_eq_true c)
theorem pz_nlt {f : Str → Option Str} {a b : Str} (h : f a = some b) (c : ¬ a.cps.toList < b.cps.toList) : pz (gO f) a = [] := by
  unfold pz gO
  rw [h]
  show (List.filter _ [b]).map _ = _
  rw [List.filter_cons_of_neg (by rw [decide_eq_false c]; decide)]
  rfl
/-- _written(x) -/
def spWr : Sp := fun vs H Q _ => ∃ (d : Addr) (qs : List Str) (f : Str → Option Str), vs = [.ref d] ∧ H d = some (.dK (okv qs f)) ∧ qs.Nodup ∧ qs.length ≤ 60 ∧ ∀ T H' zs, Same H H' → Wr qs f zs → PairsT H' T zs → H T = none → Q (.ref T) H'
end
end Qp
/-! an own error over ValueError: __init__ says super().__init__('..') first, what follows is walked as a def's body -/
namespace L2
open PySem PySem.Spec PyProof.Rows PySem.W PySem.Calls PySem.HandSPX
/-- what the written part says of the class at C and its __init__ at fI -/
structure SupFn (P : Program) (K : PySem.W.Frag) (mg : Str → Option Value) (C fI : Addr) (st : Stmt) (fd : FuncData) : Prop where
  gS : mg "super" = none
  cls : ∃ nm q N bs bm sn sub ab col dd k0 k1 k2 k3 k5, K.lookup C = some (excClassObj nm q C N bs bm true sn sub ab col dd k0 k1 k2 k3 k5 "ValueError.__new__") ∧ refsVE bm = true ∧ alongIn K "__init__" bm = some (some (.builtin "ValueError.__init__"))
  veC : subIn K (.ref C) (.type "ValueError") = some true
  slC : mroIn K C (.ref C) = some true
  op : nsIn K cStatics "thirdparty.any" = some none
  top : (P.main.scope.names.lookup ("super" : Str)).isSome = false
  fn : ∃ (qual : Str) (oc : Value) (od : Option Addr) (kV doc pm : Value) (an : Option Addr) (cda cc : Addr) (ct : Value) (osl : Array (Option Value)), fd = ksFn "__init__" qual (defArgs st) (defBody st) (defScope st) .none kV doc pm an (.ref cda) ct cc ∧
    K.lookup fI = some ⟨oc, od, .func fd, osl⟩ ∧ codeIn K (.ref cda) qual = true ∧
    (∃ ccl cdd vs ccs file tf, K.lookup cda = some ⟨ccl, cdd, .fields vs, ccs⟩ ∧ vs[2]? = some (.str file tf) ∧ ((P.main.file : Str) == file) = true) ∧
    ∃ cl cld csl, K.lookup cc = some ⟨cl, cld, .cell (some (.ref C)), csl⟩
structure FnScopeS (N ps : List Str) (st : Stmt) : Prop where
  kind : (defScope st).kind = .function
  co : (defScope st).isCoroutine = false
  gen : (defScope st).isGenerator = false
  nd : N.Nodup
  pre : N.take ps.length = ps
  par : ∀ x ∈ ps, (defScope st).names.lookup x = some .local
  nocell : ∀ y ∈ (defScope st).names, y.2 ≠ .cell
  free : ∀ y ∈ (defScope st).names, y.2 = .free → y.1 = ("__class__" : Str)
  cls : (defScope st).names.lookup ("__class__" : Str) = some .free
  sup : (defScope st).names.lookup ("super" : Str) = some .globalImplicit
  self : ∃ (r : List Str), ps = ("self" : Str) :: r
  head : ∃ ar, ((defArgs st).posonlyargs ++ (defArgs st).args).head? = some ar ∧ ar.arg = ("self" : Str)
  body : ∃ (t : Str) (kk : Nat) (q1 q2 q3 q4 q5 q6 : Pos) (rest : List Stmt), defBody st = .Expr (.Call (.Attribute (.Call (.Name "super" q1) [] [] q2) "__init__" q3) [.Constant (.str t) kk q4] [] q5) q6 :: rest ∧ (q3.endLine == q5.line) = true
/-- the context behind the first row -/
def cxS (CX : CXT) (P : Program) (w : World) (K : PySem.W.Frag) (mg : Str → Option Value) (base : Heap) (N : List Str) (qual : Str) (scope : Scope) (f : Addr) (cd : Value) (cc : Addr) (A : Around) (outer : List Env) (s : Shared) (H : Hp) (E : XK) : Cx where
  prog := P
  w := w
  K := K
  mg := mg
  base := base
  A := A.deeper (ksEnv qual scope s.heap.objs.size f cd cc)
  N := N
  s_0 := s
  H_0 := H
  env := ksEnv qual scope s.heap.objs.size f cd cc
  outer := outer
  stack := ksEnv qual scope s.heap.objs.size f cd cc :: outer
  ex := []
  calm := true
  fn := fun x => decide (x ≠ ("__class__" : Str))
  pn := []
  xe := fun e s' => wpAny (model P w) (A.deeper (ksEnv qual scope s.heap.objs.size f cd cc)) (leaving (ksEnv qual scope s.heap.objs.size f cd cc) e) (fun _ s'' => CX outer H s E e s'') (fun e' s'' => CX outer H s E e' s'') s'
theorem zip_lookup {ps : List Str} : ∀ {us : List Value} {i : Nat} {x : Str} {u : Value}, ps.Nodup → ps[i]? = some x → us[i]? = some u → (ps.zip us).reverse.lookup x = some u := by
  intro us i x u nd h1 h2
  have hm : (x, u) ∈ (ps.zip us).reverse := by
    rw [List.mem_reverse]
    refine List.mem_of_getElem? (i := i) ?_
    rw [List.getElem?_zip_eq_some]
    exact ⟨h1, h2⟩
  have key : ∀ (l : List (Str × Value)), (x, u) ∈ l → (∀ v, (x, v) ∈ l → v = u) → l.lookup x = some u := fun l => by
    induction l with
    | nil => intro h; cases h
    | cons p r ih =>
      intro h hu
      obtain ⟨a, b⟩ := p
      by_cases e : x = a
      · subst e
        have : b = u := hu b List.mem_cons_self
        subst this
        simp [List.lookup]
      · have e2 : (x == a) = false := by simpa using e
        simp only [List.lookup, e2]
        refine ih ?_ fun v hv => hu v (List.mem_cons_of_mem _ hv)
        rcases List.mem_cons.mp h with q | q
        · exact absurd (congrArg Prod.fst q) e
        · exact q
  refine key _ hm fun v hv => ?_
  rw [List.mem_reverse] at hv
  obtain ⟨j, hj⟩ := List.getElem?_of_mem hv
  rw [List.getElem?_zip_eq_some] at hj
  have : j = i := by
    have hlt := (List.getElem?_eq_some_iff.mp hj.1).1
    exact (List.getElem?_inj hlt nd).mp (hj.1.trans h1.symm)
  subst this
  exact Option.some.inj (hj.2.symm.trans h2)
section
variable {P : Program} {w : World} {K : PySem.W.Frag} {mg : Str → Option Value} {base : Heap}
theorem fn_sup {CX : CXT} {C fI : Addr} {st : Stmt} {fd : FuncData} {N ps : List Str} {k : Nat} {sp : Sp} (T : SupFn P K mg C fI st fd) (S : FnScopeS N ps st) (len : ∀ vs H Q E, sp vs H Q E → vs.length = ps.length)
    (hbody : ∀ (qual : Str) (cdv : Value) (cc : Addr) (A : Around) (outer : List Env) (s : Shared) (H : Hp) (vs : List V) (Q : VK) (E : XK), Room k (A.deeper (ksEnv qual (defScope st) s.heap.objs.size fI cdv cc)) → sp vs H Q E →
      ∃ (a : Addr) (ws : List V), vs = .ref a :: ws ∧ H a = some (exo a C none) ∧ ∃ t, PSs (cxS CX P w K mg base N qual (defScope st) fI cdv cc A outer s H E) ((defBody st).drop 1) t ∧ t { nx := fun _ H' => Q .non H', rt := Q } (start N vs) H) :
    FnOk P w K mg base CX (k + 1) fI fd ps sp := by
  refine ⟨len, fun A outer s H args us vs Q E hr e0 hb r hsp => ?_⟩
  have hlen := len _ _ _ _ hsp
  obtain ⟨qual, oc, od, kV, doc, pm, an, cda, cc, ct, osl, rfl, ho, hcd, ⟨ccl, cdd, fvs, ccs, file, tf, hcda, hvs, hfile⟩, ⟨cl, cld, csl, hcell⟩⟩ := T.fn
  obtain ⟨nm, q, NN, bs, bm, sn, sub, ab, col, dd, k0, k1, k2, k3, k5, hC, hbm, hal⟩ := T.cls
  obtain ⟨t, kk, q1, q2, q3, q4, q5, q6, rest, hB, hl⟩ := S.body
  obtain ⟨ps', hps⟩ := S.self
  obtain ⟨ar, har, hself⟩ := S.head
  have hbs : ∀ b o, base.get? b = some o → s.heap.get? b = some o := fun b o e => (e0.bs b o e).1
  have X : K.In s.heap := e0.mod.kin.keeps hbs
  have hlim : s.heap.NoLimit := e0.mod.nolimit.keeps hbs
  obtain ⟨x, ws, rfl, hHx, tt, htt, hq⟩ := hbody qual (.ref cda) cc A outer s H vs Q E (hr.deeper _) hsp
  rw [hB] at htt
  obtain ⟨t0, hx⟩ := exo_at e0.hok hHx
  have hx : s.heap.get? x = some (excO C t0) := hx
  have hnx : K.lookup x = none := by
    cases e : K.lookup x with
    | none => rfl
    | some o =>
      have := (e0.bs x o (e0.mod.kin x o e)).2
      rw [hHx] at this
      cases this
  obtain ⟨mb, hmbB, hmb2⟩ := e0.mod.blt
  have hmb := hmbB.keeps hbs
  have hgl := e0.mod.glob.keeps hbs
  have hcl : clsIn K C = some { name := nm, bases := bs, mro := .ref C :: bm, ns := NN, qualname := q, hasDict := true, slotNames := sn, subclasses := sub, abstract := ab, collection := col, hasDel := false } := by unfold clsIn; rw [hC] <;> rfl
  have hus : us[0]? = some (.ref x) := by
    cases r with
    | cons ra rr =>
      obtain rfl := ra
      rfl
  have ndP : ps.Nodup := by rw [← S.pre]; exact S.nd.sublist (List.take_sublist _ _)
  have hlx : (ps.zip us).reverse.lookup ("self" : Str) = some (.ref x) := zip_lookup (i := 0) ndP (by rw [hps]; rfl) hus
  have hkS : (defScope st).names.lookup ("self" : Str) = some .local := S.par _ (by rw [hps]; exact List.mem_cons_self)
  have run := htt.run
  refine ks_codeAny_call_defAt (fd := ksFn "__init__" qual (defArgs st) (defBody st) (defScope st) .none kV doc pm an (.ref cda) ct cc) (body := .Expr (.Call (.Attribute (.Call (.Name "super" q1) [] [] q2) "__init__" q3) [.Constant (.str t) kk q4] [] q5) q6 :: rest) (binds := ps.zip us) hr.depth (X _ _ ho) rfl hlim (PySem.W.codeRec_of X hcd) (congrArg _ hB) hb S.nocell (fun y hy => S.par _ (List.of_mem_zip hy).1) (fun h₁ hns k => ?_) S.co S.gen S.kind
  have hxL : s.heap.objs.size ≠ x := Nat.ne_of_gt (Heap.lt_size hx)
  have X₁ : K.In h₁ := X.keeps k
  have hx₁ := k _ _ hx
  have hC₁ := X₁ _ _ hC
  have lt₁ : s.heap.objs.size < h₁.objs.size := hns.lt
  have hgl₁ : h₁.Ns mainGlobals mg := hgl.keeps k
  have hmb₁ : h₁.Ns builtinsNs mb := hmb.keeps k
  have hsn : mb "super" = some (.type "super") := (hmb2 "super" (by decide)).trans (by first | boot_by_name | rfl | kernel_rfl)
  refine ks_wpAt_execs_cons (ks_wpAt_Expr_any (ks_wpAt_MethodCall (pl := (do return (← importBound (.Call (.Name "super" q1) [] [] q2) (callEnv (ksFn "__init__" qual (defArgs st) (defBody st) (defScope st) .none kV doc pm an (.ref cda) ct cc) s.heap.objs.size fI)).getD true)) ?_ (by
    rw [arm_eval_Call]
    unfold methodCall methodCallPos
    simp only [hl, Bool.or_true, if_true]
    rfl)) (by show ((defScope st).kind == .module && _) = false; rw [S.kind]; rfl) (by rfl))
  refine ks_wpAt_super_base S.sup S.cls (by decide) rfl (X₁ _ _ ho) rfl har rfl (X₁ _ _ hcda) rfl hvs hfile T.top ?_
  refine ks_loadName_global S.kind S.sup (Calls.loadGlobal_builtin hgl₁ T.gS hmb₁ hsn ⟨rfl, ?_⟩)
  refine wpAny_loadName_free S.kind S.cls (by rfl) ⟨_, X₁ _ _ hcell, rfl⟩ ?_
  rw [hself]
  refine wpAny_loadName_local S.kind hkS hns hlx ?_
  refine ks_wpAny_isType_cls hC₁ rfl ⟨rfl, ?_⟩
  refine ks_wpAny_call_super hC₁ rfl hx₁ rfl (fun c e => by cases e) (looks_mroIn X₁ T.slC) (fun h₂ eso k₂ => ?_)
  have X₂ : K.In h₂ := X₁.keeps k₂
  have I₂ : PySem.W.InstAt h₂ x (excO C t0) C none := ⟨k₂ _ _ hx₁, rfl, rfl, trivial⟩
  have hxC : x ≠ C := fun z => by rw [z, hC] at hnx; cases hnx
  refine kxs_getMethod kxs_ValueError eso (looks_opaque X₂ T.op) (l₀ := .ref C :: bm) (l := bm) (fun A' Q' E' s' k' q' => wpAny_bind ((looks_clsIn X₂ hcl) A' _ E' s' k' (wpAny_pure q'))) (by simp [List.dropWhile_cons]) X₂ hal (I₂.type.andThen (looks_subIn X₂ T.veC)) hxC (by decide) ?_
  refine kxs_callWith (i := "ValueError.__init__") (x := x) (by rfl) ?_
  refine evalArgs_plain (Calls.spliced_cons (Calls.Constant_str (k := kk) (pos := q4) (Calls.spliced_nil ?_)))
  refine ⟨Heap.get?_push_at rfl rfl, ?_⟩
  have hC₃ : (h₂.push (kxs_mw "ValueError.__init__" x)).get? C = some (excClassObj nm q C NN bs bm true sn sub ab col dd k0 k1 k2 k3 k5 "ValueError.__new__") := Heap.get?_push_of_some _ (k₂ _ _ hC₁)
  have hx₃ : (h₂.push (kxs_mw "ValueError.__init__" x)).get? x = some (excO C t0) := Heap.get?_push_of_some _ (k₂ _ _ hx₁)
  refine PySem.QX.q_call_bw hC₃ hx₃ (Heap.get?_push_at rfl rfl) (PySem.QX.one_size _) (fun h₄ t1 k₄ hx₄ => ?_)
  have kall : ∀ b o, b ≠ x → s.heap.get? b = some o → h₄.get? b = some o := fun b o hb e => k₄ b o hb (Heap.get?_push_of_some _ (k₂ _ _ (k _ _ e)))
  have k14 : ∀ b o, b ≠ x → h₁.get? b = some o → h₄.get? b = some o := fun b o hb e => k₄ b o hb (Heap.get?_push_of_some _ (k₂ _ _ e))
  have hns₄ : h₄.Ns s.heap.objs.size fun y => (ps.zip us).reverse.lookup y := by
    obtain ⟨o, es, ep, e1, r⟩ := hns
    exact ⟨o, es, ep, k14 _ _ hxL e1, r⟩
  have hbx : ∀ {b : Addr}, H b = none → b ≠ x := fun {b} n z => by
    rw [z, hHx] at n
    cases n
  have hccB : base.get? cc = some ⟨cl, cld, .cell (some (.ref C)), csl⟩ := e0.mod.kin _ _ hcell
  have hkeep : ∀ b o, base.get? b = some o → h₄.get? b = some o := fun b o e => kall b o (hbx (e0.bs b o e).2) (hbs b o e)
  refine wpAt_of_wpAny ?_
  have noA : ∀ b : Addr, b ∉ (cxS CX P w K mg base N qual (defScope st) fI (.ref cda) cc A outer s H E).ex := fun b z => absurd (show b ∈ ([] : List Addr) from z) (by simp)
  have hpl : ps.length ≤ N.length := by have := congrArg List.length S.pre; rw [List.length_take] at this; omega
  have cells : ∀ y c, (ksEnv qual (defScope st) s.heap.objs.size fI (.ref cda) cc).cells.lookup y = some c → y = ("__class__" : Str) ∧ c = cc := fun y c h => by
    have h : List.lookup y [(("__class__" : Str), cc)] = some c := h
    by_cases e : y = ("__class__" : Str)
    · subst e
      have : List.lookup ("__class__" : Str) [(("__class__" : Str), cc)] = some cc := by simp [List.lookup]
      rw [this] at h
      exact ⟨rfl, (Option.some.inj h).symm⟩
    · have e2 : (y == ("__class__" : Str)) = false := by simpa using e
      simp only [List.lookup, e2] at h
      cases h
  have I : ∀ tk, Inv (cxS CX P w K mg base N qual (defScope st) fI (.ref cda) cc A outer s H E) [] (start N (.ref x :: ws)) H ⟨h₄, s.gens, s.drawn, tk, s.os⟩ := by
    intro tk
    refine ⟨⟨e0.mod, S.kind, rfl, rfl, Nat.le_refl _, fun y z c h1 h2 => ?_, fun y hy => ?_, fun y c h1 h => ?_, fun _ => hr.hd, Around.frames_deeper e0.frames, .inr ⟨rfl, rfl⟩, fun b z => absurd z (noA b), e0.bs, e0.bsz, fun b _ _ => noA b, fun b z => absurd z (noA b), e0.funs, e0.frf⟩,
      rfl, e0.bare, ?_, ⟨_, hns₄, fun i y v h1 h2 h3 => ?_⟩, fun y c h => ?_, e0.hok.fresh (Nat.le_refl _), fun y c h => ?_, fun p hp => absurd (show p ∈ ([] : List (Addr × Obj)) from hp) (by simp), fun b o e => ?_, ?_⟩
    · rw [(cells y c h1).1, (cells z c h2).1]
    · have hy : (defScope st).names.lookup y = some .cell ∨ (defScope st).names.lookup y = some .free := hy
      rcases hy with hy | hy
      · exact absurd rfl (S.nocell _ (PySem.mem_of_lookup hy))
      · have e := S.free _ (PySem.mem_of_lookup hy) rfl
        have e : y = ("__class__" : Str) := e
        subst e
        exact ⟨cc, by show List.lookup ("__class__" : Str) [(("__class__" : Str), cc)] = some cc; simp [List.lookup]⟩
    · have h1 : decide (y ≠ ("__class__" : Str)) = true := h1
      exact absurd (cells y c h).1 (of_decide_eq_true h1)
    · exact ⟨fun b o e n _ _ => kall b o (hbx n) e, fun b o e n _ _ => ⟨o.slots, kall b o (hbx n) e⟩, fun _ _ _ n _ => n, fun b o e _ => by
        by_cases hb : b = x
        · exact ⟨_, by rw [hb]; exact hx₄⟩
        · exact ⟨o, kall b o hb e⟩, fun _ _ q => q, fun _ _ _ q => q, fun b ps' q => ⟨#[], by have q : H b = some (.tbl ps') := q; rw [q]; simp⟩⟩
    · have hi : i < (V.ref x :: ws).length := by
        unfold start at h2
        by_cases hi : i < (V.ref x :: ws).length
        · exact hi
        · rw [List.getElem?_append_right (by simpa using hi)] at h2
          rw [List.getElem?_replicate] at h2
          split at h2 <;> cases h2
      have ha : (V.ref x :: ws)[i]? = some v := by
        unfold start at h2
        rw [List.getElem?_append_left (by simpa using hi), List.getElem?_map] at h2
        cases e : (V.ref x :: ws)[i]? with
        | none => rw [e] at h2; cases h2
        | some a => rw [e] at h2; cases h2; rfl
      obtain ⟨u, hu, rv⟩ := r.get ha
      have hp : ps[i]? = some y := by
        rw [← S.pre, List.getElem?_take_of_lt (by omega)]; exact h1
      exact ⟨u, rv, .inl ⟨S.par y (List.mem_of_getElem? hp), zip_lookup ndP hp hu⟩⟩
    · obtain ⟨_, rfl⟩ := cells y c h
      exact ⟨_, _, hkeep _ _ hccB, rfl⟩
    · obtain ⟨_, rfl⟩ := cells y c h
      exact (e0.bs _ _ hccB).2
    · by_cases hb : b = x
      · subst hb
        rw [hHx] at e
        cases e
        exact exo_ok hx₄
      · exact (e0.hok b o e).stay (fun c v hc y => kall c v (by
            rcases hc with hc | hc
            · rw [hc]; exact hb
            · exact at_ne hHx hc exo_own) y) (fun _ q => q) fun _ _ q => q
    · unfold start
      show _ = N.length
      rw [List.length_append, List.length_map, List.length_replicate]
      omega
  refine wpAny_mono (run [] _ (start N (.ref x :: ws)) H _ (I _) hq) (fun fl s' hs => ?_) fun e s' hs => hs
  have fin : ∀ {σ' : St} {H' : Hp} {v : V} {u : Value}, Inv (cxS CX P w K mg base N qual (defScope st) fI (.ref cda) cc A outer s H E) [] σ' H' s' → RelV v u → Q v H' → CE outer P w H s Q u s' :=
    fun {σ' H' v u} J rv q => ⟨v, H', J.os, J.bare, J.base, J.hok, rv, q⟩
  cases fl with
  | ret u =>
    obtain ⟨v, σ', H', J, rv, q⟩ := hs
    exact fin J rv q
  | next =>
    obtain ⟨σ', H', J, q⟩ := hs
    exact fin (v := V.non) (u := Value.none) J rfl q
  | brk =>
    obtain ⟨_, _, _, q⟩ := hs
    exact False.elim q
  | cont =>
    obtain ⟨_, _, _, q⟩ := hs
    exact False.elim q
end
end L2
namespace L2
open PySem PySem.Spec PyProof.Rows PySem.W PySem.Calls PySem.HandSPX
/-- an own error class whose __init__ keeps a promise -/
structure ErrI (P : Program) (w : World) (K : PySem.W.Frag) (mg : Str → Option Value) (base : Heap) (k : Nat) (cn : Str) (C : Addr) (ps : List Str) (sp : Sp) : Prop where
  oex : OexC K C
  gC : mg cn = some (.ref C)
  te : exmOne K (.ref C) (.ref C) = some true
  ex : ∃ fI fd, FnOk P w K mg base CX0 k fI fd ps sp ∧ findIn K (.ref C) "__init__" = some (some (.ref fI)) ∧ typeIn K (.ref fI) = some (.type "function") ∧ Binds K fd ps []
/-- def __init__(self): super().__init__('..') -/
def spI0 (C : Addr) : Sp := fun vs H Q _ => ∃ a, vs = [.ref a] ∧ H a = some (exo a C none) ∧ Q .non H
section
variable {X : Cx} {C : Addr} {cn : Str} {k : Nat}
theorem mk_endN {pins : List (Addr × Obj)} {σ : St} {H1 H2 : Hp} {Q : XK} {hp hp2 h2 : Heap} {g1 g2 : Array GenState} {d1 d2 : Drawn} {t1 t2 : Nat} {os1 os2 : OsState} {a : Addr} (T : Raises X (.ref C)) (I1 : Inv X pins σ H1 ⟨hp, g1, d1, t1, os1⟩)
    (ha : hp.objs.size ≤ a) (k : ∀ b o, hp.get? b = some o → hp2.get? b = some o) (un : Un (frs X.stack) [] (upd H1 a (exo a C none)) H2 hp2 h2) (hok : HOk X.prog X.w H2 h2) (ho : os2 = os1) (hb : AllBare g2)
    (ea : H2 a = some (exo a C none)) (q : Q (.ref C) none (del H2 a)) : MkP X pins σ Q (.ref a) ⟨h2, g2, d2, t2, os2⟩ := by
  obtain ⟨t0, hoe⟩ := exo_at hok ea
  have hn : H1 a = none := I1.hok.fresh ha
  obtain ⟨G, g1', g2'⟩ := restrict h2 fun b => decide (b ≠ a)
  have gk : ∀ b, b ≠ a → G.get? b = h2.get? b := fun b hb => g1' b (decide_eq_true hb)
  have ge : G.get? a = none := g2' a (by simp)
  have nha : ∀ {b : Addr} {o : Obj}, hp.get? b = some o → b ≠ a := fun {b o} z => Nat.ne_of_lt (Nat.lt_of_lt_of_le (Heap.lt_size z) ha)
  have up : ∀ {b : Addr}, b ≠ a → H1 b = none → upd H1 a (exo a C none) b = none := fun {b} hb n => by rw [upd_ne hb]; exact n
  have U : Un (frs X.stack) [] H1 (del H2 a) hp G := {
    keep := fun b o z n hf hx => by
      rw [gk b (nha z)]
      exact un.keep b o (k b o z) (up (nha z) n) hf hx
    slot := fun b o z n hf hx => by
      rw [gk b (nha z)]
      exact un.slot b o (k b o z) (up (nha z) n) hf hx
    free := fun b o z n hx => by
      rw [del_ne (nha z)]
      exact un.free b o (k b o z) (up (nha z) n) hx
    there := fun b o z hx => by
      rw [gk b (nha z)]
      exact un.there b o (k b o z) hx
    tups := fun b xs z => by
      rw [del_ne (ne_of_none z hn)]
      exact un.tups b xs (by rw [upd_ne (ne_of_none z hn)]; exact z)
    frzs := fun b o v z => by
      rw [del_ne (ne_of_none z hn)]
      exact un.frzs b o v (by rw [upd_ne (ne_of_none z hn)]; exact z)
    tbls := fun b ps z => by
      rw [del_ne (ne_of_none z hn)]
      exact un.tbls b ps (by rw [upd_ne (ne_of_none z hn)]; exact z) }
  have hok3 : HOk X.prog X.w (del H2 a) G := fun b o z => by
    have hba : b ≠ a := fun e => by
      rw [e, del_same] at z
      cases z
    rw [del_ne hba] at z
    have noa : ∀ {c : Addr}, H2 c = some (.own b) → c ≠ a := fun {c} hc => at_ne ea hc exo_own
    exact (hok b o z).stay (fun c v hc y => by
        have hca : c ≠ a := by
          rcases hc with hc | hc
          · rw [hc]
            exact hba
          · exact noa hc
        rw [gk c hca]
        exact y)
      (fun c hc => by rw [del_ne (noa hc)]; exact hc) (fun c xs hc => by rw [del_ne (at_ne ea hc exo_tup)]; exact hc)
  have J : Inv X pins σ (del H2 a) ⟨G, g2, d2, t2, os2⟩ := I1.call' (ch := []) ho U hok3 hb (fun b z => absurd z (by simp))
  exact ⟨a, _, _, ⟨G, g2, d2, t2, os2⟩, _, .ref C, none, rfl, J, fun b o z => by
    by_cases hba : b = a
    · rw [hba, ge] at z
      cases z
    · exact (gk b hba).symm.trans z, ge, hoe, ⟨rfl, rfl⟩, rfl, rfl, del_same, rfl, hb, T, q⟩
theorem del_upd {H : Hp} {a : Addr} {o : HO} (h : H a = none) : del (upd H a o) a = H := by
  funext b
  by_cases hb : b = a
  · rw [hb, del_same, h]
  · rw [del_ne hb, upd_ne hb]
/-- C() -/
theorem pmk_sup0 {p pos : Pos} (T : ErrI X.prog X.w X.K X.mg X.base k cn C ["self"] (spI0 C)) (hr : Room (k + 1) X.A) (hg : Gl X cn) (hdb : (cn == ("__debug__" : Str)) = false := by decide) :
    PMk X (.Call (.Name cn p) [] [] pos) (fun _ H Q => Q (.ref C) none H) := by
  intro pins s σ H Q I h
  obtain ⟨fI, fd, F1, iC, tI, hb⟩ := T.ex
  obtain ⟨nm, q, N, bs, bm, sn, sub, ab, col, dd, k0, k1, k2, k3, k5, hC, hbm⟩ := T.oex.cls
  refine wpAny_Call_Name_kw (ld_glob I hg T.gC ?_ hdb)
  refine PySem.W.callWith_K0 I.kIn T.oex.kC ?_
  show wpAny _ _ (call (.ref C) []) _ _ _
  obtain ⟨hp, g, dr, tk, os⟩ := s
  have hsz : hp.objs.size ≤ hp.objs.size + 1 := Nat.le_succ _
  have hn : H (hp.objs.size + 1) = none := I.hok.fresh hsz
  have kk : ∀ b o, hp.get? b = some o → ((hp.push (PySem.W.kdv_tup [])).push (PySem.HandSPX.excO C hp.objs.size)).get? b = some o := fun b o e => Heap.get?_push_of_some _ (Heap.get?_push_of_some _ e)
  have hget : ((hp.push (PySem.W.kdv_tup [])).push (PySem.HandSPX.excO C hp.objs.size)).get? (hp.objs.size + 1) = some (PySem.HandSPX.excO C hp.objs.size) := by heap_get
  have I2 : Inv X pins σ (upd H (hp.objs.size + 1) (exo (hp.objs.size + 1) C none)) ⟨(hp.push (PySem.W.kdv_tup [])).push (PySem.HandSPX.excO C hp.objs.size), g, dr, tk, os⟩ :=
    I.laid (t' := tk) (a := hp.objs.size + 1) (o := exo (hp.objs.size + 1) C none) (h' := (hp.push (PySem.W.kdv_tup [])).push (PySem.HandSPX.excO C hp.objs.size)) kk hsz (exo_ok hget)
  have r2 : Vals [V.ref (hp.objs.size + 1)] [Value.ref (hp.objs.size + 1)] := .cons rfl .nil
  refine wpAny_call (PySem.HandSPX.call_own F.excBase_ValueError (fun Y => PySem.HandSPX.refsVE_contains Y bm hbm) (I.kIn _ _ hC) (PySem.W.looks_findIn I.kIn iC) (fun self => PySem.W.bind_fn I.kIn self tI) (Nat.zero_le _)
    (codeAny_mono (F1.run _ X.stack _ _ ⟨[Value.ref (hp.objs.size + 1)], []⟩ [Value.ref (hp.objs.size + 1)] [V.ref (hp.objs.size + 1)] (fun v H2 => v = .non ∧ H2 = upd H (hp.objs.size + 1) (exo (hp.objs.size + 1) C none)) (fun _ _ _ => False) (hr.make C [] []) (I2.env0.make C [] []) (hb _ [Value.ref (hp.objs.size + 1)] I2.kIn rfl) r2
      ⟨hp.objs.size + 1, rfl, upd_same, rfl, rfl⟩) fun r s' hq' => ?_))
  cases r with
  | error er => exact hq'.elim
  | ok fl =>
    cases fl with
    | ret u =>
      obtain ⟨v, H2, os2, bare2, un2, hok2, rv, rfl, rfl⟩ := hq'
      obtain ⟨h2, g2, d2, t2, os'⟩ := s'
      exact ⟨rv, mk_endN (raises_own T.oex.exC T.oex.tyC) I hsz kk un2 hok2 os2 bare2 upd_same (by rw [del_upd hn]; exact h)⟩
    | next => exact False.elim hq'
    | brk => exact False.elim hq'
    | cont => exact False.elim hq'
/-- raise C() -/
theorem ps_raise0 {W : WX} {p pos pos2 : Pos} (hc : X.calm = true) (T : ErrI X.prog X.w X.K X.mg X.base k cn C ["self"] (spI0 C)) (hr : Room (k + 1) X.A) (tk : Takes X W) (hg : Gl X cn := by rfl) (hdb : (cn == ("__debug__" : Str)) = false := by decide) :
    PS X (.Raise (some (.Call (.Name cn p) [] [] pos)) none pos2) (fun _ σ H => W (.ref C) none σ H) := ps_raise hc tk (pmk_sup0 T hr hg hdb)
end
section
variable {P : Program} {w : World} {K : PySem.W.Frag} {mg : Str → Option Value} {base : Heap}
theorem ok_i0 {C fI : Addr} {st : Stmt} {fd : FuncData} (T : SupFn P K mg C fI st fd) (S : FnScopeS ["self"] ["self"] st) (hb : (defBody st).drop 1 = []) : FnOk P w K mg base CX0 1 fI fd ["self"] (spI0 C) := by
  refine fn_sup T S (fun vs H Q E h => ?_) (fun qual cdv cc A outer s H vs Q E hr h => ?_)
  · obtain ⟨a, rfl, _⟩ := h
    rfl
  · obtain ⟨a, rfl, ha, kq⟩ := h
    rw [hb]
    exact ⟨a, [], rfl, ha, _, pss_nil, kq⟩
end
end L2
namespace Qp
open PySem L2
theorem iNoDealing : FnScopeS ["self"] ["self"] sNoDealinginit := ⟨rfl, rfl, rfl, by decide +kernel, rfl, by decide +kernel, by decide +kernel, by decide +kernel, rfl, rfl, ⟨_, rfl⟩, ⟨_, rfl, rfl⟩, ⟨_, _, _, _, _, _, _, _, _, rfl, rfl⟩⟩
end Qp
namespace Qp
open PySem L2
/-- a value whose tuple, if it is one, holds at most two texts -/
def ItemV (H : Hp) (y : V) : Prop := ∃ k, IsK H y k ∧ ∀ t es, y = .ref t → H t = some (.tup es) → ∃ us : List Str, es = us.map V.str ∧ us.length ≤ 2
theorem ItemV.same {H H' : Hp} (s : Same H H') {y : V} (h : ItemV H y) : ItemV H' y := by
  obtain ⟨k, ik, q⟩ := h
  refine ⟨k, ik.same s, fun t es e e2 => ?_⟩
  subst e
  cases ik with
  | lst h => rw [s _ _ h] at e2; cases e2
  | tup h =>
    rw [s _ _ h] at e2
    cases e2
    exact q t _ rfl h
  | dct h => rw [s _ _ h] at e2; cases e2
theorem prOf_no {H : Hp} {y : V} {k : Kd} (ik : IsK H y k) (n : k ≠ .tup) : prOf H y = none := by
  cases e : prOf H y with
  | none => rfl
  | some p =>
    obtain ⟨t, rfl, h⟩ := prOf_at e
    cases ik with
    | lst h2 => rw [h] at h2; cases h2
    | tup _ => exact absurd rfl n
    | dct h2 => rw [h] at h2; cases h2
theorem ItemV.pr {H H' : Hp} (s : Same H H') {y : V} (h : ItemV H y) : prOf H' y = prOf H y := by
  obtain ⟨k, ik, _⟩ := h
  cases e : prOf H y with
  | some p => exact prOf_same s e
  | none =>
    cases e2 : prOf H' y with
    | none => rfl
    | some p =>
      obtain ⟨t, rfl, h⟩ := prOf_at e2
      cases ik with
      | lst h2 => rw [s _ _ h2] at h; cases h
      | tup h2 =>
        rw [s _ _ h2] at h
        cases h
        rw [prOf_of h2] at e
        cases e
      | dct h2 => rw [s _ _ h2] at h; cases h
/-- whether a value is a pair of persons -/
def isPB (H : Hp) (ns : List Str) (y : V) : Bool := match prOf H y with
  | some p => decide (p.1 ∈ ns) && decide (p.2 ∈ ns)
  | none => false
section
variable {P : Program} {w : World} {K : PySem.W.Frag} {mg : Str → Option Value} {base : Heap}
/-- _is_pair(group, value) -/
def spIP (C : Addr) : Sp := fun vs H Q _ => ∃ (p : Addr) (y : V) (ns : List Str) (ws : Str → List Str), vs = [.ref p, y] ∧ GroupAt C H p ns ws ∧ ItemV H y ∧ ∀ H', Same H H' → Q (.bl (isPB H ns y)) H'
/-- a row that is handed to from_pairs -/
def RowV (K : PySem.W.Frag) (H : Hp) (x : V) : Option (List V) → Prop
  | none => NotU K H x
  | some ys => ∃ t, x = .ref t ∧ H t = some (.tup ys) ∧ ys.length ≤ 60 ∧ ∀ y ∈ ys, ItemV H y
theorem RowV.same {H H' : Hp} (s : Same H H') {x : V} {o : Option (List V)} (h : RowV K H x o) : RowV K H' x o := by
  cases o with
  | none => exact NotU.same s h
  | some ys =>
    obtain ⟨t, e, h1, h2, h3⟩ := h
    exact ⟨t, e, s _ _ h1, h2, fun y hy => (h3 y hy).same s⟩
/-- the row is zs, and is taken -/
structure AccP (H : Hp) (ns : List Str) (ws : Str → List Str) (ys : List V) (zs : List (Str × Str)) : Prop where
  l : PairsL H ys zs
  m : ∀ p ∈ zs, p.1 ∈ ns ∧ p.2 ∈ ns
  d : Dl ns ws (run2 f0 zs)
  w : Wr ns (run2 f0 zs) zs
theorem isPB_all {H : Hp} {ns : List Str} : ∀ {ys : List V}, ys.all (isPB H ns) = true → ∃ zs, PairsL H ys zs ∧ ∀ p ∈ zs, p.1 ∈ ns ∧ p.2 ∈ ns
  | [], _ => ⟨[], rfl, fun _ h => by cases h⟩
  | y :: ys, h => by
    rw [List.all_cons, Bool.and_eq_true] at h
    obtain ⟨zs, h1, h2⟩ := isPB_all h.2
    have q := h.1
    unfold isPB at q
    cases e : prOf H y with
    | none => rw [e] at q; cases q
    | some p =>
      rw [e] at q
      have q : (decide (p.1 ∈ ns) && decide (p.2 ∈ ns)) = true := q
      rw [Bool.and_eq_true] at q
      refine ⟨p :: zs, ?_, fun r hr => ?_⟩
      · unfold PairsL at h1 ⊢
        rw [List.map_cons, List.map_cons, h1, e]
      · rcases List.mem_cons.mp hr with e2 | hr
        · rw [e2]
          exact ⟨of_decide_eq_true q.1, of_decide_eq_true q.2⟩
        · exact h2 r hr
theorem isPB_of {H : Hp} {ns : List Str} {ys : List V} {zs : List (Str × Str)} (h : PairsL H ys zs) (m : ∀ p ∈ zs, p.1 ∈ ns ∧ p.2 ∈ ns) : ys.all (isPB H ns) = true := by
  rw [List.all_eq_true]
  intro y hy
  obtain ⟨p, hp, e⟩ := h.mem hy
  unfold isPB
  rw [e]
  show (decide (p.1 ∈ ns) && decide (p.2 ∈ ns)) = true
  rw [decide_eq_true (m p hp).1, decide_eq_true (m p hp).2]
  rfl
abbrev nFP : List Str := ["group", "pairs", "a", "x", "b", "pair"]
/-- from_pairs(group, pairs) -/
def spFP (K : PySem.W.Frag) (C CN : Addr) : Sp := fun vs H Q E => ∃ (p : Addr) (x : V) (ns : List Str) (ws : Str → List Str) (o : Option (List V)), vs = [.ref p, x] ∧ GroupAt C H p ns ws ∧ Nm ns ∧ (∀ a ∈ ns, GRow ns a (ws a)) ∧ RowV K H x o ∧
  (∀ ys zs, o = some ys → AccP H ns ws ys zs → ∀ D H', Same H H' → H' D = some (.dK (okv ns (run2 f0 zs))) → H D = none → Q (.ref D) H') ∧ ((∀ ys zs, o = some ys → ¬ AccP H ns ws ys zs) → ∀ H', Same H H' → E (.ref CN) none H')
end
end Qp
namespace Qp
open PySem L2
theorem okv_strs {qs : List Str} {f : Str → Option Str} : ((okv qs f).map fun kv => kV kv.1) = qs.map V.str := by
  unfold okv
  rw [List.map_map]
  rfl
theorem wr_direct {qs ys : List Str} {f : Str → Option Str} (hp : ys.Perm qs) (hs : PyProof.Rows.sortedS ys = true) (nd : qs.Nodup) : Wr qs f (wr0 f ys) :=
  ⟨List.Perm.flatMap_right _ hp, pzs_srtd (sorted_pw hs) (hp.nodup_iff.mpr nd) fun _ _ => gO_pw⟩
section
variable {P : Program} {w : World} {K : PySem.W.Frag} {mg : Str → Option Value} {base : Heap}
/-- _law_written(x) -/
def spLWr : Sp := fun vs H Q _ => ∃ (d : Addr) (qs : List Str) (f : Str → Option Str), vs = [.ref d] ∧ H d = some (.dK (okv qs f)) ∧ qs.Nodup ∧ qs.length ≤ 60 ∧ ∀ T H' zs, Same H H' → Wr qs f zs → PairsT H' T zs → H T = none → Q (.ref T) H'
end
end Qp
namespace Qp
open PySem L2
theorem okv_inj {qs rs : List Str} {f g : Str → Option Str} (h : okv qs f = okv rs g) : qs = rs ∧ ∀ a ∈ qs, f a = g a := by
  have e1 : qs = rs := by
    have e := congrArg (List.map (·.1)) h
    rw [okv_keys, okv_keys] at e
    exact (List.map_inj_right (fun _ _ e => Sum.inr.inj e)).mp e
  subst e1
  refine ⟨rfl, fun a ha => ?_⟩
  have q := okv_val (f := f) ha
  rw [h, okv_val ha] at q
  exact (oV_inj (Option.some.inj q)).symm
theorem wr_apart {ns qs : List Str} {ws : Str → List Str} (nd : ns.Nodup) (hp : qs.Perm ns) {f : Str → Option Str} {zs : List (Str × Str)} (D : Dl ns ws f) (W : Wr qs f zs) : zs.Pairwise Apart := by
  have mm : ∀ p ∈ zs, p.1 ∈ ns ∧ f p.1 = some p.2 ∧ p.1.cps.toList < p.2.cps.toList := fun p hq => by
    obtain ⟨a, b⟩ := mem_wr0.mp (W.p.mem_iff.mp hq)
    exact ⟨hp.mem_iff.mp a, b⟩
  have pw : zs.Pairwise fun p q => p.1 ≠ q.1 := (List.Perm.pairwise_iff (fun {p q} h e => h e.symm) W.p).mpr (wr0_nd (hp.nodup_iff.mpr nd))
  refine List.pairwise_iff_forall_sublist.mpr fun {p q} hs => ?_
  have hp : p ∈ zs := hs.subset List.mem_cons_self
  have hq : q ∈ zs := hs.subset (List.mem_cons_of_mem _ List.mem_cons_self)
  have n1 : p.1 ≠ q.1 := List.pairwise_iff_forall_sublist.mp pw hs
  obtain ⟨p1, p2, p3⟩ := mm p hp
  obtain ⟨q1, q2, q3⟩ := mm q hq
  have bp := (D _ p1 _ p2).2
  have bq := (D _ q1 _ q2).2
  refine ⟨n1, fun e => ?_, fun e => ?_, fun e => ?_⟩
  · rw [← e, p2] at bq
    have e2 : p.2 = q.1 := Option.some.inj bq
    rw [e, e2] at p3
    exact absurd q3 (List.lt_asymm p3)
  · rw [e, q2] at bp
    have e2 : q.2 = p.1 := Option.some.inj bp
    rw [e2, ← e] at q3
    exact absurd p3 (List.lt_asymm q3)
  · rw [e, bq] at bp
    exact n1 (Option.some.inj bp).symm
theorem run_off : ∀ {zs : List (Str × Str)} {f : Str → Option Str} {a : Str}, (∀ p ∈ zs, a ≠ p.1 ∧ a ≠ p.2) → run2 f zs a = f a
  | [], _, _, _ => rfl
  | p :: r, f, a, h => by
    show run2 (set2 f p) r a = f a
    rw [run_off fun q hq => h q (List.mem_cons_of_mem _ hq)]
    obtain ⟨h1, h2⟩ := h p List.mem_cons_self
    unfold set2 setO
    rw [if_neg h2, if_neg h1]
theorem run_on : ∀ {zs : List (Str × Str)} {f : Str → Option Str} {p : Str × Str}, zs.Pairwise Apart → p ∈ zs → p.1 ≠ p.2 → run2 f zs p.1 = some p.2 ∧ run2 f zs p.2 = some p.1
  | [], _, _, _, h, _ => by cases h
  | q :: r, f, p, hw, hp, n => by
    obtain ⟨h1, h2⟩ := List.pairwise_cons.mp hw
    show run2 (set2 f q) r p.1 = some p.2 ∧ run2 (set2 f q) r p.2 = some p.1
    rcases List.mem_cons.mp hp with e | hp
    · subst e
      rw [run_off fun q hq => ⟨(h1 q hq).1, (h1 q hq).2.1⟩, run_off fun q hq => ⟨(h1 q hq).2.2.1, (h1 q hq).2.2.2⟩]
      unfold set2 setO
      rw [if_neg n, if_pos rfl, if_pos rfl]
      exact ⟨rfl, rfl⟩
    · exact run_on h2 hp n
theorem lex_tri {a b : Str} (h : a ≠ b) : a.cps.toList < b.cps.toList ∨ b.cps.toList < a.cps.toList := by
  by_cases c : a.cps.toList < b.cps.toList
  · exact .inl c
  · refine .inr ?_
    have h1 : b.cps.toList ≤ a.cps.toList := List.not_lt.mp c
    by_cases d : b.cps.toList < a.cps.toList
    · exact d
    · exact absurd (str_ext (List.le_antisymm (List.not_lt.mp d) h1)) h
/-- the walk over a dealing's pairs gives the dealing back -/
theorem run_wr {ns qs : List Str} {ws : Str → List Str} (g : ∀ a ∈ ns, GRow ns a (ws a)) (nd : ns.Nodup) (hp : qs.Perm ns) {f : Str → Option Str} {zs : List (Str × Str)} (D : Dl ns ws f) (W : Wr qs f zs) : ∀ a ∈ ns, run2 f0 zs a = f a := by
  intro a ha
  have hw := wr_apart nd hp D W
  have mm : ∀ p, p ∈ zs ↔ p.1 ∈ ns ∧ f p.1 = some p.2 ∧ p.1.cps.toList < p.2.cps.toList := fun p => by
    rw [W.p.mem_iff, mem_wr0, hp.mem_iff]
  have nlt : ∀ p ∈ zs, p.1 ≠ p.2 := fun p h e => by
    have := ((mm p).mp h).2.2
    rw [e] at this
    exact List.lt_irrefl _ this
  cases hf : f a with
  | some b =>
    obtain ⟨h1, h2⟩ := D a ha b hf
    have hb := (opn_sym g ha h1).1
    have nab : a ≠ b := fun e => by
      have q := (g a ha).2 b (List.mem_filter.mp h1).1
      exact q.2 e.symm
    rcases lex_tri nab with l | l
    · have m := (mm (a, b)).mpr ⟨ha, hf, l⟩
      exact (run_on hw m nab).1
    · have m := (mm (b, a)).mpr ⟨hb, h2, l⟩
      exact (run_on hw m (Ne.symm nab)).2
  | none =>
    have e : run2 f0 zs a = f0 a := run_off fun p hp => by
      obtain ⟨p1, p2, _⟩ := (mm p).mp hp
      refine ⟨fun e => ?_, fun e => ?_⟩
      · rw [← e, hf] at p2; cases p2
      · have q := (D _ p1 _ p2).2
        rw [← e, hf] at q
        cases q
    rw [e]
    rfl
theorem Dl.congr {ns : List Str} {ws : Str → List Str} (g : ∀ a ∈ ns, GRow ns a (ws a)) {f h : Str → Option Str} (D : Dl ns ws f) (e : ∀ a ∈ ns, h a = f a) : Dl ns ws h := fun a ha b hb => by
  rw [e a ha] at hb
  obtain ⟨h1, h2⟩ := D a ha b hb
  exact ⟨h1, by rw [e b (opn_sym g ha h1).1]; exact h2⟩
theorem wr_names {ns qs : List Str} {ws : Str → List Str} (nn : Nm ns) (g : ∀ a ∈ ns, GRow ns a (ws a)) {f : Str → Option Str} {zs : List (Str × Str)} (hp : qs.Perm ns) (D : Dl ns ws f) (W : Wr qs f zs) : ∀ p ∈ zs, nameS p.1 = true ∧ nameS p.2 = true := fun p h => by
  obtain ⟨h1, h2, _⟩ := mem_wr0.mp (W.p.mem_iff.mp h)
  have h1 := hp.mem_iff.mp h1
  exact ⟨nn.nm _ h1, nn.nm _ (opn_sym g h1 (D _ h1 _ h2).1).1⟩
variable {C CB CW fG : Addr} {f : Addr} {cdv : Value} {A : Around} {outer : List Env} {s : Shared} {H0 : Hp} {E0' : XK} {Q : VK}
end Qp
namespace Qp
open PySem L2
theorem opn_ne {ns : List Str} {ws : Str → List Str} (g : ∀ a ∈ ns, GRow ns a (ws a)) {a b : Str} (ha : a ∈ ns) (h : b ∈ opn ws a) : b ≠ a := ((g a ha).2 b (List.mem_filter.mp h).1).2
end Qp
namespace Qp
open PySem L2
abbrev Fn := Str → Option Str
/-- those whom a would rather have -/
def abO (ws : Str → List Str) (f : Fn) (a : Str) : List Str := match f a with
  | some h => (opn ws a).take ((opn ws a).idxOf h)
  | none => opn ws a
theorem abO_congr {ws : Str → List Str} {f g : Fn} {a : Str} (h : f a = g a) : abO ws f a = abO ws g a := by
  unfold abO
  rw [h]
theorem abO_sub {ws : Str → List Str} {f : Fn} {a b : Str} (h : b ∈ abO ws f a) : b ∈ opn ws a := by
  unfold abO at h
  split at h
  · exact List.mem_of_mem_take h
  · exact h
theorem abv_abO {ws : Str → List Str} {qs : List Str} {f : Fn} {a : Str} (h : a ∈ qs) : abv (okv qs f) ws a = abO ws f a := by
  unfold abv abO
  rw [okv_val h]
  cases f a <;> rfl
def quB (ws : Str → List Str) (qs : List Str) (f : Fn) (a : Str) : Bool := !((abO ws f a).any fun b => decide (b ∈ qs) && decide (a ∈ abO ws f b))
theorem quB_iff {ws : Str → List Str} {qs : List Str} {f : Fn} {a : Str} : quB ws qs f a = true ↔ ∀ b ∈ abO ws f a, b ∈ qs → a ∉ abO ws f b := by
  unfold quB
  rw [Bool.not_eq_true', List.any_eq_false]
  constructor
  · intro h b hb hq ha
    refine h b hb ?_
    rw [decide_eq_true hq, decide_eq_true ha]
    rfl
  · intro h b hb e
    rw [Bool.and_eq_true] at e
    exact h b hb (of_decide_eq_true e.1) (of_decide_eq_true e.2)
def stp (qs : List Str) (a : Str) : Option Str → List Str
  | none => qs ++ [a]
  | some b => qs ++ [a] ++ [b]
def stf (f : Fn) (a : Str) : Option Str → Fn
  | none => setO f a none
  | some b => setO (setO f a (some b)) b (some a)
def fre (free qs : List Str) : List Str := free.filter fun c => decide (c ∉ qs)
theorem mem_fre {free qs : List Str} {z : Str} : z ∈ fre free qs ↔ z ∈ free ∧ z ∉ qs := by
  unfold fre
  rw [List.mem_filter, decide_eq_true_iff]
theorem mem_stp {qs : List Str} {a z : Str} {o : Option Str} : z ∈ stp qs a o ↔ z ∈ qs ∨ z = a ∨ o = some z := by
  cases o with
  | none => simp [stp]
  | some b =>
    simp only [stp, List.mem_append, List.mem_singleton, Option.some.injEq]
    constructor
    · rintro ((h | h) | h)
      · exact .inl h
      · exact .inr (.inl h)
      · exact .inr (.inr h.symm)
    · rintro (h | h | h)
      · exact .inl (.inl h)
      · exact .inl (.inr h)
      · exact .inr h.symm
theorem fre_fre {ord qs : List Str} {a : Str} {o : Option Str} : fre (fre ord qs) (stp qs a o) = fre ord (stp qs a o) := by
  unfold fre
  rw [List.filter_filter]
  refine List.filter_congr fun c _ => ?_
  by_cases h : c ∈ stp qs a o
  · rw [decide_eq_false (not_not_intro h), Bool.false_and]
  · rw [decide_eq_true h, Bool.true_and]
    exact decide_eq_true fun q => h (mem_stp.mpr (.inl q))
/-- a part of a dealing -/
structure St0 (ns : List Str) (ws : Str → List Str) (free qs : List Str) (f : Fn) : Prop where
  q : ∀ z ∈ qs, z ∈ ns
  fr : ∀ z, z ∈ free ↔ z ∈ ns ∧ z ∉ qs
  fnd : free.Nodup
  nd : qs.Nodup
  off : ∀ z, z ∉ qs → f z = none
  pd : ∀ a ∈ qs, ∀ b, f a = some b → b ∈ qs ∧ b ∈ opn ws a ∧ f b = some a
def okCh (ws : Str → List Str) (qs : List Str) (a : Str) (o : Option Str) : Prop := o = none ∨ ∃ b, o = some b ∧ b ∈ opn ws a ∧ b ∉ qs
/-- a dealing of all -/
structure FinD (ns : List Str) (ws : Str → List Str) (g : Fn) : Prop where
  off : ∀ z, z ∉ ns → g z = none
  dl : Dl ns ws g
theorem stf_a {f : Fn} {a : Str} {o : Option Str} (h : o ≠ some a) : stf f a o a = o := by
  cases o with
  | none => exact if_pos rfl
  | some b =>
    have n : a ≠ b := fun e => h (by rw [e])
    show (if a = b then some a else (if a = a then some b else f a)) = some b
    rw [if_neg n, if_pos rfl]
theorem stf_b {f : Fn} {a b : Str} : stf f a (some b) b = some a := if_pos rfl
theorem stf_z {f : Fn} {a z : Str} {o : Option Str} (h : z ≠ a) (k : o ≠ some z) : stf f a o z = f z := by
  cases o with
  | none => exact if_neg h
  | some b =>
    have n : z ≠ b := fun e => k (by rw [e])
    show (if z = b then some a else (if z = a then some b else f z)) = f z
    rw [if_neg n, if_neg h]
section
variable {ns : List Str} {ws : Str → List Str} (gg : ∀ a ∈ ns, GRow ns a (ws a))
include gg
theorem st0_step {a : Str} {r qs : List Str} {f : Fn} (S : St0 ns ws (a :: r) qs f) {o : Option Str} (ho : okCh ws qs a o) : St0 ns ws (fre (a :: r) (stp qs a o)) (stp qs a o) (stf f a o) := by
  obtain ⟨han, haq⟩ := (S.fr a).mp List.mem_cons_self
  have hob : ∀ b, o = some b → b ∈ opn ws a ∧ b ∉ qs ∧ b ∈ ns ∧ b ≠ a ∧ a ∈ opn ws b := fun b e => by
    rcases ho with h | ⟨c, h, h1, h2⟩
    · rw [h] at e; cases e
    · rw [h] at e
      cases e
      exact ⟨h1, h2, (opn_sym gg han h1).1, opn_ne gg han h1, (opn_sym gg han h1).2⟩
  have oa : o ≠ some a := fun e => (hob a e).2.2.2.1 rfl
  refine ⟨fun z hz => ?_, fun z => ?_, S.fnd.filter _, ?_, fun z hz => ?_, fun c hc b hb => ?_⟩
  · rcases mem_stp.mp hz with h | h | h
    · exact S.q z h
    · rw [h]; exact han
    · exact (hob z h).2.2.1
  · rw [mem_fre, S.fr]
    constructor
    · rintro ⟨⟨h1, _⟩, h3⟩
      exact ⟨h1, h3⟩
    · rintro ⟨h1, h2⟩
      exact ⟨⟨h1, fun q => h2 (mem_stp.mpr (.inl q))⟩, h2⟩
  · cases o with
    | none =>
      refine List.nodup_append.mpr ⟨S.nd, List.nodup_cons.mpr ⟨List.not_mem_nil, List.nodup_nil⟩, fun x hx y hy e => ?_⟩
      rw [List.mem_singleton.mp hy] at e
      exact haq (e ▸ hx)
    | some b =>
      obtain ⟨_, hbq, _, hba, _⟩ := hob b rfl
      show (qs ++ [a] ++ [b]).Nodup
      refine List.nodup_append.mpr ⟨List.nodup_append.mpr ⟨S.nd, List.nodup_cons.mpr ⟨List.not_mem_nil, List.nodup_nil⟩, fun x hx y hy e => ?_⟩, List.nodup_cons.mpr ⟨List.not_mem_nil, List.nodup_nil⟩, fun x hx y hy e => ?_⟩
      · rw [List.mem_singleton.mp hy] at e
        exact haq (e ▸ hx)
      · rw [List.mem_singleton.mp hy] at e
        rcases List.mem_append.mp hx with hx | hx
        · exact hbq (e ▸ hx)
        · exact hba (e ▸ (List.mem_singleton.mp hx))
  · have h1 : z ∉ qs := fun q => hz (mem_stp.mpr (.inl q))
    have h2 : z ≠ a := fun q => hz (mem_stp.mpr (.inr (.inl q)))
    have h3 : o ≠ some z := fun q => hz (mem_stp.mpr (.inr (.inr q)))
    rw [stf_z h2 h3]
    exact S.off z h1
  · rcases mem_stp.mp hc with h | h | h
    · have h2 : c ≠ a := fun q => haq (q ▸ h)
      have h3 : o ≠ some c := fun q => (hob c q).2.1 h
      rw [stf_z h2 h3] at hb
      obtain ⟨k1, k2, k3⟩ := S.pd c h b hb
      have h4 : b ≠ a := fun q => haq (q ▸ k1)
      have h5 : o ≠ some b := fun q => (hob b q).2.1 k1
      exact ⟨mem_stp.mpr (.inl k1), k2, by rw [stf_z h4 h5]; exact k3⟩
    · subst h
      rw [stf_a oa] at hb
      subst hb
      exact ⟨mem_stp.mpr (.inr (.inr rfl)), (hob b rfl).1, stf_b⟩
    · subst h
      rw [stf_b] at hb
      cases hb
      exact ⟨mem_stp.mpr (.inr (.inl rfl)), (hob c rfl).2.2.2.2, stf_a oa⟩
omit gg in
/-- a dealing that goes on a part of one chooses well -/
theorem ch_of {a : Str} {r qs : List Str} {f g : Fn} (S : St0 ns ws (a :: r) qs f) (G : FinD ns ws g) (e : ∀ z ∈ qs, g z = f z) : okCh ws qs a (g a) := by
  obtain ⟨han, haq⟩ := (S.fr a).mp List.mem_cons_self
  cases ga : g a with
  | none => exact .inl rfl
  | some b =>
    obtain ⟨h1, h2⟩ := G.dl a han b ga
    refine .inr ⟨b, rfl, h1, fun hb => ?_⟩
    rw [e b hb] at h2
    exact haq (S.pd b hb a h2).1
theorem agree_step {a : Str} {r qs : List Str} {f g : Fn} (S : St0 ns ws (a :: r) qs f) (G : FinD ns ws g) (e : ∀ z ∈ qs, g z = f z) : ∀ z ∈ stp qs a (g a), g z = stf f a (g a) z := by
  obtain ⟨han, haq⟩ := (S.fr a).mp List.mem_cons_self
  have oa : g a ≠ some a := fun q => opn_ne gg han (G.dl a han a q).1 rfl
  intro z hz
  rcases mem_stp.mp hz with h | h | h
  · have h2 : z ≠ a := fun q => haq (q ▸ h)
    have h3 : g a ≠ some z := fun q => by
      have := (G.dl a han z q).2
      rw [e z h] at this
      exact haq (S.pd z h a this).1
    rw [stf_z h2 h3]
    exact e z h
  · subst h
    rw [stf_a oa]
  · rw [h, stf_b]
    exact (G.dl a han z h).2
theorem agree_back {a : Str} {r qs : List Str} {f g : Fn} (S : St0 ns ws (a :: r) qs f) {o : Option Str} (ho : okCh ws qs a o) (e : ∀ z ∈ stp qs a o, g z = stf f a o z) : (∀ z ∈ qs, g z = f z) ∧ g a = o := by
  obtain ⟨han, haq⟩ := (S.fr a).mp List.mem_cons_self
  have hob : ∀ b, o = some b → b ∉ qs ∧ b ≠ a := fun b e => by
    rcases ho with h | ⟨c, h, h1, h2⟩
    · rw [h] at e; cases e
    · rw [h] at e
      cases e
      exact ⟨h2, opn_ne gg han h1⟩
  refine ⟨fun z hz => ?_, ?_⟩
  · have h2 : z ≠ a := fun q => haq (q ▸ hz)
    have h3 : o ≠ some z := fun q => (hob z q).1 hz
    rw [e z (mem_stp.mpr (.inl hz)), stf_z h2 h3]
  · rw [e a (mem_stp.mpr (.inr (.inl rfl))), stf_a fun q => (hob a q).2 rfl]
end
/-! ### the enumeration -/
def en (ok : List Str → Fn → Str → Option Str → Bool) (ch : List Str → List Str → Str → List (Option Str)) : Nat → List Str → List Str → Fn → List (List Str × Fn)
  | _, [], qs, f => [(qs, f)]
  | 0, _ :: _, _, _ => []
  | n + 1, a :: r, qs, f => (ch (a :: r) qs a).flatMap fun o => if ok qs f a o = true then en ok ch n (fre (a :: r) (stp qs a o)) (stp qs a o) (stf f a o) else []
section
variable {ns : List Str} {ws : Str → List Str} (gg : ∀ a ∈ ns, GRow ns a (ws a)) {ok : List Str → Fn → Str → Option Str → Bool} {ch : List Str → List Str → Str → List (Option Str)}
  (hch : ∀ a r qs f, St0 ns ws (a :: r) qs f → (ch (a :: r) qs a).Nodup ∧ ∀ o, o ∈ ch (a :: r) qs a ↔ okCh ws qs a o)
  {T : List Str → Fn → Prop} {G : Fn → Prop}
  (t1 : ∀ a r qs f o, St0 ns ws (a :: r) qs f → okCh ws qs a o → T qs f → ok qs f a o = true → T (stp qs a o) (stf f a o))
  (t2 : ∀ a r qs f g, St0 ns ws (a :: r) qs f → FinD ns ws g → G g → (∀ z ∈ stp qs a (g a), g z = stf f a (g a) z) → ok qs f a (g a) = true)
theorem fre_len {a : Str} {r qs : List Str} {o : Option Str} : (fre (a :: r) (stp qs a o)).length ≤ r.length := by
  unfold fre
  rw [List.filter_cons_of_neg (by simp [mem_stp])]
  exact List.length_filter_le _ _
include gg hch t1 in
theorem en_out : ∀ {n : Nat} {free qs : List Str} {f : Fn}, St0 ns ws free qs f → T qs f → ∀ p ∈ en ok ch n free qs f, St0 ns ws [] p.1 p.2 ∧ T p.1 p.2 ∧ ∀ z ∈ qs, p.2 z = f z
  | n, [], qs, f, S, t, p, hp => by
    have e : p = (qs, f) := by
      have hp : p ∈ [(qs, f)] := by cases n <;> exact hp
      exact List.mem_singleton.mp hp
    rw [e]
    exact ⟨S, t, fun _ _ => rfl⟩
  | 0, a :: r, qs, f, S, t, p, hp => by cases hp
  | n + 1, a :: r, qs, f, S, t, p, hp => by
    obtain ⟨o, ho, hp⟩ := List.mem_flatMap.mp hp
    have ho' := ((hch a r qs f S).2 o).mp ho
    by_cases c : ok qs f a o = true
    · rw [if_pos c] at hp
      obtain ⟨h1, h2, h3⟩ := en_out (n := n) (st0_step gg S ho') (t1 a r qs f o S ho' t c) p hp
      exact ⟨h1, h2, (agree_back gg S ho' h3).1⟩
    · rw [if_neg c] at hp
      cases hp
include gg hch t2 in
theorem en_in : ∀ {n : Nat} {free qs : List Str} {f g : Fn}, St0 ns ws free qs f → free.length ≤ n → FinD ns ws g → G g → (∀ z ∈ qs, g z = f z) → g ∈ (en ok ch n free qs f).map (·.2)
  | n, [], qs, f, g, S, hn, D, hG, e => by
    have eg : g = f := by
      funext z
      by_cases hz : z ∈ qs
      · exact e z hz
      · rw [S.off z hz]
        refine D.off z fun hzn => ?_
        have := (S.fr z).mpr ⟨hzn, hz⟩
        cases this
    rw [eg]
    cases n <;> exact List.mem_map.mpr ⟨(qs, f), List.mem_singleton.mpr rfl, rfl⟩
  | 0, a :: r, qs, f, g, S, hn, D, hG, e => by
    exact absurd hn (by simp)
  | n + 1, a :: r, qs, f, g, S, hn, D, hG, e => by
    have ho := ch_of S D e
    have ea := agree_step gg S D e
    have ih := en_in (n := n) (st0_step gg S ho) (Nat.le_trans fre_len (Nat.le_of_succ_le_succ hn)) D hG ea
    obtain ⟨p, hp, ep⟩ := List.mem_map.mp ih
    refine List.mem_map.mpr ⟨p, List.mem_flatMap.mpr ⟨g a, ((hch a r qs f S).2 _).mpr ho, ?_⟩, ep⟩
    rw [if_pos (t2 a r qs f g S D hG ea)]
    exact hp
include gg hch t1 in
theorem en_nd : ∀ {n : Nat} {free qs : List Str} {f : Fn}, St0 ns ws free qs f → T qs f → ((en ok ch n free qs f).map (·.2)).Nodup
  | n, [], qs, f, S, t => by
    cases n <;> exact List.nodup_cons.mpr ⟨List.not_mem_nil, List.nodup_nil⟩
  | 0, a :: r, qs, f, S, t => List.nodup_nil
  | n + 1, a :: r, qs, f, S, t => by
    show (((ch (a :: r) qs a).flatMap fun o => if ok qs f a o = true then en ok ch n (fre (a :: r) (stp qs a o)) (stp qs a o) (stf f a o) else []).map (·.2)).Nodup
    rw [List.map_flatMap]
    refine List.pairwise_flatMap.mpr ⟨fun o ho => ?_, ?_⟩
    · have ho' := ((hch a r qs f S).2 o).mp ho
      by_cases c : ok qs f a o = true
      · rw [if_pos c]
        exact en_nd (n := n) (st0_step gg S ho') (t1 a r qs f o S ho' t c)
      · rw [if_neg c]
        exact List.Pairwise.nil
    · refine List.Pairwise.imp_of_mem (fun {o o'} ho ho' ne => ?_) (hch a r qs f S).1
      intro x hx y hy exy
      have key : ∀ o, o ∈ ch (a :: r) qs a → ∀ x, x ∈ (if ok qs f a o = true then en ok ch n (fre (a :: r) (stp qs a o)) (stp qs a o) (stf f a o) else []).map (·.2) → x a = o := fun o ho x hx => by
        have ho1 := ((hch a r qs f S).2 o).mp ho
        by_cases c : ok qs f a o = true
        · rw [if_pos c] at hx
          obtain ⟨p, hp, rfl⟩ := List.mem_map.mp hx
          have h3 := (en_out gg hch t1 (n := n) (st0_step gg S ho1) (t1 a r qs f o S ho1 t c) p hp).2.2
          exact (agree_back gg S ho1 h3).2
        · rw [if_neg c] at hx
          cases hx
      have k1 := key o ho x hx
      have k2 := key o' ho' y hy
      rw [exy] at k1
      exact ne (k1.symm.trans k2)
theorem finD_of {qs : List Str} {f : Fn} (S : St0 ns ws [] qs f) : FinD ns ws f := by
  have m : ∀ z, z ∈ ns → z ∈ qs := fun z hz => by
    by_cases h : z ∈ qs
    · exact h
    · have := (S.fr z).mpr ⟨hz, h⟩
      cases this
  exact ⟨fun z hz => S.off z fun q => hz (S.q z q), fun a ha b e => (S.pd a (m a ha) b e).2⟩
theorem permS {qs : List Str} {f : Fn} (S : St0 ns ws [] qs f) (nd : ns.Nodup) : qs.Perm ns := by
  refine (List.perm_ext_iff_of_nodup S.nd nd).mpr fun z => ⟨S.q z, fun hz => ?_⟩
  by_cases h : z ∈ qs
  · exact h
  · have := (S.fr z).mpr ⟨hz, h⟩
    cases this
theorem st0_start (nd : ns.Nodup) {free : List Str} (hp : free.Perm ns) : St0 ns ws free [] f0 :=
  ⟨fun _ h => (by cases h), fun z => ⟨fun h => ⟨hp.mem_iff.mp h, List.not_mem_nil⟩, fun h => hp.mem_iff.mpr h.1⟩, hp.nodup_iff.mpr nd, List.nodup_nil, fun _ _ => rfl, fun _ h => (by cases h)⟩
end
/-! ### how many -/
def inv : Nat → Nat
  | 0 => 1
  | 1 => 1
  | n + 2 => inv (n + 1) + (n + 1) * inv n
theorem inv_mono1 : ∀ n, inv n ≤ inv (n + 1)
  | 0 => Nat.le_refl _
  | n + 1 => Nat.le_add_right _ _
theorem inv_mono {m n : Nat} (h : m ≤ n) : inv m ≤ inv n := by
  induction h with
  | refl => exact Nat.le_refl _
  | step _ ih => exact Nat.le_trans ih (inv_mono1 _)
theorem inv_step (n : Nat) : inv n + n * inv (n - 1) ≤ inv (n + 1) := by
  cases n with
  | zero => decide
  | succ k => exact Nat.le_refl _
theorem sum_le2 {α : Type} {l : List α} {g : α → Nat} {b : Nat} (h : ∀ x ∈ l, g x ≤ b) : (l.map g).sum ≤ l.length * b := by
  induction l with
  | nil => exact Nat.zero_le _
  | cons x r ih =>
    rw [List.map_cons, List.sum_cons, List.length_cons, Nat.succ_mul]
    have h1 := h x List.mem_cons_self
    have h2 := ih fun y hy => h y (List.mem_cons_of_mem _ hy)
    omega
section
variable {ns : List Str} {ws : Str → List Str} (gg : ∀ a ∈ ns, GRow ns a (ws a)) {ok : List Str → Fn → Str → Option Str → Bool} {ch : List Str → List Str → Str → List (Option Str)}
  (hch : ∀ a r qs f, St0 ns ws (a :: r) qs f → (ch (a :: r) qs a).Nodup ∧ ∀ o, o ∈ ch (a :: r) qs a ↔ okCh ws qs a o)
include gg in
theorem fre_len2 {a b : Str} {r qs : List Str} {f : Fn} (S : St0 ns ws (a :: r) qs f) (ho : okCh ws qs a (some b)) : b ∈ r ∧ (fre (a :: r) (stp qs a (some b))).length ≤ r.length - 1 := by
  obtain ⟨han, haq⟩ := (S.fr a).mp List.mem_cons_self
  obtain ⟨c, ec, h1, h2⟩ : ∃ c, (some b : Option Str) = some c ∧ c ∈ opn ws a ∧ c ∉ qs := by
    rcases ho with h | h
    · cases h
    · exact h
  cases ec
  have hbn := (opn_sym gg han h1).1
  have hbr : b ∈ r := by
    rcases List.mem_cons.mp ((S.fr b).mpr ⟨hbn, h2⟩) with h | h
    · exact absurd h (opn_ne gg han h1)
    · exact h
  refine ⟨hbr, ?_⟩
  rw [← List.length_erase_of_mem hbr]
  unfold fre
  rw [List.filter_cons_of_neg (by simp [mem_stp])]
  have hnd := (List.nodup_cons.mp S.fnd).2
  have hf : (r.filter fun c => decide (c ∉ stp qs a (some b))).Nodup := hnd.filter _
  refine List.Nodup.length_le_of_subset hf fun x hx => ?_
  obtain ⟨k1, k2⟩ := List.mem_filter.mp hx
  refine (List.mem_erase_of_ne fun e => ?_).mpr k1
  exact of_decide_eq_true k2 (mem_stp.mpr (.inr (.inr (by rw [e]))))
include gg hch in
theorem ch_len {a : Str} {r qs : List Str} {f : Fn} (S : St0 ns ws (a :: r) qs f) : (ch (a :: r) qs a).length ≤ r.length + 1 := by
  have h := (hch a r qs f S).1.length_le_of_subset (l₂ := none :: r.map some) fun o ho => by
    have ho' := ((hch a r qs f S).2 o).mp ho
    cases o with
    | none => exact List.mem_cons_self
    | some b => exact List.mem_cons_of_mem _ (List.mem_map.mpr ⟨b, (fre_len2 gg S ho').1, rfl⟩)
  rw [List.length_cons, List.length_map] at h
  exact h
include gg hch in
theorem en_len : ∀ {n : Nat} {free qs : List Str} {f : Fn}, St0 ns ws free qs f → (en ok ch n free qs f).length ≤ inv free.length
  | n, [], qs, f, S => by
    cases n <;> exact Nat.le_refl _
  | 0, a :: r, qs, f, S => Nat.zero_le _
  | n + 1, a :: r, qs, f, S => by
    have hn := (hch a r qs f S).1
    have hm := (hch a r qs f S).2
    show ((ch (a :: r) qs a).flatMap fun o => if ok qs f a o = true then en ok ch n (fre (a :: r) (stp qs a o)) (stp qs a o) (stf f a o) else []).length ≤ inv (r.length + 1)
    rw [List.length_flatMap]
    have h0 : none ∈ ch (a :: r) qs a := (hm none).mpr (.inl rfl)
    have hp := List.perm_cons_erase h0
    rw [(hp.map _).sum_nat, List.map_cons, List.sum_cons]
    have each : ∀ o, o ∈ ch (a :: r) qs a → ∀ b, (fre (a :: r) (stp qs a o)).length ≤ b → (if ok qs f a o = true then en ok ch n (fre (a :: r) (stp qs a o)) (stp qs a o) (stf f a o) else []).length ≤ inv b := fun o ho b hb => by
      by_cases c : ok qs f a o = true
      · rw [if_pos c]
        exact Nat.le_trans (en_len (n := n) (st0_step gg S ((hm o).mp ho))) (inv_mono hb)
      · rw [if_neg c]
        exact Nat.zero_le _
    have h1 := each none h0 r.length fre_len
    have h2 := sum_le2 (l := (ch (a :: r) qs a).erase none) (b := inv (r.length - 1)) (g := fun o => (if ok qs f a o = true then en ok ch n (fre (a :: r) (stp qs a o)) (stp qs a o) (stf f a o) else []).length) fun o ho => by
      obtain ⟨n1, n2⟩ := hn.mem_erase_iff.mp ho
      cases o with
      | none => exact absurd rfl n1
      | some b => exact each _ n2 _ (fre_len2 gg S ((hm _).mp n2)).2
    have h3 : ((ch (a :: r) qs a).erase none).length ≤ r.length := by
      rw [List.length_erase_of_mem h0]
      have := ch_len gg hch S
      omega
    have h4 := Nat.mul_le_mul_right (inv (r.length - 1)) h3
    have h5 := inv_step r.length
    exact Nat.le_trans (Nat.add_le_add h1 (Nat.le_trans h2 h4)) h5
end
end Qp
namespace Qp
open PySem L2
def okB (ws : Str → List Str) (qs : List Str) (f : Fn) (a : Str) (o : Option Str) : Bool := quB ws (stp qs a o) (stf f a o) a && (match o with
  | none => true
  | some b => quB ws (stp qs a o) (stf f a o) b)
def chP (ws : Str → List Str) (free _qs : List Str) (a : Str) : List (Option Str) := none :: (free.filter fun c => decide (c ∈ opn ws a)).map some
def okc (qs : List Str) : Option Str → Bool
  | none => true
  | some b => decide (b ∉ qs)
def chL (ws : Str → List Str) (_free qs : List Str) (a : Str) : List (Option Str) := (none :: (opn ws a).map some).filter (okc qs)
/-- the program's way -/
def cfR (ws : Str → List Str) : Nat → List Str → List Str → Fn → List (List Str × Fn) := en (okB ws) (chP ws)
/-- the law's way -/
def grR (ws : Str → List Str) : Nat → List Str → List Str → Fn → List (List Str × Fn) := en (fun _ _ _ _ => true) (chL ws)
def calB (ns : List Str) (ws : Str → List Str) (g : Fn) : Bool := ns.all (quB ws ns g)
theorem some_nd {l : List Str} (h : l.Nodup) : (none :: l.map (some : Str → Option Str)).Nodup := by
  refine List.nodup_cons.mpr ⟨fun h => ?_, List.Pairwise.map _ (fun _ _ n e => n (Option.some.inj e)) h⟩
  obtain ⟨_, _, e⟩ := List.mem_map.mp h
  cases e
section
variable {ns : List Str} {ws : Str → List Str} (gg : ∀ a ∈ ns, GRow ns a (ws a))
include gg
theorem hchP : ∀ a r qs f, St0 ns ws (a :: r) qs f → (chP ws (a :: r) qs a).Nodup ∧ ∀ o, o ∈ chP ws (a :: r) qs a ↔ okCh ws qs a o := fun a r qs f S => by
  obtain ⟨han, haq⟩ := (S.fr a).mp List.mem_cons_self
  refine ⟨some_nd (S.fnd.filter _), fun o => ?_⟩
  unfold chP okCh
  cases o with
  | none => exact ⟨fun _ => .inl rfl, fun _ => List.mem_cons_self⟩
  | some b =>
    constructor
    · intro h
      rcases List.mem_cons.mp h with h | h
      · cases h
      · obtain ⟨c, hc, e⟩ := List.mem_map.mp h
        cases e
        obtain ⟨h1, h2⟩ := List.mem_filter.mp hc
        exact .inr ⟨_, rfl, of_decide_eq_true h2, ((S.fr _).mp h1).2⟩
    · rintro (h | ⟨c, e, h1, h2⟩)
      · cases h
      · cases e
        exact List.mem_cons_of_mem _ (List.mem_map.mpr ⟨_, List.mem_filter.mpr ⟨(S.fr _).mpr ⟨(opn_sym gg han h1).1, h2⟩, decide_eq_true h1⟩, rfl⟩)
theorem hchL : ∀ a r qs f, St0 ns ws (a :: r) qs f → (chL ws (a :: r) qs a).Nodup ∧ ∀ o, o ∈ chL ws (a :: r) qs a ↔ okCh ws qs a o := fun a r qs f S => by
  obtain ⟨han, haq⟩ := (S.fr a).mp List.mem_cons_self
  have hnd : (opn ws a).Nodup := (gg a han).1.filter _
  refine ⟨(some_nd hnd).filter _, fun o => ?_⟩
  unfold chL okCh
  rw [List.mem_filter]
  cases o with
  | none => exact ⟨fun _ => .inl rfl, fun _ => ⟨List.mem_cons_self, rfl⟩⟩
  | some b =>
    constructor
    · rintro ⟨h, k⟩
      rcases List.mem_cons.mp h with h | h
      · cases h
      · obtain ⟨c, hc, e⟩ := List.mem_map.mp h
        cases e
        exact .inr ⟨_, rfl, hc, of_decide_eq_true k⟩
    · rintro (h | ⟨c, e, h1, h2⟩)
      · cases h
      · cases e
        exact ⟨List.mem_cons_of_mem _ (List.mem_map.mpr ⟨_, h1, rfl⟩), decide_eq_true h2⟩
theorem t1P : ∀ a r qs f o, St0 ns ws (a :: r) qs f → okCh ws qs a o → (∀ z ∈ qs, quB ws qs f z = true) → okB ws qs f a o = true → ∀ z ∈ stp qs a o, quB ws (stp qs a o) (stf f a o) z = true := fun a r qs f o S ho t hk z hz => by
  obtain ⟨han, haq⟩ := (S.fr a).mp List.mem_cons_self
  have hob : ∀ b, o = some b → b ∉ qs := fun b e => by
    rcases ho with h | ⟨c, h, h1, h2⟩
    · rw [h] at e; cases e
    · rw [h] at e
      cases e
      exact h2
  unfold okB at hk
  rw [Bool.and_eq_true] at hk
  have ka := hk.1
  have kb : ∀ b, o = some b → quB ws (stp qs a o) (stf f a o) b = true := fun b e => by
    have := hk.2
    subst e
    exact this
  rcases mem_stp.mp hz with h | h | h
  · have old : ∀ c ∈ qs, stf f a o c = f c := fun c hc => stf_z (fun q => haq (q ▸ hc)) (fun q => hob c q hc)
    refine quB_iff.mpr fun c hc hcs hzc => ?_
    rcases mem_stp.mp hcs with k | k | k
    · rw [abO_congr (old z h)] at hc
      rw [abO_congr (old c k)] at hzc
      exact quB_iff.mp (t z h) c hc k hzc
    · subst k
      exact quB_iff.mp ka z hzc hz hc
    · exact quB_iff.mp (kb c k) z hzc hz hc
  · rw [h]; exact ka
  · exact kb z h
theorem t2P : ∀ a r qs f g, St0 ns ws (a :: r) qs f → FinD ns ws g → (∀ z ∈ ns, quB ws ns g z = true) → (∀ z ∈ stp qs a (g a), g z = stf f a (g a) z) → okB ws qs f a (g a) = true := fun a r qs f g S D hG e => by
  obtain ⟨han, haq⟩ := (S.fr a).mp List.mem_cons_self
  have hs : ∀ z ∈ stp qs a (g a), z ∈ ns := fun z hz => by
    rcases mem_stp.mp hz with h | h | h
    · exact S.q z h
    · rw [h]; exact han
    · exact (opn_sym gg han (D.dl a han z h).1).1
  have all : ∀ z ∈ stp qs a (g a), quB ws (stp qs a (g a)) (stf f a (g a)) z = true := fun z hz => by
    refine quB_iff.mpr fun c hc hcs hzc => ?_
    rw [← abO_congr (e z hz)] at hc
    rw [← abO_congr (e c hcs)] at hzc
    exact quB_iff.mp (hG z (hs z hz)) c hc (hs c hcs) hzc
  unfold okB
  rw [Bool.and_eq_true]
  refine ⟨all a (mem_stp.mpr (.inr (.inl rfl))), ?_⟩
  cases ga : g a with
  | none => rfl
  | some b =>
    have := all b (mem_stp.mpr (.inr (.inr ga)))
    rw [ga] at this
    exact this
omit gg in
theorem quB_move {ms qs : List Str} {f : Fn} {z : Str} (h : ∀ x, x ∈ ms ↔ x ∈ qs) : quB ws ms f z = quB ws qs f z := by
  rw [Bool.eq_iff_iff, quB_iff, quB_iff]
  exact ⟨fun k b hb hq => k b hb ((h b).mpr hq), fun k b hb hq => k b hb ((h b).mp hq)⟩
theorem calB_of {qs : List Str} {f : Fn} (nd : ns.Nodup) (S : St0 ns ws [] qs f) (t : ∀ z ∈ qs, quB ws qs f z = true) : calB ns ws f = true := by
  have hp := permS S nd
  unfold calB
  rw [List.all_eq_true]
  intro z hz
  rw [← quB_move (qs := ns) fun x => hp.mem_iff]
  exact t z (hp.mem_iff.mpr hz)
theorem cf_iff (nd : ns.Nodup) {fr : List Str} (p : fr.Perm ns) {n : Nat} (h : fr.length ≤ n) {g : Fn} : g ∈ (cfR ws n fr [] f0).map (·.2) ↔ FinD ns ws g ∧ calB ns ws g = true := by
  have S := st0_start (ws := ws) nd p
  constructor
  · intro hg
    obtain ⟨q, hq, rfl⟩ := List.mem_map.mp hg
    obtain ⟨h1, h2, _⟩ := en_out gg (hchP gg) (T := fun qs f => ∀ z ∈ qs, quB ws qs f z = true) (t1P gg) S (fun _ h => by cases h) q hq
    exact ⟨finD_of h1, calB_of gg nd h1 h2⟩
  · rintro ⟨D, c⟩
    unfold calB at c
    rw [List.all_eq_true] at c
    exact en_in gg (hchP gg) (G := fun g => ∀ z ∈ ns, quB ws ns g z = true) (t2P gg) S h D c (fun _ h => by cases h)
theorem gr_iff (nd : ns.Nodup) {fr : List Str} (p : fr.Perm ns) {n : Nat} (h : fr.length ≤ n) {g : Fn} : g ∈ (grR ws n fr [] f0).map (·.2) ↔ FinD ns ws g := by
  have S := st0_start (ws := ws) nd p
  constructor
  · intro hg
    obtain ⟨q, hq, rfl⟩ := List.mem_map.mp hg
    obtain ⟨h1, _, _⟩ := en_out gg (hchL gg) (T := fun _ _ => True) (fun _ _ _ _ _ _ _ _ _ => True.intro) S True.intro q hq
    exact finD_of h1
  · intro D
    exact en_in gg (hchL gg) (G := fun _ => True) (fun _ _ _ _ _ _ _ _ _ => rfl) S h D True.intro (fun _ h => by cases h)
theorem cf_nd (nd : ns.Nodup) {fr : List Str} (p : fr.Perm ns) {n : Nat} : ((cfR ws n fr [] f0).map (·.2)).Nodup :=
  en_nd gg (hchP gg) (T := fun qs f => ∀ z ∈ qs, quB ws qs f z = true) (t1P gg) (st0_start (ws := ws) nd p) (fun _ h => by cases h)
theorem gr_nd (nd : ns.Nodup) {fr : List Str} (p : fr.Perm ns) {n : Nat} : ((grR ws n fr [] f0).map (·.2)).Nodup :=
  en_nd gg (hchL gg) (T := fun _ _ => True) (fun _ _ _ _ _ _ _ _ _ => True.intro) (st0_start (ws := ws) nd p) True.intro
/-- both find the same -/
theorem calm_perm (nd : ns.Nodup) {fr1 fr2 : List Str} (p1 : fr1.Perm ns) (p2 : fr2.Perm ns) {n m : Nat} (h1 : fr1.length ≤ n) (h2 : fr2.length ≤ m) :
    ((cfR ws n fr1 [] f0).map (·.2)).Perm (((grR ws m fr2 [] f0).filter fun p => calB ns ws p.2).map (·.2)) := by
  have e : ((grR ws m fr2 [] f0).filter fun p => calB ns ws p.2).map (·.2) = ((grR ws m fr2 [] f0).map (·.2)).filter (calB ns ws) := by
    rw [List.filter_map]
    rfl
  rw [e]
  refine (List.perm_ext_iff_of_nodup (cf_nd gg nd p1) ((gr_nd gg nd p2).filter _)).mpr fun g => ?_
  rw [cf_iff gg nd p1 h1, List.mem_filter, gr_iff gg nd p2 h2]
omit gg in
theorem mem_prs {p : Str × Str} : p ∈ prs ns ws ↔ p.1 ∈ ns ∧ p.2 ∈ opn ws p.1 ∧ p.1.cps.toList < p.2.cps.toList := by
  unfold prs pr
  rw [List.mem_flatMap]
  constructor
  · rintro ⟨a, ha, hp⟩
    obtain ⟨b, hb, rfl⟩ := List.mem_map.mp hp
    obtain ⟨k1, k2⟩ := List.mem_filter.mp hb
    exact ⟨ha, k1, of_decide_eq_true k2⟩
  · rintro ⟨k1, k2, k3⟩
    exact ⟨p.1, k1, List.mem_map.mpr ⟨p.2, List.mem_filter.mpr ⟨k2, decide_eq_true k3⟩, rfl⟩⟩
omit gg in
theorem lt_or {a b : Str} (h : a ≠ b) : a.cps.toList < b.cps.toList ∨ b.cps.toList < a.cps.toList := by
  by_cases c : a.cps.toList < b.cps.toList
  · exact .inl c
  · refine .inr ?_
    rcases List.le_iff_lt_or_eq.mp (List.not_lt.mp c) with k | k
    · exact k
    · refine absurd ?_ h
      cases a with
      | mk x =>
        cases b with
        | mk y =>
          have : x = y := Array.ext' k.symm
          rw [this]
theorem cal_prs {q : List Str} {g : Fn} (nd : ns.Nodup) (S : St0 ns ws [] q g) : ((prs ns ws).all fun p => !qB (okv q g) ws p) = calB ns ws g := by
  have hp := permS S nd
  have ab : ∀ a ∈ ns, abv (okv q g) ws a = abO ws g a := fun a ha => abv_abO (hp.mem_iff.mpr ha)
  rw [Bool.eq_iff_iff]
  unfold calB
  rw [List.all_eq_true, List.all_eq_true]
  constructor
  · intro h a ha
    refine quB_iff.mpr fun b hb hbn hab => ?_
    have hbo := abO_sub hb
    have key : ∀ x y : Str, x ∈ ns → y ∈ ns → y ∈ abO ws g x → x ∈ abO ws g y → x.cps.toList < y.cps.toList → False := fun x y hx hy h1 h2 hlt => by
      have := h (x, y) (mem_prs.mpr ⟨hx, abO_sub h1, hlt⟩)
      unfold qB at this
      rw [ab x hx, ab y hy, decide_eq_true h1, decide_eq_true h2] at this
      cases this
    rcases lt_or (opn_ne gg ha hbo) with k | k
    · exact key b a hbn ha hab hb k
    · exact key a b ha hbn hb hab k
  · intro h p hp'
    obtain ⟨k1, k2, k3⟩ := mem_prs.mp hp'
    have hbn := (opn_sym gg k1 k2).1
    unfold qB
    rw [ab _ k1, ab _ hbn]
    by_cases c1 : p.2 ∈ abO ws g p.1
    · have := quB_iff.mp (h _ k1) _ c1 hbn
      rw [decide_eq_false this, Bool.and_false]
      rfl
    · rw [decide_eq_false c1, Bool.false_and]
      rfl
/-- where a dealing without pairs is calm it is the only one -/
theorem lone (nd : ns.Nodup) {fr ys : List Str} (p : fr.Perm ns) (hy : ys.Perm ns) {n : Nat} (h : fr.length ≤ n) {g : Fn} (hg : g ∈ (cfR ws n fr [] f0).map (·.2)) (e : wr0 g ys = []) : (cfR ws n fr [] f0).length ≤ 1 := by
  obtain ⟨D, c⟩ := (cf_iff gg nd p h).mp hg
  unfold calB at c
  rw [List.all_eq_true] at c
  have gn : ∀ a ∈ ns, g a = none := fun a ha => by
    cases ga : g a with
    | none => rfl
    | some b =>
      obtain ⟨h1, h2⟩ := D.dl a ha b ga
      have hbn := (opn_sym gg ha h1).1
      rcases lt_or (opn_ne gg ha h1) with k | k
      · have : (b, a) ∈ wr0 g ys := mem_wr0.mpr ⟨hy.mem_iff.mpr hbn, h2, k⟩
        rw [e] at this
        cases this
      · have : (a, b) ∈ wr0 g ys := mem_wr0.mpr ⟨hy.mem_iff.mpr ha, ga, k⟩
        rw [e] at this
        cases this
  have on : ∀ a ∈ ns, ∀ b, b ∉ opn ws a := fun a ha b hb => by
    obtain ⟨hbn, hab⟩ := opn_sym gg ha hb
    refine quB_iff.mp (c a ha) b ?_ hbn ?_
    · unfold abO
      rw [gn a ha]
      exact hb
    · unfold abO
      rw [gn b hbn]
      exact hab
  have one : ∀ u ∈ (cfR ws n fr [] f0).map (·.2), u = f0 := fun u hu => by
    obtain ⟨D2, _⟩ := (cf_iff gg nd p h).mp hu
    funext z
    by_cases hz : z ∈ ns
    · cases uz : u z with
      | none => rfl
      | some b => exact absurd (D2.dl z hz b uz).1 (on z hz b)
    · exact D2.off z hz
  have nd2 := cf_nd gg nd p (n := n)
  have := List.Nodup.length_le_of_subset nd2 (l₂ := [f0]) fun u hu => List.mem_singleton.mpr (one u hu)
  rw [List.length_map] at this
  exact this
end
end Qp
/-! sorted(xs), xs a list of references that read as alike data (tuples, of any length where there is one only) -/
namespace PySem.W
open PySem PySem.Calls PyProof.Rows
/-- one value at most can be sorted -/
theorem SortsAt.few {prog : Program} {w : World} {A : Around} {s : Shared} {vs : List Value} {ds : List PyData} (e : EachIs (fun v d => ∃ as, Reads s.heap v d as) vs ds) (hal : AllAlike ds) (h1 : vs.length ≤ 1) (ht : ∀ d, d ∈ ds → ∃ xs, d = .tuple xs) (hu : ∀ d, d ∈ ds → A.units + d.depth < cLine) : SortsAt prog w A s (dataKind s.heap ds) vs := by
  refine ⟨fun v hv => ?_, tuples' false, ?_, fun h2 => absurd h2 (by omega)⟩
  · obtain ⟨d, hd, as, r⟩ := e.left v hv
    exact ⟨_, dataKind_some hal hd r⟩
  · intro E x y a b Q ha hb hq
    obtain ⟨d, as, hd, ra, rfl⟩ := dataKind_inv ha
    obtain ⟨d', as', hd', rb, rfl⟩ := dataKind_inv hb
    have hdd := hal d hd d' hd'
    have hroom : A.units + min d.depth d'.depth < cLine := Nat.lt_of_le_of_lt (Nat.add_le_add_left (Nat.min_le_left _ _) _) (hu d hd)
    obtain ⟨x1, rfl⟩ := ht d hd
    obtain ⟨x2, rfl⟩ := ht d' hd'
    have hq' : Q (dataLt (.tuple x1) (.tuple x2)) s := hq
    rw [dataLt_tuple] at hq'
    cases ra with
    | @tuple l o xs n _ _ h1 h2 h3 h4 =>
      cases rb with
      | @tuple l' o' xs' n' _ _ k1 k2 k3 k4 =>
        have n1 : xs.size = x1.length := by simpa using SeqAt.ReadsAll.length _ _ _ h4
        have n2 : xs'.size = x2.length := by simpa using SeqAt.ReadsAll.length _ _ _ k4
        refine kat_lt h1 h3 k1 k3 (katLex_alike x1 x2 0 _ _ _ _ h4 k4 (by simpa [alike] using hdd) (by have q := SeqAt.room_in hroom; omega) (fun hb _ _ _ _ _ => by cases hb) (by rw [n1, n2]) hq')
end PySem.W
namespace L2
open PySem PySem.Spec PyProof.Rows PySem.W
def rSortedR {β : Type} (enc : β → PyData) (K : PySem.W.Frag) : List V → Hp → VK → Prop := fun vs H Q => ∃ (a : Addr) (xs : List V) (bs : List β) (R : V → β → Prop), vs = [V.ref a] ∧ SqL K H a xs ∧ EachIs R xs bs ∧ (∀ x b, R x b → (∃ t, x = V.ref t) ∧ Dp K H x (enc b)) ∧
  AllAlike (bs.map enc) ∧ (Sortable (bs.map enc) ∨ (bs.length ≤ 1 ∧ ∀ b ∈ bs, ∃ l, enc b = .tuple l)) ∧ (∀ b ∈ bs, (enc b).depth ≤ 9) ∧
  ∀ ys p, EachIs R ys (bs.mergeSort (dataLe false enc)) → H p = none → Q (.ref p) (upd H p (.lst ys))
theorem each_refs {β : Type} {R : V → β → Prop} : ∀ {us : List Value} {bs : List β}, EachIs R (us.map backV) bs → EachIs (fun u b => R (backV u) b) us bs
  | [], _, h => by cases h; exact .nil
  | u :: us, _, h => by
    cases h with
    | cons h t => exact .cons h (each_refs t)
theorem each_back {β : Type} {R : V → β → Prop} : ∀ {us : List Value} {bs : List β}, EachIs (fun u b => R (backV u) b) us bs → EachIs R (us.map backV) bs
  | _, _, .nil => .nil
  | _, _, .cons h t => .cons h (each_back t)
theorem EachIs.in {α β : Type} {R : α → β → Prop} : ∀ {as : List α} {bs : List β}, EachIs R as bs → EachIs (fun a b => R a b ∧ a ∈ as) as bs
  | _, _, .nil => .nil
  | _, _, .cons h t => .cons ⟨h, List.mem_cons_self⟩ ((EachIs.in t).mono fun _ _ q => ⟨q.1, List.mem_cons_of_mem _ q.2⟩)
section
variable {X : Cx}
theorem cr_sortedR {β : Type} (enc : β → PyData) (hu : X.A.units + 64 < cLine) : CallR X (.builtin "sorted") (rSortedR enc X.K) := by
  intro pins s σ H vs us Q I r h
  obtain ⟨a, xs, bs, R, rfl, hs, hx, hR, hal, hk, hdp, q⟩ := h
  obtain ⟨its, rv, hl, hz⟩ := I.list hs
  obtain ⟨u, rfl, ru⟩ := vals1 r
  obtain rfl : u = Value.ref a := ru
  obtain ⟨e1, e2⟩ := refs_back rv fun x m => by
    obtain ⟨b, _, hb⟩ := hx.left x m
    exact (hR x b hb).1
  have hx2 : EachIs (fun u b => R (backV u) b) its bs := each_refs (by rw [← e1]; exact hx)
  have hxm := EachIs.in hx2
  have hlen : its.length = bs.length := hx2.length
  have er : ∀ h' : Heap, (∀ b o, s.heap.get? b = some o → h'.get? b = some o) → EachIs (fun v d => ∃ as, Reads h' v d as) its (bs.map enc) := fun h' keep => by
    refine each_map (R := fun v d => ∃ as, Reads h' v d as) enc (hxm.mono fun u b ⟨hb, hm⟩ => ?_)
    obtain ⟨t, rfl⟩ := e2 u hm
    obtain ⟨as, r⟩ := Dp.reads I (enc b) _ (Value.ref t) (hR _ b hb).2 rfl
    exact ⟨as, PyProof.Rows.Reads.keeps keep r⟩
  have hdep : ∀ b, b ∈ bs → X.A.units + 2 + (enc b).depth < cLine := fun b hb => by have := hdp b hb; omega
  have hb2 : ∀ d, d ∈ bs.map enc → X.A.in1.in1.units + d.depth < cLine := fun d hd => bound_map hdep d hd
  have keep : ∀ b o, s.heap.get? b = some o → (sortingHeap (copyHeap s.heap its) (s.heap.objs.size + 1) its).get? b = some o := fun b o => sorting_copy_old
  have S : SortsAt X.prog X.w X.A.in1.in1 { s with heap := sortingHeap (copyHeap s.heap its) (s.heap.objs.size + 1) its } (dataKind (sortingHeap (copyHeap s.heap its) (s.heap.objs.size + 1) its) (bs.map enc)) its := by
    rcases hk with hk | ⟨h1, h2⟩
    · exact SortsAt.data (s := { s with heap := sortingHeap (copyHeap s.heap its) (s.heap.objs.size + 1) its }) (er _ keep) hal hk hb2
    · exact SortsAt.few (s := { s with heap := sortingHeap (copyHeap s.heap its) (s.heap.objs.size + 1) its }) (er _ keep) hal (by rw [hlen]; exact h1) (fun d hd => by
        obtain ⟨b, hb, rfl⟩ := List.mem_map.mp hd
        exact h2 b hb) hb2
  have er2 : EachIs (fun v b => ∃ as, Reads (sortingHeap (copyHeap s.heap its) (s.heap.objs.size + 1) its) v (enc b) as) its bs := hxm.mono fun u b ⟨hb, hm⟩ => by
    obtain ⟨t, rfl⟩ := e2 u hm
    obtain ⟨as, r⟩ := Dp.reads I (enc b) _ (Value.ref t) (hR _ b hb).2 rfl
    exact ⟨as, PyProof.Rows.Reads.keeps keep r⟩
  have hsd := sortVals_data (R := fun u b => R (backV u) b ∧ u ∈ its) false hxm er2 hal
  have hlv := sortVals_length (κ := dataKind (sortingHeap (copyHeap s.heap its) (s.heap.objs.size + 1) its) (bs.map enc)) false (rfl : its.length = its.length)
  refine sorted_vals hl.isList S (by rw [← rv.length]; exact hz) ?_
  generalize sortVals (dataKind (sortingHeap (copyHeap s.heap its) (s.heap.objs.size + 1) its) (bs.map enc)) false its its = out at hsd hlv
  have h3 : ∀ u ∈ out, ∃ a, u = Value.ref a := fun u hu => by
    obtain ⟨b, _, hb⟩ := hsd.left u hu
    exact e2 u hb.2
  obtain ⟨n, hn⟩ := PyProof.Rows.sortedAll_at s.heap its out.toArray
  refine ⟨.ref _, upd H (s.heap.objs.size + 1) (.lst (out.map backV)), I.laid (t' := s.toks) (fun _ _ => PyProof.Rows.sortedAll_old) (Nat.le_succ _) ⟨?_, out, n, vals_back h3, hn⟩, rfl, q _ _ (each_back (hsd.mono fun _ _ q => q.1)) (I.hok.fresh (Nat.le_succ _))⟩
  rw [List.length_map, hlv, ← rv.length]
  exact hz
end
end L2
namespace Qp
open PySem L2 PySem.W PyProof.Rows
/-- a dealing written as pairs, as data -/
def tdt (b : List (Str × Str)) : PyData := PyData.tuple (b.map pdt)
theorem toks_pdt (p : Str × Str) : keyToks (pdt p) = [.inl 1, .inr p.1.cps.toList, .inl 1, .inr p.2.cps.toList, .inl 0] := by
  simp [pdt, keyToks, keyToksAll]
theorem toks_inj : ∀ (a b : List (Str × Str)), keyToksAll (a.map pdt) = keyToksAll (b.map pdt) → a = b
  | [], [], _ => rfl
  | [], q :: s, h => by
    simp [keyToksAll] at h
  | p :: r, [], h => by
    simp [keyToksAll] at h
  | p :: r, q :: s, h => by
    rw [List.map_cons, List.map_cons, toks_all_cons, toks_all_cons, toks_pdt, toks_pdt] at h
    simp only [List.cons_append, List.nil_append, List.cons.injEq, Sum.inr.injEq, true_and] at h
    obtain ⟨h1, h2, h3⟩ := h
    have e1 : p.1 = q.1 := str_of_cps h1
    have e2 : p.2 = q.2 := str_of_cps h2
    have e3 := toks_inj r s h3
    cases p
    cases q
    simp only at e1 e2
    subst e1
    subst e2
    rw [e3]
theorem le_anti {a b : List (Str × Str)} (h1 : dataLe false tdt a b = true) (h2 : dataLe false tdt b a = true) : a = b := by
  unfold dataLe sortLe at h1 h2
  have k1 : PyProof.Rows.lexLt itemOrd (keyToks (tdt b)) (keyToks (tdt a)) = false := by simpa using h1
  have k2 : PyProof.Rows.lexLt itemOrd (keyToks (tdt a)) (keyToks (tdt b)) = false := by simpa using h2
  have e := lex_total (O := itemOrd) _ _ k2 k1
  refine toks_inj a b ?_
  simpa [tdt, keyToks] using e
theorem sort_same {a b : List (List (Str × Str))} (p : a.Perm b) : a.mergeSort (dataLe false tdt) = b.mergeSort (dataLe false tdt) := by
  have T : TotalLe (dataLe false tdt) := sortLe_total (listOrd itemOrd) false fun b => keyToks (tdt b)
  refine List.Perm.eq_of_pairwise (le := fun x y => dataLe false tdt x y = true) (fun x y _ _ h1 h2 => le_anti h1 h2) (sort_pairwise T a) (sort_pairwise T b) ?_
  exact (List.mergeSort_perm a _).trans (p.trans (List.mergeSort_perm b _).symm)
theorem alike_pdt : ∀ (a b : List (Str × Str)), alikeAll (a.map pdt) (b.map pdt) = true
  | [], _ => by simp [alikeAll]
  | p :: r, [] => by simp [alikeAll]
  | p :: r, q :: s => by
    rw [List.map_cons, List.map_cons, alikeAll, alike_pdt r s]
    simp [pdt, alike, alikeAll]
theorem allAlike_tdt (bs : List (List (Str × Str))) : AllAlike (bs.map tdt) := AllAlike.of fun a b => by
  unfold tdt
  rw [alike]
  exact alike_pdt a b
theorem sortable_tdt {bs : List (List (Str × Str))} (h : ∀ b ∈ bs, b ≠ []) : Sortable (bs.map tdt) := .inl fun d hd => by
  obtain ⟨b, hb, rfl⟩ := List.mem_map.mp hd
  cases b with
  | nil => exact absurd rfl (h [] hb)
  | cons p r => exact ⟨pdt p, r.map pdt, rfl⟩
theorem depth_tdt (b : List (Str × Str)) : (tdt b).depth ≤ 9 := by
  unfold tdt
  have : PyData.depthAll (b.map pdt) ≤ 8 := depth_all fun d hd => by
    obtain ⟨p, _, rfl⟩ := List.mem_map.mp hd
    simp [pdt, PyData.depth, PyData.depthAll]
  simp only [PyData.depth]
  omega
theorem lay_tdt {b : List (Str × Str)} (h : ∀ p ∈ b, nameS p.1 = true ∧ nameS p.2 = true) : PyData.canLay0 (tdt b) = true := by
  unfold tdt PyData.canLay0
  exact lay_all fun d hd => by
    obtain ⟨p, hp, rfl⟩ := List.mem_map.mp hd
    exact (pair_data (h p hp).1 (h p hp).2).1
end Qp
namespace Qp
open PySem L2
theorem same_put {H H' : Hp} (s : Same H H') {D : Addr} (hD : H D = none) {o : HO} : Same H (upd H' D o) := fun b u e => by
  rw [upd_ne (ne_of_none e hD)]
  exact s _ _ e
theorem okv_some {qs : List Str} {g : Str → Option Str} {w : Str} : (valV (okv qs g) (Sum.inr w)).isSome = decide (w ∈ qs) := by
  by_cases h : w ∈ qs
  · rw [okv_val h, decide_eq_true h]
    rfl
  · rw [okv_none h, decide_eq_false h]
    rfl
/-- the value of a person in a part of a dealing -/
def vOk (ns : List Str) (ws : Str → List Str) (f : Fn) (a : Str) : Prop := f a = none ∨ ∃ h, f a = some h ∧ h ∈ ns ∧ h ∈ opn ws a
theorem vOk.val {ns qs : List Str} {ws : Str → List Str} {f : Fn} {a : Str} (h : vOk ns ws f a) (ha : a ∈ qs) : valV (okv qs f) (Sum.inr a) = some .non ∨ ∃ h, valV (okv qs f) (Sum.inr a) = some (.str h) ∧ h ∈ ns ∧ h ∈ opn ws a := by
  rw [okv_val ha]
  rcases h with e | ⟨h, e, h1, h2⟩
  · rw [e]; exact .inl rfl
  · rw [e]; exact .inr ⟨h, rfl, h1, h2⟩
section
variable {P : Program} {w : World} {K : PySem.W.Frag} {mg : Str → Option Value} {base : Heap}
/-- dealt(x, a, b) -/
def spDealt : Sp := fun vs H Q _ => ∃ (d : Addr) (a : Str) (o : Option Str) (qs : List Str) (g : Str → Option Str), vs = [.ref d, .str a, oV o] ∧ H d = some (.dK (okv qs g)) ∧ qs.length ≤ 100 ∧ a ∉ qs ∧ (∀ b, o = some b → b ∉ qs ∧ b ≠ a) ∧
  ∀ D H', Same H H' → H D = none → H' D = some (.dK (okv (stp qs a o) (stf g a o))) → Q (.ref D) H'
theorem put_a {qs : List Str} {g : Fn} {a : Str} {o : Option Str} (ha : a ∉ qs) : putK (okv qs g) (Sum.inr a) (oV o) = okv (qs ++ [a]) (setO g a o) := by
  have e := okv_snoc (f := setO g a o) ha
  have e2 : setO g a o a = o := if_pos rfl
  rw [e2] at e
  rw [← e, okv_congr (f := g) (g := setO g a o) fun z hz => (if_neg (fun (q : z = a) => ha (q ▸ hz))).symm]
theorem put_b {qs : List Str} {g : Fn} {a b : Str} (ha : b ∉ qs ++ [a]) : putK (okv (qs ++ [a]) (setO g a (some b))) (Sum.inr b) (V.str a) = okv (stp qs a (some b)) (stf g a (some b)) := by
  have e := okv_snoc (f := setO (setO g a (some b)) b (some a)) ha
  have e2 : setO (setO g a (some b)) b (some a) b = some a := if_pos rfl
  rw [e2] at e
  rw [okv_congr (f := setO g a (some b)) (g := setO (setO g a (some b)) b (some a)) fun z hz => (if_neg (fun (q : z = b) => ha (q ▸ hz))).symm]
  exact e
/-- _is_quiet(group, x, a) -/
def spQuiet (C : Addr) : Sp := fun vs H Q _ => ∃ (p d : Addr) (a : Str) (ns qs : List Str) (ws : Str → List Str) (f : Fn), vs = [.ref p, .ref d, .str a] ∧ GroupAt C H p ns ws ∧ H d = some (.dK (okv qs f)) ∧ ns.length ≤ 16 ∧ (∀ z ∈ ns, GRow ns z (ws z)) ∧ (∀ z ∈ qs, z ∈ ns ∧ vOk ns ws f z) ∧ a ∈ qs ∧
  ∀ H', Same H H' → Q (.bl (quB ws qs f a)) H'
end
end Qp
namespace L2
open PySem PySem.Spec PyProof.Rows
theorem pss_no {X : Cx} {b : List Stmt} : PSs X b (fun _ _ _ => False) := ⟨fun _ _ _ _ _ _ h => h.elim⟩
end L2
namespace Qp
open PySem L2 PySem.W
/-- values that are dicts of these dealings -/
def DsL (H : Hp) (xs : List V) (rs : List (List Str × Fn)) : Prop := EachIs (fun x (r : List Str × Fn) => ∃ t, x = V.ref t ∧ H t = some (.dK (okv r.1 r.2))) xs rs
theorem DsL.same {H H' : Hp} (s : Same H H') {xs : List V} {rs : List (List Str × Fn)} (h : DsL H xs rs) : DsL H' xs rs := EachIs.mono (fun _ _ ⟨t, e, q⟩ => ⟨t, e, s _ _ q⟩) h
theorem each_app {α β : Type} {R : α → β → Prop} : ∀ {as cs : List α} {bs ds : List β}, EachIs R as bs → EachIs R cs ds → EachIs R (as ++ cs) (bs ++ ds)
  | _, _, _, _, .nil, h => h
  | _, _, _, _, .cons h t, k => .cons h (each_app t k)
theorem DsL.app {H : Hp} {xs ys : List V} {rs ts : List (List Str × Fn)} (h : DsL H xs rs) (k : DsL H ys ts) : DsL H (xs ++ ys) (rs ++ ts) := each_app h k
theorem DsL.put {H : Hp} {F : Addr} {o : HO} {xs : List V} {rs : List (List Str × Fn)} (hF : ∃ zs, H F = some (.lst zs)) (h : DsL H xs rs) : DsL (upd H F o) xs rs := EachIs.mono (fun _ _ ⟨t, e, q⟩ => ⟨t, e, by
  have n : t ≠ F := fun z => by
    obtain ⟨zs, hz⟩ := hF
    rw [z, hz] at q
    cases q
  rw [upd_ne n]
  exact q⟩) h
theorem inv10 {n : Nat} (h : n ≤ 10) : inv n ≤ 9496 := Nat.le_trans (inv_mono h) (by decide)
theorem St0.vOk {ns free qs : List Str} {ws : Str → List Str} {f : Fn} (S : St0 ns ws free qs f) : ∀ z ∈ qs, z ∈ ns ∧ Qp.vOk ns ws f z := fun z hz => by
  refine ⟨S.q z hz, ?_⟩
  cases e : f z with
  | none => exact .inl e
  | some b =>
    obtain ⟨h1, h2, _⟩ := S.pd z hz b e
    exact .inr ⟨b, e, S.q b h1, h2⟩
section
variable {P : Program} {w : World} {K : PySem.W.Frag} {mg : Str → Option Value} {base : Heap}
/-- _calm_from(group, free, x), at most n free people -/
def spCF (C : Addr) (n : Nat) : Sp := fun vs H Q _ => ∃ (p fr d : Addr) (ns free qs : List Str) (ws : Str → List Str) (f : Fn), vs = [.ref p, .ref fr, .ref d] ∧ GroupAt C H p ns ws ∧ ns.length ≤ 16 ∧ (∀ a ∈ ns, GRow ns a (ws a)) ∧ H fr = some (lstO free) ∧ free.length ≤ n ∧ free.length ≤ 10 ∧ H d = some (.dK (okv qs f)) ∧ St0 ns ws free qs f ∧
  ∀ l H' xs, Same H H' → H l = none → H' l = some (.lst xs) → DsL H' xs (cfR ws n free qs f) → Q (.ref l) H'
abbrev nCF : List Str := ["group", "free", "x", "found", "a", "b", "longer", "c"]
theorem cfR_nil {ws : Str → List Str} {n : Nat} {qs : List Str} {f : Fn} : cfR ws n [] qs f = [(qs, f)] := by cases n <;> rfl
end
end Qp
/-! o.m(..), what is raised wished for at the caller's slots; isinstance(x, list) of what is no list, whatever it is -/
namespace L2
open PySem PySem.Spec PyProof.Rows
section
variable {X : Cx} {CX : CXT} {k : Nat} {f C : Addr} {fd : FuncData} {ps : List Str} {sp : Sp} {E : St → XK} {m : Str} {apos pos : Pos} {o e : Expr} {es : List Expr} {ta : TE} {t : TA}
theorem run_fnSl {pins : List (Addr × Obj)} {σ : St} {H : Hp} {s : Shared} {Q : VK} {us : List Value} {vs : List V} (F : FnOk X.prog X.w X.K X.mg X.base CX k f fd ps sp) (hr : Room k X.A) (hb : Binds X.K fd ps []) (hx : ∀ σ, PassesAt CX X σ (E σ))
    (I : Inv X pins σ H s) (r : Vals vs us) (h : sp vs H Q (E σ)) : wpAny (model X.prog X.w) X.A (call (.ref f) us) (EP X pins σ Q) X.xe s := by
  have hl : (us ++ []).length = ps.length := by rw [List.append_nil, ← r.length]; exact F.len _ _ _ _ h
  have hb' := hb s us I.kIn hl
  rw [List.append_nil] at hb'
  refine wpAny_call (codeAny_mono (F.run X.A X.stack s H ⟨us, []⟩ us vs Q (E σ) hr I.env0 hb' r h) fun z s' hq => ?_)
  cases z with
  | error e => exact hx σ pins _ _ e s' I hq
  | ok fl =>
    cases fl with
    | ret u => exact I.after hq
    | next => exact False.elim hq
    | brk => exact False.elim hq
    | cont => exact False.elim hq
def tMethAt (C : Addr) (m : Str) (sp : Sp) (E : St → XK) (ta : TE) (t : TA) : TE := fun σ H Q => ta σ H fun x H1 => ∃ a dx fs, x = .ref a ∧ H1 a = some (.ins C dx fs) ∧ fs.lookup m = none ∧ t σ H1 fun vs H2 => sp (.ref a :: vs) H2 Q (E σ)
theorem pe_methAt {pl : Sem Bool} (he : PE X o ta) (c : Cls X.K C) (hm : Meth X.K C m f) (F : FnOk X.prog X.w X.K X.mg X.base CX k f fd ps sp) (hr : Room k X.A) (hb : Binds X.K fd ps []) (hx : ∀ σ, PassesAt CX X σ (E σ)) (ha : PA X (e :: es) t)
    (hst : starEach (e :: es) X.env = (false, eval e X.env) :: starEach es X.env := by rfl) (hpl : (backTo pos (starEach es X.env)).any (·.1) = false := by rfl)
    (ht : eval (.Call (.Attribute o m apos) (e :: es) [] pos) X.env = (eval o X.env >>= fun ov => standAt apos.atName >>= fun _ => holding [ov] (getMethod ov m pl) >>= fun (f, first) => callWith pos f first (backTo pos (starEach (e :: es) X.env)) (backToKw pos (keywordEach [] X.env))) := by rfl) :
    PE X (.Call (.Attribute o m apos) (e :: es) [] pos) (tMethAt C m sp E ta t) := by
  refine ⟨fun pins s σ H Q I h => ?_⟩
  refine PySem.W.methodCall_KW (pl := pl) (thn (he.run pins s σ H _ I h) fun u s1 hu => ?_) ht
  obtain ⟨x, H1, I1, rx, a, dx, fs, rfl, ea, l, q⟩ := hu
  obtain rfl : u = Value.ref a := rx
  refine getmeth_ok I1 ea c hm l ?_
  refine PySem.W.callWith_K (first := [.ref a]) (h₀ := X.base) I.ok.mod.kin hm.kp (thn (ha.run pos pins s1 σ H1 _ I1 q) fun us s2 hu => ?_) hst hpl
  obtain ⟨vs, H2, I2, r, q2⟩ := hu
  exact ⟨I2.kIn, run_fnSl (us := .ref a :: us) (vs := .ref a :: vs) F hr hb hx I2 (.cons rfl r) q2⟩
end
end L2
namespace Qp
open PySem L2 PySem.W
/-- a tuple of these pairs -/
def PT (H : Hp) (x : V) (b : List (Str × Str)) : Prop := ∃ t, x = V.ref t ∧ PairsT H t b
theorem PT.same {H H' : Hp} (s : Same H H') {x : V} {b : List (Str × Str)} (h : PT H x b) : PT H' x b := by
  obtain ⟨t, e, q⟩ := h
  exact ⟨t, e, q.same s⟩
theorem PT.dp {K : PySem.W.Frag} {H : Hp} {x : V} {b : List (Str × Str)} (h : PT H x b) : (∃ t, x = V.ref t) ∧ Dp K H x (tdt b) := by
  obtain ⟨t, rfl, ys, e, q⟩ := h
  exact ⟨⟨t, rfl⟩, .tup (SqT.of e) (dp_pairsL q)⟩
def PTs (H : Hp) (xs : List V) (bs : List (List (Str × Str))) : Prop := EachIs (PT H) xs bs
theorem PTs.same {H H' : Hp} (s : Same H H') {xs : List V} {bs : List (List (Str × Str))} (h : PTs H xs bs) : PTs H' xs bs := EachIs.mono (fun _ _ q => q.same s) h
theorem each_at {α β : Type} {R : α → β → Prop} : ∀ {as : List α} {bs : List β}, EachIs R as bs → ∀ {i : Nat} {a : α}, as[i]? = some a → ∃ b, bs[i]? = some b ∧ R a b
  | _, _, .nil, i, a, h => by cases h
  | _, _, .cons (b := b) q t, 0, a, h => by
    cases h
    exact ⟨b, rfl, q⟩
  | _, _, .cons q t, i + 1, a, h => each_at t h
theorem each_right {α β : Type} {R : α → β → Prop} : ∀ {as : List α} {bs : List β}, EachIs R as bs → ∀ b ∈ bs, ∃ a ∈ as, R a b
  | _, _, .cons q t, b, h => by
    rcases List.mem_cons.mp h with rfl | h
    · exact ⟨_, List.mem_cons_self, q⟩
    · obtain ⟨a, h1, h2⟩ := each_right t b h
      exact ⟨a, List.mem_cons_of_mem _ h1, h2⟩
theorem each_map_eq {α β : Type} {R : α → β → Prop} {g : β → α} : ∀ {as : List α} {bs : List β}, EachIs R as bs → (∀ a b, b ∈ bs → R a b → a = g b) → as = bs.map g
  | _, _, .nil, _ => rfl
  | _, _, .cons q t, h => by
    rw [List.map_cons, ← h _ _ List.mem_cons_self q, ← each_map_eq t fun a b hb r => h a b (List.mem_cons_of_mem _ hb) r]
/-- the written ones, sorted -/
def sorted9 (rs : List (List Str × Fn)) (ss : List Str) : List (List (Str × Str)) := (rs.map fun r => wr0 r.2 ss).mergeSort (dataLe false tdt)
section
variable {P : Program} {w : World} {K : PySem.W.Frag} {mg : Str → Option Value} {base : Heap}
/-- Group.__len__(self) -/
def spLenM (C : Addr) : Sp := fun vs H Q _ => ∃ (p : Addr) (ps : List Str) (ws : Str → List Str), vs = [.ref p] ∧ GroupAt C H p ps ws ∧ Q (.int ps.length) H
theorem ok_lenM {f C : Addr} {fd : FuncData} (F : Fun K "__len__" "Group.__len__" sGrouplen f fd) (B : Bl mg) (T : GTxt K mg C) : FnOk P w K mg base CX0 1 f fd ["self"] (spLenM C) := by
  refine F.ok scGrouplen (fun vs H Q E h => ?_) (fun cdv A outer s H vs Q E hr h => ?_)
  · obtain ⟨p, ps, ws, rfl, _⟩ := h
    rfl
  · obtain ⟨p, ps, ws, rfl, ⟨dx, a, d1, d2, d3, hp, ha, _⟩, kq⟩ := h
    refine ⟨_, pss_one (ps_ret (pe_callB call_len_seq (by rfl) B.len PySem.boot_len (pa_cons (pe_fld (pv 0) rfl) pa_nil))), ?_⟩
    refine ⟨_, rfl, p, C, dx, _, _, rfl, hp, T.cl, T.n1, gF_people _ _ _ _, a, _, rfl, .inr (SqT.of ha), ?_⟩
    rw [List.length_map]
    exact kq
end
end Qp
namespace Qp
open PySem L2 PySem.W
section
variable {P : Program} {w : World} {K : PySem.W.Frag} {mg : Str → Option Value} {base : Heap}
/-- check_size(group, most) -/
def spCS (C CM : Addr) : Sp := fun vs H Q E => ∃ (p : Addr) (m : Int) (ns : List Str) (ws : Str → List Str), vs = [.ref p, .int m] ∧ GroupAt C H p ns ws ∧ ns.length ≤ 16 ∧ ((ns.length : Int) ≤ m → Q .non H) ∧ (m < (ns.length : Int) → Leaves CM "most" (.int m) H E)
/-- calm(group) -/
def spCalm (C CM : Addr) : Sp := fun vs H Q E => ∃ (p : Addr) (ns : List Str) (ws : Str → List Str), vs = [.ref p] ∧ GroupAt C H p ns ws ∧ Nm ns ∧ (∀ a ∈ ns, GRow ns a (ws a)) ∧
  (ns.length ≤ 10 → ∀ l H' ys bs, Same H H' → H l = none → H' l = some (.lst ys) → PTs H' ys bs → (∀ ss, ss.Perm ns → PyProof.Rows.sortedS ss = true → bs = sorted9 (cfR ws 10 ns [] f0) ss) → Q (.ref l) H') ∧ (10 < ns.length → Leaves CM "most" (.int 10) H E)
/-- count(group) -/
def spCount (C CM : Addr) : Sp := fun vs H Q E => ∃ (p : Addr) (ns : List Str) (ws : Str → List Str), vs = [.ref p] ∧ GroupAt C H p ns ws ∧ Nm ns ∧ (∀ a ∈ ns, GRow ns a (ws a)) ∧
  (ns.length ≤ 10 → ∀ H' n, Same H H' → (∀ ss, ss.Perm ns → PyProof.Rows.sortedS ss = true → n = (sorted9 (cfR ws 10 ns [] f0) ss).length) → Q (.int (n : Nat)) H') ∧ (10 < ns.length → Leaves CM "most" (.int 10) H E)
/-- first(group) -/
def spFirst (C CM : Addr) : Sp := fun vs H Q E => ∃ (p : Addr) (ns : List Str) (ws : Str → List Str), vs = [.ref p] ∧ GroupAt C H p ns ws ∧ Nm ns ∧ (∀ a ∈ ns, GRow ns a (ws a)) ∧
  (ns.length ≤ 10 → ∀ H' bs, Same H H' → (∀ ss, ss.Perm ns → PyProof.Rows.sortedS ss = true → bs = sorted9 (cfR ws 10 ns [] f0) ss) → (bs = [] → Q .non H') ∧ ∀ b r x, bs = b :: r → PT H' x b → Q x H') ∧ (10 < ns.length → Leaves CM "most" (.int 10) H E)
end
end Qp
/-! for x in xs: body, in a generator def, the body may hand out -/
namespace L2
open PySem PySem.Spec PyProof.Rows GenW
section
variable {M : Model} {A : Around} {R : GenEnd} {Y : Protocol} {n : Nat} {s₀ : Shared} {c : Code} {fs : List Frame} {s : Shared} {env : Env}
  {K : Flow → Sem PySem.Fin} {J : Value → Sem PySem.Fin} {gd : Bool → Bool} {lv : List Value → List Value}
theorem seg_For {target iter : Expr} {body orelse : List Stmt} {pos : Pos}
    (h : wpAny M (A.over c fs) (eval iter env) (fun x s1 => wpAny M (A.over c fs) (pyIter x) (fun it s2 => ∀ p, Seg M A R Y n s₀ (.forLoop target it body orelse env) (M.den (.forLoop target it body orelse env))
      (.ret (fun r => ((match r with | .ok f => (.pure f : Sem Flow) | .error e => .raise e).onRaise (cameBack env)).wrap K J gd lv) none (gd false) (lv []) c p [] :: fs) s2) (fun x s' => Seg M A R Y n s₀ c (J x) fs s') s1) (fun x s' => Seg M A R Y n s₀ c (J x) fs s') s)
    (hs : ∀ x, foldedSetIterable iter env x = pure x := by intro _; rfl) :
    Seg M A R Y n s₀ c ((exec (.For target iter body orelse pos) env).wrap K J gd lv) fs s := by
  rw [exec_For]
  refine seg_bind_wrap (wpAny_standAt ?_)
  refine seg_bind_wrap (wpAny_mono h (fun x s1 h1 => ?_) fun _ _ q => q)
  refine seg_bind_wrap (wpAny_of_eq (hs x) ?_)
  refine seg_bind_wrap (wpAny_standAt ?_)
  refine seg_bind_wrap (wpAny_holding (wpAny_mono h1 (fun it s2 h2 => ?_) fun _ _ q => q))
  exact seg_call h2
end
/-- what a loop's code does with an exception -/
def noted (env : Env) (x : Value) : Sem PySem.Fin := (do noteFrame x env; theTreesLotGoes x : Sem Unit).wrap (fun _ => .raise x) .raise id id
section
variable {prog : Program} {w : World} {A : Around} {R : GenEnd} {Y : Protocol} {n : Nat} {s₀ : Shared} {fs : List Frame} {s : Shared} {env : Env}
theorem seg_forLoop {target : Expr} {it : Value} {body : List Stmt}
    (h : wpAny (model prog w) (A.over (.forLoop target it body [] env) fs) (pyNext it) (fun r s1 => match r with
        | none => Seg (model prog w) A R Y n s₀ (.block [] env) ((model prog w).den (.block [] env)) fs s1
        | some v => wpAny (model prog w) (A.over (.forLoop target it body [] env) fs) (letOwnedTupleGo target it v) (fun _ s2 => wpAny (model prog w) (A.over (.forLoop target it body [] env) fs) (assign target env v) (fun _ s3 =>
            Seg (model prog w) A R Y n s₀ (.forLoop target it body [] env) ((execs body env).wrap (fun f => match f with
              | .next | .cont => .pure (.again (.forLoop target it body [] env))
              | .brk => .pure (.done .next)
              | .ret v => .pure (.done (.ret v))) (noted env) id id) fs s3)
            (fun x s' => Seg (model prog w) A R Y n s₀ (.forLoop target it body [] env) (noted env x) fs s') s2) (fun x s' => Seg (model prog w) A R Y n s₀ (.forLoop target it body [] env) (noted env x) fs s') s1)
      (fun x s' => Seg (model prog w) A R Y n s₀ (.forLoop target it body [] env) (noted env x) fs s') s) :
    Seg (model prog w) A R Y n s₀ (.forLoop target it body [] env) ((model prog w).den (.forLoop target it body [] env)) fs s := by
  show Seg _ A R Y n s₀ _ ((forTurn target it body [] env).onRaise (fun x => do noteFrame x env; theTreesLotGoes x)) fs s
  have he : ∀ x, ((do noteFrame x env; theTreesLotGoes x : Sem Unit).bind fun _ => (Sem.raise x : Sem PySem.Fin)) = noted env x := fun x => by
    unfold noted
    exact Sem.bind_eq_wrap _ _
  have hw : (forTurn target it body [] env).onRaise (fun x => do noteFrame x env; theTreesLotGoes x) = (forTurn target it body [] env).wrap .pure (noted env) id id := by
    rw [Sem.onRaise_eq_wrap]
    exact Sem.wrap_congr _ _ _ (fun _ => rfl) (fun x => he x)
  rw [hw]
  unfold forTurn
  refine seg_bind_wrap (wpAny_standAt ?_)
  refine seg_bind_wrap (wpAny_onRaise (wpAny_mono h (fun r s1 h1 => ?_) fun x s' hx => wpAny_standAt hx))
  cases r with
  | none => exact seg_again rfl h1
  | some v =>
    refine seg_bind_wrap (wpAny_mono h1 (fun _ s2 h2 => ?_) fun _ _ q => q)
    refine seg_bind_wrap (wpAny_mono h2 (fun _ s3 h3 => ?_) fun _ _ q => q)
    rw [Sem.bind_eq_wrap', Sem.wrap_wrap]
    rw [Sem.wrap_congr (execs body env) _ _ (K' := fun f => match f with
            | .next | .cont => .pure (.again (.forLoop target it body [] env))
            | .brk => .pure (.done .next)
            | .ret v => .pure (.done (.ret v))) (H' := noted env) (fun f => by cases f <;> rfl) (fun e => (rfl : Sem.wrap Sem.pure (noted env) id id (Sem.raise e : Sem PySem.Fin) = noted env e))]
    exact h3
theorem seg_block_nil (h : Seg (model prog w) A R Y n s₀ (.block [] env) (leafOf (.ok .next)) fs s) : Seg (model prog w) A R Y n s₀ (.block [] env) ((model prog w).den (.block [] env)) fs s := h
end
section
variable {X : Cx}
/-- for, in a generator def; the list: what is out so far -/
def tGFor (wi : TI) (g : TG) (tb : TGn) : TGn := fun D ys σ H => wi σ H fun J H1 => ∃ W : Nat → Nat → List V → St → Hp → Prop, (∃ m, W 0 m ys σ H1) ∧ ∀ i m ys σ H, W i m ys σ H →
  (J.stop i H ∧ D.nx ys σ H) ∨ (J.go i H ∧ ∃ N : List V → St → Hp → Prop, (∀ ys' σ' H', N ys' σ' H' → ∃ m', m' < m ∧ W (i + 1) m' ys' σ' H') ∧ ∀ x H', J.yld i H x H' → g x σ H' fun σ2 H2 => tb { D with nx := N, ct := N, bk := D.nx } ys σ2 H2)
theorem gs_for {iter tg : Expr} {body : List Stmt} {wi : TI} {g : TG} {tb : TGn} {pos : Pos} (hp : PassesOwn (model X.prog X.w) X.A X.env X.xe) (hc : X.calm = true) (hi : PI X tg iter wi) (hg : PG X tg g) (hb : GSs X body tb)
    (hs : ∀ x, foldedSetIterable iter X.env x = pure x := by intro _; rfl) : GS X (.For tg iter body [] pos) (tGFor wi g tb) := by
  refine ⟨fun A S ip R n ys s₀ c fs K J gd lv s σ H D gc hn k hI ht => ?_⟩
  obtain ⟨acc0, cc0, r0, I0⟩ := hI
  refine seg_For ?_ hs
  rw [gc.over]
  refine wpAny_mono (hi.run _ s σ H _ I0 ht) (fun v s1 h1 => ?_) fun x s' hx => k.exc n s₀ x s' hx
  refine wpAny_mono h1 (fun itv s2 h2 => ?_) fun x s' hx => k.exc n s₀ x s' hx
  obtain ⟨it, fp, tn, Jt, H2, e, I2, T, st2, f2, W, ⟨m0, w0⟩, turn⟩ := h2
  subst e
  intro p
  have gl := fun (kk : Result → Sem PySem.Fin) => gc_loop (k := kk) (c' := .forLoop tg (.ref it) body [] X.env) (l := lv []) (kp := []) (p := p) gc rfl rfl
  have fpS : ∀ b ∈ fp, b ≠ S := fun b hb z => by
    have := (f2 b hb).2.2.2.2.2 (S, lstObj acc0 cc0) (List.mem_append_right _ List.mem_cons_self)
    exact this z.symm
  have fpI : ∀ b ∈ fp, ∀ q ∈ X.pn ++ ip, q.1 ≠ b := fun b hb q hq => (f2 b hb).2.2.2.2.2 q (by
    rcases List.mem_append.mp hq with h | h
    · exact List.mem_append_left _ h
    · exact List.mem_append_right _ (List.mem_cons_of_mem _ h))
  have stat : ∀ {acc : Array Value} {cc : Nat} {H' : Hp}, (∀ b ∈ fp, H' b = none) → ∀ b ∈ fp, FpOk X ((S, lstObj acc cc) :: ip) H' b := fun {acc cc H'} hn b hb => by
    refine ⟨hn b hb, (f2 b hb).2.1, (f2 b hb).2.2.1, (f2 b hb).2.2.2.1, (f2 b hb).2.2.2.2.1, fun q hq => ?_⟩
    rcases List.mem_append.mp hq with h | h
    · exact fpI b hb q (List.mem_append_left _ h)
    · rcases List.mem_cons.mp h with h | h
      · rw [h]
        exact fun z => fpS b hb z.symm
      · exact fpI b hb q (List.mem_append_right _ h)
  have loop : ∀ (m n i : Nat) (ys : List V) (s₀ s : Shared) (σ : St) (H : Hp), n + ys.length = sizeLine → W i m ys σ H → GI X S ip ys σ H s → tn i s.heap → (∀ b ∈ fp, H b = none) →
      Seg (model X.prog X.w) A R (GY X S) n s₀ (.forLoop tg (.ref it) body [] X.env) ((model X.prog X.w).den (.forLoop tg (.ref it) body [] X.env))
        (.ret (fun r => ((match r with | .ok f => (.pure f : Sem Flow) | .error e => .raise e).onRaise (cameBack X.env)).wrap K J gd lv) none (gd false) (lv []) c p [] :: fs) s := by
    intro m
    induction m using Nat.strongRecOn with
    | ind m ih =>
      intro n i ys s₀ s σ H hn w hI st3 fr3
      have ee : ∀ (n : Nat) (s₀ : Shared) (x : Value) (s' : Shared), X.xe x s' → Seg (model X.prog X.w) A R (GY X S) n s₀ (.forLoop tg (.ref it) body [] X.env)
          (noted X.env x)
          (.ret (fun r => ((match r with | .ok f => (.pure f : Sem Flow) | .error e => .raise e).onRaise (cameBack X.env)).wrap K J gd lv) none (gd false) (lv []) c p [] :: fs) s' := fun n s₀ x s' hx => by
        refine seg_wrap ?_
        rw [(gl _).over]
        refine wpAny_bind (wpAny_mono (hp x s' hx) (fun _ s'' hcb => wpAny_theTreesLotGoes ?_) fun y s'' hcb => ?_)
        · exact seg_leaf (.error x) (seg_cameBack gc k hcb)
        · exact seg_leaf (.error y) (seg_cameBack gc k hcb)
      refine seg_forLoop ?_
      rw [(gl _).over]
      obtain ⟨acc, cc, r, I3⟩ := hI
      rcases turn i m ys σ H w with ⟨stop, qn⟩ | ⟨go, N, hN, step⟩
      · refine wpAny_mono (T.done X rfl rfl rfl hc i _ s σ H X.xe I3 (stat fr3) st3 stop) (fun rr s4 ⟨hr, I4⟩ => ?_) fun x s' hx => ee n s₀ x s' hx
        subst hr
        exact seg_block_nil (seg_leaf (.ok .next) (k.ok n ys s₀ s4 .next hn ⟨σ, H, ⟨acc, cc, r, I4⟩, qn⟩))
      · refine wpAny_mono (T.item X rfl rfl rfl hc i _ s σ H X.xe I3 (stat fr3) st3 go) (fun rr s4 ⟨u, hr, h4⟩ => ?_) fun x s' hx => ee n s₀ x s' hx
        subst hr
        refine wpAny_mono h4 (fun _ s5 ⟨x, H5, I5, r5, y5, st5, fr5⟩ => ?_) fun x s' hx => ee n s₀ x s' hx
        have I5' := I5.pinned (stat fr5) (T.obj _ _ st5)
        refine wpAny_mono (hg.run _ s5 σ H5 x u _ I5' r5 (step x H5 y5)) (fun _ s6 ⟨σ6, H6, I6, q6⟩ => ?_) fun x s' hx => ee n s₀ x s' hx
        have gl2 : ∀ kk : Result → Sem PySem.Fin, GC X S (ip ++ pinsAt fp s5.heap) A (.forLoop tg (.ref it) body [] X.env) (.ret kk none (gd false) (lv []) c p [] :: fs) id := fun kk =>
          ⟨gc.pn, fun q hq => by
            rcases List.mem_append.mp hq with h | h
            · exact gc.ip q h
            · exact fpS _ (of_pinsAt h).1, gc.apart, (gl kk).over, (gl kk).split, (gl kk).guard, (gl kk).gd⟩
        have back : ∀ {ys' : List V} {σ7 : St} {H7 : Hp} {s7 : Shared}, GI X S (ip ++ pinsAt fp s5.heap) ys' σ7 H7 s7 → GI X S ip ys' σ7 H7 s7 ∧ tn (i + 1) s7.heap ∧ ∀ b ∈ fp, H7 b = none := fun {ys' σ7 H7 s7} hI7 => by
          obtain ⟨acc7, cc7, r7, I7⟩ := hI7
          have pin7 : ∀ b ∈ fp, ∀ o, s5.heap.get? b = some o → s7.heap.get? b = some o ∧ H7 b = none := fun b hb o e => by
            have := I7.pin (b, o) (List.mem_append_right _ (List.mem_cons_of_mem _ (List.mem_append_right _ (mem_pinsAt hb e))))
            exact ⟨this.1, this.2.1⟩
          refine ⟨⟨acc7, cc7, r7, I7.pins_of fun q hq => I7.pin q (List.mem_append_right _ ?_)⟩, T.keep _ _ _ st5 fun b hb o e => (pin7 b hb o e).1, fun b hb => ?_⟩
          · rcases List.mem_cons.mp hq with h | h
            · rw [h]; exact List.mem_cons_self
            · exact List.mem_cons_of_mem _ (List.mem_append_left _ h)
          · obtain ⟨o, e, _⟩ := T.obj _ _ st5 b hb
            exact (pin7 b hb o e).2
        refine hb.run A S (ip ++ pinsAt fp s5.heap) R n ys s₀ _ _ _ _ id id s6 σ6 H6 { D with nx := N, ct := N, bk := D.nx } (gl2 _) hn ⟨fun n' ys' s₀' s7 f hn' hs7 => ?_, fun n' s₀' x s7 hx => ee n' s₀' x s7 hx⟩ ⟨acc, cc, r, I6⟩ q6
        cases f with
        | next =>
          obtain ⟨σ7, H7, I7, n7⟩ := hs7
          obtain ⟨m', hm, w7⟩ := hN ys' σ7 H7 n7
          obtain ⟨b1, b2, b3⟩ := back I7
          exact seg_again rfl (ih m' hm n' (i + 1) ys' s₀' s7 σ7 H7 hn' w7 b1 b2 b3)
        | cont =>
          obtain ⟨σ7, H7, I7, n7⟩ := hs7
          obtain ⟨m', hm, w7⟩ := hN ys' σ7 H7 n7
          obtain ⟨b1, b2, b3⟩ := back I7
          exact seg_again rfl (ih m' hm n' (i + 1) ys' s₀' s7 σ7 H7 hn' w7 b1 b2 b3)
        | brk =>
          obtain ⟨σ7, H7, I7, q7⟩ := hs7
          exact seg_leaf (.ok .next) (k.ok n' ys' s₀' s7 .next hn' ⟨σ7, H7, (back I7).1, q7⟩)
        | ret v =>
          obtain ⟨x7, σ7, H7, I7, r7, q7⟩ := hs7
          exact seg_leaf (.ok (.ret v)) (k.ok n' ys' s₀' s7 (.ret v) hn' ⟨x7, σ7, H7, (back I7).1, r7, q7⟩)
  exact loop m0 n 0 ys s₀ s2 σ H2 hn w0 ⟨acc0, cc0, r0, I2⟩ st2 fun b hb => (f2 b hb).1
end
end L2
namespace L2
open PySem PySem.Spec PyProof.Rows
/-- a for over it in a generator def: Pv by the turn, what is out, the slots and the heap -/
theorem gfor_it {J : It} {n : Nat} {G : Hp → Prop} {Y : Nat → Hp → V → Hp → Prop} (w : Walk J n G Y) {g : TG} {tb : TGn} {D : GEnds} {ys : List V} {σ : St} {H : Hp} (Pv : Nat → List V → St → Hp → Prop) (h0 : Pv 0 ys σ H) (hG : ∀ i ys σ H, i ≤ n → Pv i ys σ H → G H)
    (hs : ∀ i x ys σ H H', i < n → Pv i ys σ H → Y i H x H' → g x σ H' fun σ2 H2 => tb { D with nx := Pv (i + 1), ct := Pv (i + 1), bk := D.nx } ys σ2 H2) (hd : ∀ ys σ H, Pv n ys σ H → D.nx ys σ H) :
    ∃ W : Nat → Nat → List V → St → Hp → Prop, (∃ m, W 0 m ys σ H) ∧ ∀ i m ys σ H, W i m ys σ H →
      (J.stop i H ∧ D.nx ys σ H) ∨ (J.go i H ∧ ∃ N : List V → St → Hp → Prop, (∀ ys' σ' H', N ys' σ' H' → ∃ m', m' < m ∧ W (i + 1) m' ys' σ' H') ∧ ∀ x H', J.yld i H x H' → g x σ H' fun σ2 H2 => tb { D with nx := N, ct := N, bk := D.nx } ys σ2 H2) := by
  refine ⟨fun i m ys σ H => m = n - i ∧ i ≤ n ∧ Pv i ys σ H, ⟨n, by simp, Nat.zero_le _, h0⟩, ?_⟩
  rintro i m ys σ H ⟨rfl, hi, p⟩
  have q := hG i ys σ H hi p
  by_cases hlt : i < n
  · exact .inr ⟨w.goes i H hlt q, Pv (i + 1), fun ys' σ' H' p' => ⟨n - (i + 1), by omega, rfl, hlt, p'⟩, fun x H' y => hs i x ys σ H H' hlt p (w.yields i H x H' hlt q y)⟩
  · have e : i = n := by omega
    subst e
    exact .inl ⟨w.stops H q, hd ys σ H p⟩
/-- a generator def's promise and how it is called -/
structure CFG (P : Program) (w : World) (K : PySem.W.Frag) (mg : Str → Option Value) (base : Heap) (k : Nat) (x : Str) (ps : List Str) (sp : SpG) : Prop where
  ex : ∃ (f : Addr) (fd : FuncData), GFn P w K mg base k f fd ps sp ∧ mg x = some (.ref f) ∧ PySem.W.keepIn K (.ref f) = true ∧ Binds K fd ps []
theorem Fun.gok {P : Program} {w : World} {K : PySem.W.Frag} {mg : Str → Option Value} {base : Heap} {x qual : Str} {st : Stmt} {f : Addr} {fd : FuncData} {N ps : List Str} {k : Nat} {sp : SpG} (F : Fun K x qual st f fd) (S : GScope N ps (defScope st)) (len : ∀ vs H Q E, sp vs H Q E → vs.length = ps.length)
    (hbody : ∀ (cdv : Value) (A : Around) (outer : List Env) (s : Shared) (H : Hp) (vs : List V) (Q : List V → Hp → Prop) (E : XK) (pn : List (Addr × Obj)), Room k (A.deeper (envOfC qual (defScope st) s.heap.objs.size f cdv)) → sp vs H Q E →
      ∃ t, GSs (gcxOf P w K mg base N qual (defScope st) f cdv A outer s H E pn) (defBody st) t ∧ t { nx := fun ys _ H' => Q ys H', rt := fun ys v H' => v = .non ∧ Q ys H' } [] (start N vs) H) : GFn P w K mg base (k + 1) f fd ps sp := by
  obtain ⟨oc, od, kV, doc, pm, an, cdv, ct, osl, rfl, lk, hcd⟩ := F.ex
  exact gfn_of lk hcd S len fun A outer s H vs Q E pn hr hsp => hbody cdv A outer s H vs Q E pn hr hsp
end L2
namespace Qp
open PySem L2 PySem.W
section
variable {P : Program} {w : World} {K : PySem.W.Frag} {mg : Str → Option Value} {base : Heap}
theorem rising_of : ∀ {p : Str} {ss : List Str}, (∀ y ∈ ss, leS p y) → ss.Pairwise leS → PyProof.Rows.risingS p ss = true
  | _, [], _, _ => rfl
  | p, x :: r, h, hp => by
    obtain ⟨h1, h2⟩ := List.pairwise_cons.mp hp
    have ih := rising_of (p := x) (ss := r) h1 h2
    have hx : leS p x := h x List.mem_cons_self
    show (!PySem.Spec.ltCps x.cps.toList p.cps.toList && PyProof.Rows.risingS x r) = true
    rw [ih, PyProof.Rows.ltCps_eq]
    have e : ¬ (x.cps.toList < p.cps.toList) := List.not_lt.mpr hx
    simp [e]
def leB (a b : Str) : Bool := decide (a.cps.toList ≤ b.cps.toList)
theorem sort_ex (ns : List Str) : ∃ ss : List Str, ss.Perm ns ∧ PyProof.Rows.sortedS ss = true := by
  have tr : ∀ a b c : Str, leB a b = true → leB b c = true → leB a c = true := fun a b c h1 h2 => by
    unfold leB at *
    exact decide_eq_true (List.le_trans (of_decide_eq_true h1) (of_decide_eq_true h2))
  have tot : ∀ a b : Str, (leB a b || leB b a) = true := fun a b => by
    unfold leB
    rw [Bool.or_eq_true, decide_eq_true_iff, decide_eq_true_iff]
    exact List.le_total _ _
  have hp := List.pairwise_mergeSort tr tot ns
  refine ⟨_, List.mergeSort_perm ns leB, ?_⟩
  have hp : (ns.mergeSort leB).Pairwise leS := hp.imp fun h => of_decide_eq_true h
  generalize ns.mergeSort leB = l at hp
  cases l with
  | nil => rfl
  | cons x r =>
    obtain ⟨h1, h2⟩ := List.pairwise_cons.mp hp
    exact rising_of h1 h2
/-- a dict of a dealing, new behind H -/
def DN (H H' : Hp) (ns : List Str) (y : V) (b : List (Str × Str)) : Prop := ∃ t, y = V.ref t ∧ H t = none ∧ H' t = some (.dK (okv ns (run2 f0 b)))
theorem DN.same {H H' H2 : Hp} (s : Same H' H2) {ns : List Str} {y : V} {b : List (Str × Str)} (h : DN H H' ns y b) : DN H H2 ns y b := by
  obtain ⟨t, e, h1, h2⟩ := h
  exact ⟨t, e, h1, s _ _ h2⟩
/-- each_calm(group) -/
def spEach (C CM : Addr) : SpG := fun vs H Q E => ∃ (p : Addr) (ns : List Str) (ws : Str → List Str), vs = [.ref p] ∧ GroupAt C H p ns ws ∧ Nm ns ∧ (∀ a ∈ ns, GRow ns a (ws a)) ∧
  (ns.length ≤ 10 → ∀ ys H' bs, Same H H' → EachIs (DN H H' ns) ys bs → (∀ ss, ss.Perm ns → PyProof.Rows.sortedS ss = true → bs = sorted9 (cfR ws 10 ns [] f0) ss) → Q ys H') ∧ (10 < ns.length → Leaves CM "most" (.int 10) H E)
theorem mem_s9 {ns ss : List Str} {ws : Str → List Str} (nn : Nm ns) (gg : ∀ a ∈ ns, GRow ns a (ws a)) (hl : ns.length ≤ 10) (hss : ss.Perm ns) (hso : PyProof.Rows.sortedS ss = true) {b : List (Str × Str)} (hb : b ∈ sorted9 (cfR ws 10 ns [] f0) ss) : ∃ g, Dl ns ws g ∧ calB ns ws g = true ∧ Wr ns g b := by
  have hb := (List.mergeSort_perm _ _).mem_iff.mp hb
  obtain ⟨r, hr, rfl⟩ := List.mem_map.mp hb
  obtain ⟨D, c⟩ := (cf_iff gg nn.nd (List.Perm.refl ns) hl).mp (List.mem_map.mpr ⟨r, hr, rfl⟩)
  exact ⟨r.2, D.dl, c, wr_direct hss hso nn.nd⟩
end
end Qp
namespace L2
open PySem PySem.Spec PyProof.Rows
theorem PSs.imp {X : Cx} {st : List Stmt} {t t' : TS} (h : PSs X st t) (im : ∀ D σ H, t' D σ H → t D σ H) : PSs X st t' := ⟨fun pins s σ H D I q => h.run pins s σ H D I (im _ _ _ q)⟩
section
variable {X : Cx} {k : Nat} {f : Addr} {fd : FuncData} {ps : List Str} {sp : SpG} {x : Str} {p pos p' pos' : Pos}
/-- list(f(e, ..)), f a generator def; what it leaves may hang on the slots -/
theorem pe_listGS {E : St → XK} {nm : Str} {e : Expr} {es : List Expr} {t : TA} (c : CFG X.prog X.w X.K X.mg X.base k x ps sp) (hr : Room (k + 3) X.A) (hx : ∀ σ, PassesAt (CX X.prog X.w) X σ (E σ)) (hns : ∀ σ, NoStop X.K (E σ)) (hg : Gl X x) (ha : PA X (e :: es) t)
    (hgl : Gl X nm) (hmg : X.mg nm = none) (hv : bootBuiltins nm = some (.type "list")) (hnm : nm ≠ "__name__" := by decide) (hdbl : (nm == ("__debug__" : Str)) = false := by decide)
    (hdb : (x == ("__debug__" : Str)) = false := by decide) (he : starEach (e :: es) X.env = (false, eval e X.env) :: starEach es X.env := by rfl) (hpl : (backTo pos' (starEach es X.env)).any (·.1) = false := by rfl)
    (hel : starEach [.Call (.Name x p') (e :: es) [] pos'] X.env = (false, eval (.Call (.Name x p') (e :: es) [] pos') X.env) :: starEach [] X.env := by rfl) :
    PE X (.Call (.Name nm p) [.Call (.Name x p') (e :: es) [] pos'] [] pos) (tListG (fun σ H cont => t σ H fun vs H1 => sp vs H1 cont (E σ))) := by
  obtain ⟨f, fd, F, hm, hk, hb⟩ := c.ex
  refine ⟨fun pins s σ H Q I hq => ?_⟩
  refine wpAny_Call_Name_kw (ld_blt I hgl hmg hv ?_ hnm hdbl)
  refine PyProof.Rows.callWith_type1 ?_ hel rfl
  rw [hel]
  show wpAny _ _ (spliced ((false, eval (.Call (.Name x p') (e :: es) [] pos') X.env) :: backTo pos (starEach [] X.env))) _ _ s
  have hgen : wpAny (model X.prog X.w) X.A (eval (.Call (.Name x p') (e :: es) [] pos') X.env) (fun u s' => ∃ H1 sc ex, Inv X pins σ H1 sc ∧ ExOk X pins ex ∧ GMade X.prog X.w k X.stack H1 sc ex (fun out H2 => ∀ p, H2 p = none → Q (.ref p) (upd H2 p (.lst out))) (E σ) u s') X.xe s := by
    refine wpAny_Call_Name_kw (ld_glob I hg hm ?_ hdb)
    refine PySem.W.callWith_K (h₀ := X.base) I.ok.mod.kin hk (thn (ha.run pos' pins s σ H _ I hq) fun us s1 ⟨vs, H1, I1, r, q⟩ => ⟨I1.kIn, ?_⟩) he hpl
    exact run_gfn F (Room.mono hr (by omega)) hb .nil I1 r (by rw [List.append_nil]; exact q)
  refine Calls.spliced_cons (thn hgen fun u s1 ⟨H1, sc, ex, I1, hex, hG⟩ => ?_)
  refine Calls.spliced_nil ?_
  have hsz : sc.heap.objs.size ≤ s1.heap.objs.size := by
    obtain ⟨a, g, c, _, h1, h2, _⟩ := hG
    exact Nat.le_trans h1 (Nat.le_of_lt h2)
  refine call_list_new hr I1.ok.frames hG (fun S s' acc c H' ys q0 q1 q2 hl q3 q4 q5 q6 q7 q8 => ?_) fun e s' g hc => ?_
  · exact ⟨.ref S, upd H' S (.lst ys), I1.drained (Nat.le_trans hsz q0) hl q1 q2 hex q3 q4 q5 q6 q7, rfl, q8 S q7⟩
  · have kin : X.K.In s'.heap := by
      obtain ⟨a, B, H', cls, d, _, fl, _, ub, _⟩ := id hc
      refine I1.ok.mod.kin.keeps fun b o eb => fl.1 b o (ub.keep b o (I1.bs b o eb).1 (I1.bs b o eb).2 fun hm => ?_)
      rcases List.mem_cons.mp (I1.stkSub b hm) with z | z
      · have h1 := Heap.lt_size eb
        have h2 := Nat.le_trans I1.ok.bsz I1.ok.above
        rw [z] at h1
        exact absurd (Nat.lt_of_lt_of_le h1 h2) (Nat.lt_irrefl _)
      · exact I1.ok.nofr eb z
    refine ⟨notStop_of (hns σ) kin hc, hx σ pins H1 sc e _ I1 ?_⟩
    · obtain ⟨a, B, H', cls, d, z1, fl, z2, ub, z3, z4, z5, z6⟩ := hc
      exact ⟨a, B, H', cls, d, z1, fl, z2, ub, z3, z4, allBare_setGen z5 rfl, z6⟩
theorem passAtC {X : Cx} {W : WX} {C : Value} (tk : Takes X W) (σ : St) : PassesAt (L2.CX X.prog X.w) X σ (fun cls d H => cls = C ∧ W cls d σ H) := fun _ _ _ e s' I c => tk e s' (XE.of_call I (fun _ _ _ h => h.2) c)
end
end L2
namespace Qp
open PySem L2
/-- the law's way, what quarrels left out at once -/
def lgR (ws : Str → List Str) : Nat → List Str → List Str → Fn → List (List Str × Fn) := en (okB ws) (chL ws)
section
variable {ns : List Str} {ws : Str → List Str} (gg : ∀ a ∈ ns, GRow ns a (ws a))
include gg
theorem lg_iff (nd : ns.Nodup) {fr : List Str} (p : fr.Perm ns) {n : Nat} (h : fr.length ≤ n) {g : Fn} : g ∈ (lgR ws n fr [] f0).map (·.2) ↔ FinD ns ws g ∧ calB ns ws g = true := by
  have S := st0_start (ws := ws) nd p
  constructor
  · intro hg
    obtain ⟨q, hq, rfl⟩ := List.mem_map.mp hg
    obtain ⟨h1, h2, _⟩ := en_out gg (hchL gg) (T := fun qs f => ∀ z ∈ qs, quB ws qs f z = true) (t1P gg) S (fun _ h => by cases h) q hq
    exact ⟨finD_of h1, calB_of gg nd h1 h2⟩
  · rintro ⟨D, c⟩
    unfold calB at c
    rw [List.all_eq_true] at c
    exact en_in gg (hchL gg) (G := fun g => ∀ z ∈ ns, quB ws ns g z = true) (t2P gg) S h D c (fun _ h => by cases h)
end
/-- who is dealt with has an open partner or none -/
def Pre (ns : List Str) (ws : Str → List Str) (qs : List Str) (f : Fn) : Prop := (∀ z ∈ qs, z ∈ ns) ∧ ∀ c ∈ qs, f c = none ∨ ∃ h, f c = some h ∧ h ∈ opn ws c
theorem rt_abO {ws : Str → List Str} {f : Fn} {a b : Str} (hb : b ∈ opn ws a) : rt ws a b (oV (f a)) = decide (b ∈ abO ws f a) := by
  unfold abO
  cases e : f a with
  | none => exact (decide_eq_true hb).symm
  | some h => exact decide_eq_decide.mpr (mem_take_idx hb).symm
/-- c speaks against a's value -/
def badC (ws : Str → List Str) (qs : List Str) (f : Fn) (a c : Str) : Bool := decide (c ∈ qs) && (decide (c ∈ abO ws f a) && decide (a ∈ abO ws f c))
theorem quB_bad {ws : Str → List Str} {qs : List Str} {f : Fn} {a : Str} : quB ws qs f a = (opn ws a).all fun c => !badC ws qs f a c := by
  rw [Bool.eq_iff_iff, quB_iff, List.all_eq_true]
  constructor
  · intro h c hc
    unfold badC
    by_cases c1 : c ∈ qs
    · by_cases c2 : c ∈ abO ws f a
      · rw [decide_eq_false (h c c2 c1), Bool.and_false, Bool.and_false]
        rfl
      · rw [decide_eq_false c2, Bool.false_and, Bool.and_false]
        rfl
    · rw [decide_eq_false c1, Bool.false_and]
      rfl
  · intro h b hb hq ha
    have := h b (abO_sub hb)
    unfold badC at this
    rw [decide_eq_true hq, decide_eq_true hb, decide_eq_true ha] at this
    cases this
section
variable {P : Program} {w : World} {K : PySem.W.Frag} {mg : Str → Option Value} {base : Heap}
/-- _law_fits(mutual, x, a) -/
def spLFits : Sp := fun vs H Q _ => ∃ (M d : Addr) (a : Str) (ns qs : List Str) (ws : Str → List Str) (f : Fn), vs = [.ref M, .ref d, .str a] ∧ RowsG H M ns (fun z => lstO (opn ws z)) ∧ H d = some (.dK (okv qs f)) ∧ (∀ a ∈ ns, GRow ns a (ws a)) ∧ Pre ns ws qs f ∧ a ∈ qs ∧ Q (.bl (quB ws qs f a)) H
end
end Qp
namespace Qp
open PySem L2 PySem.W
def ifB (b : List Stmt) (i : Nat) : List Stmt := match b.getD i (.Pass ⟨0, 0, 0, 0⟩) with
  | .If _ b _ _ => b
  | _ => []
/-- the heap without one place -/
def cutF (F : Addr) (H : Hp) : Hp := fun b => if b = F then none else H b
theorem cutF_at {F : Addr} {H : Hp} {b : Addr} {o : HO} (h : cutF F H b = some o) : b ≠ F ∧ H b = some o := by
  unfold cutF at h
  by_cases e : b = F
  · rw [if_pos e] at h; cases h
  · rw [if_neg e] at h; exact ⟨e, h⟩
theorem cutF_of {F : Addr} {H : Hp} {b : Addr} {o : HO} (n : b ≠ F) (h : H b = some o) : cutF F H b = some o := by
  unfold cutF
  rw [if_neg n]
  exact h
theorem cutF_sub {F : Addr} {H : Hp} : Same (cutF F H) H := fun b o h => (cutF_at h).2
theorem cutF_but {F : Addr} {H H' : Hp} (s : SameBut F H H') : Same (cutF F H) (cutF F H') := fun b o h => by
  obtain ⟨n, e⟩ := cutF_at h
  exact cutF_of n (s _ _ n e)
theorem cutF_new {F : Addr} {H : Hp} (h : H F = none) : Same H (cutF F H) := fun b o e => cutF_of (fun z => by rw [z, h] at e; cases e) e
section
variable {P : Program} {w : World} {K : PySem.W.Frag} {mg : Str → Option Value} {base : Heap}
theorem DsL.but4 {H H' : Hp} {F : Addr} {ys : List V} {xs : List V} {rs : List (List Str × Fn)} (h : DsL H xs rs) (s : SameBut F H H') (hF : H F = some (.lst ys)) : DsL H' xs rs := EachIs.mono (fun _ _ ⟨t, e, q⟩ => ⟨t, e, s _ _ (fun z => by rw [z, hF] at q; cases q) q⟩) h
/-- _law_grow_calm(mutual, order, x, found), at most n waiting people -/
def spGC (n : Nat) : Sp := fun vs H Q _ => ∃ (M O d Fd : Addr) (ns ord qs : List Str) (ws : Str → List Str) (f : Fn) (xs : List V), vs = [.ref M, .ref O, .ref d, .ref Fd] ∧ RowsG (cutF Fd H) M ns (fun z => lstO (opn ws z)) ∧ Nm ns ∧ (∀ a ∈ ns, GRow ns a (ws a)) ∧ cutF Fd H O = some (lstO ord) ∧ ord.Perm ns ∧ cutF Fd H d = some (.dK (okv qs f)) ∧
  St0 ns ws (fre ord qs) qs f ∧ (fre ord qs).length ≤ n ∧ ns.length ≤ 10 ∧ H Fd = some (.lst xs) ∧ xs.length + 9496 * (n + 1) ≤ 200000 ∧
  ∀ H' ys, SameBut Fd H H' → H' Fd = some (.lst (xs ++ ys)) → DsL H' ys (lgR ws n (fre ord qs) qs f) → Q .non H'
abbrev nGC : List Str := ["_law_mutual_here", "_law_order", "_law_x", "_law_found", "_law_a", "_law_waiting", "_law_b", "_law_y"]
theorem lgR_nil {ws : Str → List Str} {n : Nat} {qs : List Str} {f : Fn} : lgR ws n [] qs f = [(qs, f)] := by cases n <;> rfl
theorem pre_of {ns qs fr : List Str} {ws : Str → List Str} {f : Fn} (S : St0 ns ws fr qs f) : Pre ns ws qs f := ⟨S.q, fun c hc => by
  cases e : f c with
  | none => exact .inl rfl
  | some b => exact .inr ⟨b, rfl, (S.pd c hc b e).2.1⟩⟩
variable {f : Addr} {cdv : Value} {A : Around} {outer : List Env} {s : Shared} {H0 : Hp} {E0' : XK} {Q : VK}
/-- _law_calm(mutual) -/
def spLCa : Sp := fun vs H Q _ => ∃ (M : Addr) (ns : List Str) (ws : Str → List Str), vs = [.ref M] ∧ RowsG H M ns (fun z => lstO (opn ws z)) ∧ Nm ns ∧ (∀ a ∈ ns, GRow ns a (ws a)) ∧ ns.length ≤ 10 ∧
  ∀ l H' xs ss, Same H H' → H l = none → H' l = some (.lst xs) → ss.Perm ns → PyProof.Rows.sortedS ss = true → DsL H' xs (lgR ws 10 ss [] f0) → Q (.ref l) H'
theorem fre_nil {ord : List Str} : fre ord [] = ord := by
  unfold fre
  exact List.filter_eq_self.mpr fun c _ => decide_eq_true List.not_mem_nil
end
end Qp
namespace Qp
open PySem L2 PySem.W PyProof.Rows
/-- the written calm dealings, sorted -/
def S9 (ns : List Str) (ws : Str → List Str) (bs : List (List (Str × Str))) : Prop := ∀ ss, ss.Perm ns → PyProof.Rows.sortedS ss = true → bs = sorted9 (cfR ws 10 ns [] f0) ss
section
variable {ns : List Str} {ws : Str → List Str}
theorem calB_congr (gg : ∀ a ∈ ns, GRow ns a (ws a)) {f g : Fn} (h : ∀ a ∈ ns, f a = g a) : calB ns ws f = calB ns ws g := by
  unfold calB
  rw [Bool.eq_iff_iff, List.all_eq_true, List.all_eq_true]
  have key : ∀ f g : Fn, (∀ a ∈ ns, f a = g a) → (∀ a ∈ ns, quB ws ns f a = true) → ∀ a ∈ ns, quB ws ns g a = true := fun f g h k a ha => by
    refine quB_iff.mpr fun b hb hbn hab => ?_
    rw [← abO_congr (h a ha)] at hb
    rw [← abO_congr (h b hbn)] at hab
    exact quB_iff.mp (k a ha) b hb hbn hab
  exact ⟨key f g h, key g f fun a ha => (h a ha).symm⟩
/-- nothing outside -/
def cutN (ns : List Str) (f : Fn) : Fn := fun z => if z ∈ ns then f z else none
theorem cutN_on {f : Fn} {a : Str} (h : a ∈ ns) : cutN ns f a = f a := if_pos h
theorem finD_cut (gg : ∀ a ∈ ns, GRow ns a (ws a)) {f : Fn} (D : Dl ns ws f) : FinD ns ws (cutN ns f) := ⟨fun z hz => if_neg hz, D.congr gg fun a ha => cutN_on ha⟩
theorem st_cut (gg : ∀ a ∈ ns, GRow ns a (ws a)) (nd : ns.Nodup) {qs : List Str} (hp : qs.Perm ns) {f : Fn} (D : Dl ns ws f) : St0 ns ws [] qs (cutN ns f) := by
  have F := finD_cut gg D
  refine ⟨fun z hz => hp.mem_iff.mp hz, fun z => ⟨fun h => (by cases h), fun h => absurd (hp.mem_iff.mpr h.1) h.2⟩, List.nodup_nil, hp.nodup_iff.mpr nd, fun z hz => F.off z fun h => hz (hp.mem_iff.mpr h), fun a ha b e => ?_⟩
  have ha := hp.mem_iff.mp ha
  obtain ⟨h1, h2⟩ := F.dl a ha b e
  exact ⟨hp.mem_iff.mpr (opn_sym gg ha h1).1, h1, h2⟩
/-- calm as the law asks it -/
theorem isC_iff (gg : ∀ a ∈ ns, GRow ns a (ws a)) (nd : ns.Nodup) {qs : List Str} (hp : qs.Perm ns) {f : Fn} : isC ns ws (some (okv qs f)) = true ↔ Dl ns ws f ∧ calB ns ws f = true := by
  show (isD ns ws (some (okv qs f)) && (prs ns ws).all fun p => !qB (okv qs f) ws p) = true ↔ _
  rw [Bool.and_eq_true, isD_okv hp nd gg]
  refine and_congr_right fun D => ?_
  have e : okv qs f = okv qs (cutN ns f) := List.map_congr_left fun a ha => by rw [cutN_on (hp.mem_iff.mp ha)]
  rw [e, cal_prs gg nd (st_cut gg nd hp D), calB_congr gg fun a ha => cutN_on ha]
/-- every calm dealing is among them -/
theorem calm_mem (gg : ∀ a ∈ ns, GRow ns a (ws a)) (nd : ns.Nodup) (hl : ns.length ≤ 10) {ss qs : List Str} (hss : ss.Perm ns) (hso : PyProof.Rows.sortedS ss = true) (hp : qs.Perm ns) {f : Fn} (D : Dl ns ws f) (c : calB ns ws f = true) {b : List (Str × Str)} (W : Wr qs f b) : b ∈ sorted9 (cfR ws 10 ns [] f0) ss := by
  refine (List.mergeSort_perm _ _).mem_iff.mpr ?_
  have hm := (cf_iff gg nd (List.Perm.refl ns) hl).mpr ⟨finD_cut gg D, (calB_congr gg fun a ha => cutN_on ha).trans c⟩
  obtain ⟨r, hr, er⟩ := List.mem_map.mp hm
  refine List.mem_map.mpr ⟨r, hr, ?_⟩
  refine (W.uniq (wr_direct hss hso nd) hp fun a ha => ?_).symm
  rw [er, cutN_on (hp.mem_iff.mp ha)]
theorem s9_nd (gg : ∀ a ∈ ns, GRow ns a (ws a)) (nd : ns.Nodup) (hl : ns.length ≤ 10) {ss : List Str} (hss : ss.Perm ns) (hso : PyProof.Rows.sortedS ss = true) : (sorted9 (cfR ws 10 ns [] f0) ss).Nodup := by
  unfold sorted9
  rw [(List.mergeSort_perm _ _).nodup_iff]
  have h := cf_nd gg nd (List.Perm.refl ns) (n := 10)
  have e : ((cfR ws 10 ns [] f0).map fun r => wr0 r.2 ss) = ((cfR ws 10 ns [] f0).map (·.2)).map fun g => wr0 g ss := by rw [List.map_map]; rfl
  rw [e]
  have hF : ∀ g ∈ (cfR ws 10 ns [] f0).map (·.2), FinD ns ws g := fun g hg => ((cf_iff gg nd (List.Perm.refl ns) hl).mp hg).1
  generalize (cfR ws 10 ns [] f0).map (·.2) = gs at h hF
  refine List.pairwise_map.mpr ((List.Pairwise.and_mem.mp h).imp fun {g k} ⟨hg, hk, hne⟩ he => hne ?_)
  have Dg := hF g hg
  have Dk := hF k hk
  funext z
  by_cases hz : z ∈ ns
  · have e1 := run_wr gg nd (List.Perm.refl ns) Dg.dl (wr_direct (f := g) hss hso nd) z hz
    have e2 := run_wr gg nd (List.Perm.refl ns) Dk.dl (wr_direct (f := k) hss hso nd) z hz
    rw [← e1, ← e2, he]
  · rw [Dg.off z hz, Dk.off z hz]
/-- each below the next -/
theorem s9_lt (gg : ∀ a ∈ ns, GRow ns a (ws a)) (nd : ns.Nodup) (hl : ns.length ≤ 10) {ss : List Str} (hss : ss.Perm ns) (hso : PyProof.Rows.sortedS ss = true) {i : Nat} {a b : List (Str × Str)} (ha : (sorted9 (cfR ws 10 ns [] f0) ss)[i]? = some a) (hb : (sorted9 (cfR ws 10 ns [] f0) ss)[i + 1]? = some b) : dataLt (tdt a) (tdt b) = true := by
  have nd9 := s9_nd gg nd hl hss hso
  have pw : (sorted9 (cfR ws 10 ns [] f0) ss).Pairwise fun x y => dataLe false tdt x y = true := sort_pairwise (sortLe_total (listOrd itemOrd) false fun b => keyToks (tdt b)) _
  generalize sorted9 (cfR ws 10 ns [] f0) ss = S at ha hb nd9 pw
  obtain ⟨h1, rfl⟩ := List.getElem?_eq_some_iff.mp ha
  obtain ⟨h2, rfl⟩ := List.getElem?_eq_some_iff.mp hb
  have le := List.pairwise_iff_getElem.mp pw i (i + 1) h1 h2 (Nat.lt_succ_self i)
  have ne := List.pairwise_iff_getElem.mp nd9 i (i + 1) h1 h2 (Nat.lt_succ_self i)
  cases c : dataLt (tdt S[i]) (tdt S[i + 1]) with
  | true => rfl
  | false =>
    refine absurd (le_anti le ?_) ne
    show (!dataLt (tdt S[i]) (tdt S[i + 1])) = true
    rw [c]
    rfl
theorem s9_names (nn : Nm ns) (gg : ∀ a ∈ ns, GRow ns a (ws a)) (hl : ns.length ≤ 10) {ss : List Str} (hss : ss.Perm ns) (hso : PyProof.Rows.sortedS ss = true) : ∀ b ∈ sorted9 (cfR ws 10 ns [] f0) ss, ∀ p ∈ b, nameS p.1 = true ∧ nameS p.2 = true := fun b hb => by
  obtain ⟨g, D, _, W⟩ := mem_s9 nn gg hl hss hso hb
  exact wr_names nn gg (List.Perm.refl ns) D W
end
section
variable {ns : List Str} {ws : Str → List Str}
/-- a calm dealing -/
def calmP (ns : List Str) (ws : Str → List Str) (g : Fn) : Prop := Dl ns ws g ∧ calB ns ws g = true
theorem s9_calm (nn : Nm ns) (gg : ∀ a ∈ ns, GRow ns a (ws a)) (hl : ns.length ≤ 10) {S : List (List (Str × Str))} (h : S9 ns ws S) {b : List (Str × Str)} (hb : b ∈ S) : calmP ns ws (run2 f0 b) ∧ Wr ns (run2 f0 b) b := by
  obtain ⟨ss, e1, e2⟩ := sort_ex ns
  have e3 := h ss e1 e2
  subst e3
  obtain ⟨g, D, c, W⟩ := mem_s9 nn gg hl e1 e2 hb
  have run := run_wr gg nn.nd (List.Perm.refl ns) D W
  exact ⟨⟨D.congr gg run, (calB_congr gg run).trans c⟩, W.move (List.Perm.refl _) fun a ha => (run a ha).symm⟩
theorem s9_has (nn : Nm ns) (gg : ∀ a ∈ ns, GRow ns a (ws a)) (hl : ns.length ≤ 10) {S : List (List (Str × Str))} (h : S9 ns ws S) {g : Fn} (c : calmP ns ws g) : ∃ b ∈ S, ∀ a ∈ ns, run2 f0 b a = g a := by
  obtain ⟨ss, e1, e2⟩ := sort_ex ns
  have e3 := h ss e1 e2
  subst e3
  have W := wr_direct (f := g) e1 e2 nn.nd
  exact ⟨_, calm_mem gg nn.nd hl e1 e2 (List.Perm.refl ns) c.1 c.2 W, run_wr gg nn.nd (List.Perm.refl ns) c.1 W⟩
theorem s9_len (nn : Nm ns) (gg : ∀ a ∈ ns, GRow ns a (ws a)) (hl : ns.length ≤ 10) {S : List (List (Str × Str))} (h : S9 ns ws S) : S.length ≤ 9496 := by
  obtain ⟨ss, e1, e2⟩ := sort_ex ns
  have e3 := h ss e1 e2
  subst e3
  unfold sorted9
  rw [List.length_mergeSort, List.length_map]
  exact Nat.le_trans (en_len gg (hchP gg) (st0_start (ws := ws) nn.nd (List.Perm.refl ns))) (inv10 hl)
theorem lg_calm (nn : Nm ns) (gg : ∀ a ∈ ns, GRow ns a (ws a)) (hl : ns.length ≤ 10) {ss : List Str} (hss : ss.Perm ns) {g : Fn} (h : g ∈ (lgR ws 10 ss [] f0).map (·.2)) : calmP ns ws g := by
  obtain ⟨D, c⟩ := (lg_iff gg nn.nd hss (by rw [hss.length_eq]; exact hl)).mp h
  exact ⟨D.dl, c⟩
theorem lg_has (nn : Nm ns) (gg : ∀ a ∈ ns, GRow ns a (ws a)) (hl : ns.length ≤ 10) {ss : List Str} (hss : ss.Perm ns) {g : Fn} (c : calmP ns ws g) : ∃ h ∈ (lgR ws 10 ss [] f0).map (·.2), ∀ a ∈ ns, h a = g a :=
  ⟨cutN ns g, (lg_iff gg nn.nd hss (by rw [hss.length_eq]; exact hl)).mpr ⟨finD_cut gg c.1, (calB_congr gg fun a ha => cutN_on ha).trans c.2⟩, fun a ha => cutN_on ha⟩
theorem lg_len (nn : Nm ns) (gg : ∀ a ∈ ns, GRow ns a (ws a)) (hl : ns.length ≤ 10) {ss : List Str} (hss : ss.Perm ns) : (lgR ws 10 ss [] f0).length ≤ 9496 :=
  Nat.le_trans (en_len gg (hchL gg) (st0_start (ws := ws) nn.nd hss)) (inv10 (by rw [hss.length_eq]; exact hl))
/-- the partners of a in these dealings -/
def mayL (ws : Str → List Str) (gs : List Fn) (a : Str) : List Str := (opn ws a).filter fun b => gs.any fun g => decide (g a = some b)
/-- the partners of a in calm dealings -/
noncomputable def mayC (ns : List Str) (ws : Str → List Str) (a : Str) : List Str := (opn ws a).filter fun b => @decide (∃ g, calmP ns ws g ∧ g a = some b) (Classical.propDecidable _)
theorem mayL_C {gs : List Fn} {a : Str} (ha : a ∈ ns) (h1 : ∀ g ∈ gs, calmP ns ws g) (h2 : ∀ g, calmP ns ws g → ∃ h ∈ gs, ∀ a ∈ ns, h a = g a) : mayL ws gs a = mayC ns ws a := by
  unfold mayL mayC
  refine List.filter_congr fun b _ => ?_
  rw [Bool.eq_iff_iff, List.any_eq_true, @decide_eq_true_iff _ (Classical.propDecidable _)]
  constructor
  · rintro ⟨g, hg, e⟩
    exact ⟨g, h1 g hg, of_decide_eq_true e⟩
  · rintro ⟨g, c, e⟩
    obtain ⟨h, hh, k⟩ := h2 g c
    exact ⟨h, hh, decide_eq_true ((k a ha).trans e)⟩
theorem mayC_len (gg : ∀ a ∈ ns, GRow ns a (ws a)) {a : Str} (ha : a ∈ ns) : (mayC ns ws a).length ≤ ns.length := by
  refine Nat.le_trans (List.length_filter_le _ _) ?_
  have h1 : (opn ws a).Nodup := (gg a ha).1.filter _
  exact h1.length_le_of_subset (l₂ := ns) fun z hz => (opn_sym gg ha hz).1
end
end Qp
/-! two calm dealings: who rather has the one, is with somebody who rather has the other; the middle of three is calm -/
namespace Qp
open PySem L2 PySem.W PyProof.Rows
theorem mem_take_lt {l : List Str} {b : Str} : ∀ {k : Nat}, b ∈ l.take k ↔ b ∈ l ∧ l.idxOf b < k := by
  induction l with
  | nil => intro k; simp
  | cons x r ih =>
    intro k
    cases k with
    | zero => simp
    | succ k =>
      rw [List.take_succ_cons, List.mem_cons, List.mem_cons, ih, List.idxOf_cons]
      by_cases e : x = b
      · subst e
        simp
      · have e2 : (x == b) = false := beq_false_of_ne e
        rw [e2]
        have e3 : ¬ b = x := fun z => e z.symm
        simp [e3]
/-- how far down the own list the partner stands; behind the end if there is none -/
def vl (ws : Str → List Str) (f : Fn) (a : Str) : Nat := match f a with
  | some b => (opn ws a).idxOf b
  | none => (opn ws a).length
section
variable {ns : List Str} {ws : Str → List Str} {f g h : Fn} {a b : Str}
theorem vl_some (e : f a = some b) : vl ws f a = (opn ws a).idxOf b := by
  unfold vl
  rw [e]
theorem vl_none (e : f a = none) : vl ws f a = (opn ws a).length := by
  unfold vl
  rw [e]
theorem vl_le : vl ws f a ≤ (opn ws a).length := by
  cases e : f a with
  | none => rw [vl_none e]; exact Nat.le_refl _
  | some b => rw [vl_some e]; exact List.idxOf_le_length
theorem mem_abO : b ∈ abO ws f a ↔ b ∈ opn ws a ∧ (opn ws a).idxOf b < vl ws f a := by
  unfold abO
  cases e : f a with
  | none =>
    rw [vl_none e]
    exact ⟨fun h => ⟨h, List.idxOf_lt_length_iff.mpr h⟩, fun h => h.1⟩
  | some c =>
    rw [vl_some e]
    exact mem_take_lt
theorem calm_no (gg : ∀ a ∈ ns, GRow ns a (ws a)) (c : calmP ns ws f) (ha : a ∈ ns) (hb : b ∈ opn ws a) : ¬ ((opn ws a).idxOf b < vl ws f a ∧ (opn ws b).idxOf a < vl ws f b) := fun ⟨h1, h2⟩ => by
  obtain ⟨hbn, hab⟩ := opn_sym gg ha hb
  have q := List.all_eq_true.mp c.2 a ha
  exact quB_iff.mp q b (mem_abO.mpr ⟨hb, h1⟩) hbn (mem_abO.mpr ⟨hab, h2⟩)
theorem calm_of (gg : ∀ a ∈ ns, GRow ns a (ws a)) (D : Dl ns ws f) (q : ∀ a ∈ ns, ∀ b ∈ opn ws a, ¬ ((opn ws a).idxOf b < vl ws f a ∧ (opn ws b).idxOf a < vl ws f b)) : calmP ns ws f := by
  refine ⟨D, List.all_eq_true.mpr fun a ha => quB_iff.mpr fun b hb hbn hab => ?_⟩
  obtain ⟨h1, h2⟩ := mem_abO.mp hb
  obtain ⟨_, h4⟩ := mem_abO.mp hab
  exact q a ha b h1 ⟨h2, h4⟩
theorem idx_inj {l : List Str} {b c : Str} (hb : b ∈ l) (hc : c ∈ l) (e : l.idxOf b = l.idxOf c) : b = c := by
  have h1 := List.getElem_idxOf (List.idxOf_lt_length_iff.mpr hb)
  have h2 := List.getElem_idxOf (List.idxOf_lt_length_iff.mpr hc)
  rw [← h1, ← h2]
  simp only [e]
theorem vl_inj (hf : ∀ b, f a = some b → b ∈ opn ws a) (hg : ∀ b, g a = some b → b ∈ opn ws a) (e : vl ws f a = vl ws g a) : f a = g a := by
  cases ef : f a with
  | none =>
    cases eg : g a with
    | none => rfl
    | some c =>
      rw [vl_none ef, vl_some eg] at e
      have := List.idxOf_lt_length_iff.mpr (hg c eg)
      omega
  | some b =>
    cases eg : g a with
    | none =>
      rw [vl_some ef, vl_none eg] at e
      have := List.idxOf_lt_length_iff.mpr (hf b ef)
      omega
    | some c =>
      rw [vl_some ef, vl_some eg] at e
      rw [idx_inj (hf b ef) (hg c eg) e]
theorem vl_eq (e : f a = g a) : vl ws f a = vl ws g a := by
  unfold vl
  rw [e]
/-- one way -/
theorem opp1 (gg : ∀ a ∈ ns, GRow ns a (ws a)) (cf : calmP ns ws f) (cg : calmP ns ws g) (ha : a ∈ ns) (l : vl ws f a < vl ws g a) : ∃ b ∈ ns, f a = some b ∧ f b = some a ∧ vl ws g b < vl ws f b := by
  cases ef : f a with
  | none =>
    rw [vl_none ef] at l
    have := vl_le (ws := ws) (f := g) (a := a)
    omega
  | some b =>
    obtain ⟨hb, hfb⟩ := cf.1 a ha b ef
    obtain ⟨hbn, hab⟩ := opn_sym gg ha hb
    refine ⟨b, hbn, rfl, hfb, ?_⟩
    rcases Nat.lt_trichotomy (vl ws g b) (vl ws f b) with q | q | q
    · exact q
    · have e := vl_inj (fun c hc => (cg.1 b hbn c hc).1) (fun c hc => (cf.1 b hbn c hc).1) q
      rw [hfb] at e
      have e2 := (cg.1 b hbn a e).2
      have := vl_eq (ws := ws) (ef.trans e2.symm)
      omega
    · exfalso
      rw [vl_some ef] at l
      rw [vl_some hfb] at q
      exact calm_no gg cg ha hb ⟨l, q⟩
/-- those who rather have f -/
def pf (ns : List Str) (ws : Str → List Str) (f g : Fn) : List Str := ns.filter fun a => decide (vl ws f a < vl ws g a)
theorem mem_pf : a ∈ pf ns ws f g ↔ a ∈ ns ∧ vl ws f a < vl ws g a := by
  unfold pf
  rw [List.mem_filter, decide_eq_true_iff]
theorem pf_map (nd : ns.Nodup) (gg : ∀ a ∈ ns, GRow ns a (ws a)) (cf : calmP ns ws f) (cg : calmP ns ws g) : ((pf ns ws f g).map fun a => (f a).getD a).Nodup ∧ ∀ b ∈ (pf ns ws f g).map fun a => (f a).getD a, b ∈ pf ns ws g f := by
  constructor
  · have h : (pf ns ws f g).Nodup := nd.filter _
    refine List.pairwise_map.mpr ((List.Pairwise.and_mem.mp h).imp fun {x y} ⟨hx, hy, hne⟩ he => hne ?_)
    obtain ⟨hx1, hx2⟩ := mem_pf.mp hx
    obtain ⟨hy1, hy2⟩ := mem_pf.mp hy
    obtain ⟨b, _, e1, e2, _⟩ := opp1 gg cf cg hx1 hx2
    obtain ⟨c, _, e3, e4, _⟩ := opp1 gg cf cg hy1 hy2
    rw [e1, e3] at he
    have he : b = c := he
    rw [he, e4] at e2
    exact (Option.some.inj e2).symm
  · intro b hb
    obtain ⟨x, hx, rfl⟩ := List.mem_map.mp hb
    obtain ⟨hx1, hx2⟩ := mem_pf.mp hx
    obtain ⟨b, hbn, e1, _, l⟩ := opp1 gg cf cg hx1 hx2
    rw [e1]
    exact mem_pf.mpr ⟨hbn, l⟩
theorem pf_len (nd : ns.Nodup) (gg : ∀ a ∈ ns, GRow ns a (ws a)) (cf : calmP ns ws f) (cg : calmP ns ws g) : (pf ns ws f g).length ≤ (pf ns ws g f).length := by
  obtain ⟨h1, h2⟩ := pf_map nd gg cf cg
  have := nodup_sub_length h1 h2
  rw [List.length_map] at this
  exact this
/-- the other way: whoever rather has g is in f with one who rather has f -/
theorem opp2 (nd : ns.Nodup) (gg : ∀ a ∈ ns, GRow ns a (ws a)) (cf : calmP ns ws f) (cg : calmP ns ws g) (hb : b ∈ ns) (l : vl ws g b < vl ws f b) : ∃ a ∈ ns, f b = some a ∧ f a = some b ∧ vl ws f a < vl ws g a := by
  obtain ⟨h1, h2⟩ := pf_map nd gg cf cg
  have hp : b ∈ pf ns ws g f := mem_pf.mpr ⟨hb, l⟩
  have hm : b ∈ (pf ns ws f g).map fun a => (f a).getD a := by
    apply Classical.byContradiction
    intro c
    have q := nodup_sub_length (l := b :: (pf ns ws f g).map fun a => (f a).getD a) (m := pf ns ws g f) (List.nodup_cons.mpr ⟨c, h1⟩) fun y hy => by
      rcases List.mem_cons.mp hy with e | hy
      · rw [e]; exact hp
      · exact h2 y hy
    rw [List.length_cons, List.length_map] at q
    have := pf_len nd gg cg cf
    omega
  obtain ⟨x, hx, e⟩ := List.mem_map.mp hm
  obtain ⟨hx1, hx2⟩ := mem_pf.mp hx
  obtain ⟨c, _, e1, e2, _⟩ := opp1 gg cf cg hx1 hx2
  rw [e1] at e
  have e : c = b := e
  subst e
  exact ⟨x, hx1, e2, e1, hx2⟩
/-- the same people are alone in all calm dealings -/
theorem alone (nd : ns.Nodup) (gg : ∀ a ∈ ns, GRow ns a (ws a)) (cf : calmP ns ws f) (cg : calmP ns ws g) (ha : a ∈ ns) (e : f a = none) : g a = none := by
  cases eg : g a with
  | none => rfl
  | some b =>
    have hb := (cg.1 a ha b eg).1
    have l : vl ws g a < vl ws f a := by
      rw [vl_none e, vl_some eg]
      exact List.idxOf_lt_length_iff.mpr hb
    obtain ⟨x, _, e1, _⟩ := opp2 nd gg cf cg ha l
    rw [e] at e1
    cases e1
/-- what partners in f think of g -/
theorem opp (nd : ns.Nodup) (gg : ∀ a ∈ ns, GRow ns a (ws a)) (cf : calmP ns ws f) (cg : calmP ns ws g) (ha : a ∈ ns) (e : f a = some b) : (vl ws f a < vl ws g a ↔ vl ws g b < vl ws f b) ∧ (vl ws g a < vl ws f a ↔ vl ws f b < vl ws g b) := by
  obtain ⟨hb, hfb⟩ := cf.1 a ha b e
  obtain ⟨hbn, _⟩ := opn_sym gg ha hb
  have one : ∀ {x y : Str}, x ∈ ns → f x = some y → vl ws f x < vl ws g x → vl ws g y < vl ws f y := fun {x y} hx exy l => by
    obtain ⟨c, _, e1, _, l2⟩ := opp1 gg cf cg hx l
    rw [exy] at e1
    cases e1
    exact l2
  have two : ∀ {x y : Str}, x ∈ ns → f x = some y → vl ws g x < vl ws f x → vl ws f y < vl ws g y := fun {x y} hx exy l => by
    obtain ⟨c, _, e1, _, l2⟩ := opp2 nd gg cf cg hx l
    rw [exy] at e1
    cases e1
    exact l2
  exact ⟨⟨one ha e, two hbn hfb⟩, ⟨two ha e, one hbn hfb⟩⟩
def med3 (i j k : Nat) : Nat := max (min i j) (min (max i j) k)
/-- the middle of three -/
def mdF (ws : Str → List Str) (f g h : Fn) : Fn := fun a => if vl ws f a = med3 (vl ws f a) (vl ws g a) (vl ws h a) then f a else if vl ws g a = med3 (vl ws f a) (vl ws g a) (vl ws h a) then g a else h a
theorem mdF_or (f g h : Fn) (a : Str) : (mdF ws f g h a = f a ∧ vl ws f a = med3 (vl ws f a) (vl ws g a) (vl ws h a)) ∨ (mdF ws f g h a = g a ∧ vl ws g a = med3 (vl ws f a) (vl ws g a) (vl ws h a)) ∨ (mdF ws f g h a = h a ∧ vl ws h a = med3 (vl ws f a) (vl ws g a) (vl ws h a)) := by
  unfold mdF
  by_cases c1 : vl ws f a = med3 (vl ws f a) (vl ws g a) (vl ws h a)
  · rw [if_pos c1]
    exact .inl ⟨rfl, c1⟩
  · rw [if_neg c1]
    by_cases c2 : vl ws g a = med3 (vl ws f a) (vl ws g a) (vl ws h a)
    · rw [if_pos c2]
      exact .inr (.inl ⟨rfl, c2⟩)
    · rw [if_neg c2]
      refine .inr (.inr ⟨rfl, ?_⟩)
      unfold med3 at *
      omega
theorem mdF_vl (f g h : Fn) (a : Str) : vl ws (mdF ws f g h) a = med3 (vl ws f a) (vl ws g a) (vl ws h a) := by
  rcases mdF_or (ws := ws) f g h a with ⟨e, q⟩ | ⟨e, q⟩ | ⟨e, q⟩
  · rw [vl_eq e]; exact q
  · rw [vl_eq e]; exact q
  · rw [vl_eq e]; exact q
theorem mid_calm (nd : ns.Nodup) (gg : ∀ a ∈ ns, GRow ns a (ws a)) (cf : calmP ns ws f) (cg : calmP ns ws g) (ch : calmP ns ws h) : calmP ns ws (mdF ws f g h) := by
  have inO : ∀ a ∈ ns, ∀ b, mdF ws f g h a = some b → b ∈ opn ws a := fun a ha b e => by
    rcases mdF_or (ws := ws) f g h a with ⟨q, _⟩ | ⟨q, _⟩ | ⟨q, _⟩
    · exact (cf.1 a ha b (q ▸ e)).1
    · exact (cg.1 a ha b (q ▸ e)).1
    · exact (ch.1 a ha b (q ▸ e)).1
  refine calm_of gg (fun a ha b e => ?_) fun a ha b hb ⟨h1, h2⟩ => ?_
  · have hb := inO a ha b e
    obtain ⟨hbn, _⟩ := opn_sym gg ha hb
    refine ⟨hb, ?_⟩
    have fin : ∀ {k : Fn}, calmP ns ws k → k a = some b → vl ws k b = med3 (vl ws f b) (vl ws g b) (vl ws h b) → mdF ws f g h b = some a := fun {k} ck ek q => by
      rw [← (ck.1 a ha b ek).2]
      exact vl_inj (inO b hbn) (fun c hc => (ck.1 b hbn c hc).1) ((mdF_vl f g h b).trans q.symm)
    rcases mdF_or (ws := ws) f g h a with ⟨q, m⟩ | ⟨q, m⟩ | ⟨q, m⟩
    · have ea := q.symm.trans e
      obtain ⟨p1, p2⟩ := opp nd gg cf cg ha ea
      obtain ⟨p3, p4⟩ := opp nd gg cf ch ha ea
      refine fin cf ea ?_
      unfold med3 at *
      omega
    · have ea := q.symm.trans e
      obtain ⟨p1, p2⟩ := opp nd gg cg cf ha ea
      obtain ⟨p3, p4⟩ := opp nd gg cg ch ha ea
      refine fin cg ea ?_
      unfold med3 at *
      omega
    · have ea := q.symm.trans e
      obtain ⟨p1, p2⟩ := opp nd gg ch cf ha ea
      obtain ⟨p3, p4⟩ := opp nd gg ch cg ha ea
      refine fin ch ea ?_
      unfold med3 at *
      omega
  · rw [mdF_vl] at h1 h2
    have nf := calm_no gg cf ha hb
    have ng := calm_no gg cg ha hb
    have nh := calm_no gg ch ha hb
    unfold med3 at *
    omega
end
end Qp
namespace Qp
open PySem L2 PySem.W
/-- the middle one of three sorted numbers -/
theorem perm3 (i j k : Int) : [min (min i j) k, max (min i j) (min (max i j) k), max (max i j) k].Perm [i, j, k] := by
  have p2 : ∀ x y z : Int, [y, x, z].Perm [x, y, z] := fun x y z => .swap _ _ _
  have p3 : ∀ x y z : Int, [x, z, y].Perm [x, y, z] := fun x y z => .cons _ (.swap _ _ _)
  by_cases h1 : i ≤ j
  · by_cases h2 : j ≤ k
    · rw [show min (min i j) k = i by omega, show max (min i j) (min (max i j) k) = j by omega, show max (max i j) k = k by omega]
    · by_cases h3 : i ≤ k
      · rw [show min (min i j) k = i by omega, show max (min i j) (min (max i j) k) = k by omega, show max (max i j) k = j by omega]
        exact p3 _ _ _
      · rw [show min (min i j) k = k by omega, show max (min i j) (min (max i j) k) = i by omega, show max (max i j) k = j by omega]
        exact (p2 i k j).trans (p3 _ _ _)
  · by_cases h2 : i ≤ k
    · rw [show min (min i j) k = j by omega, show max (min i j) (min (max i j) k) = i by omega, show max (max i j) k = k by omega]
      exact p2 _ _ _
    · by_cases h3 : j ≤ k
      · rw [show min (min i j) k = j by omega, show max (min i j) (min (max i j) k) = k by omega, show max (max i j) k = i by omega]
        exact (p3 j i k).trans (p2 _ _ _)
      · rw [show min (min i j) k = k by omega, show max (min i j) (min (max i j) k) = j by omega, show max (max i j) k = i by omega]
        exact ((p2 j k i).trans (p3 j i k)).trans (p2 _ _ _)
theorem mid3 {i j k : Nat} {ms : List Int} (hp : ms.Perm [(i : Int), (j : Int), (k : Int)]) (hs : ms.Pairwise (· ≤ ·)) : ms[1]? = some (((med3 i j k : Nat) : Int)) := by
  have q := perm3 (i : Int) j k
  have s : [min (min (i : Int) j) k, max (min (i : Int) j) (min (max (i : Int) j) k), max (max (i : Int) j) k].Pairwise (· ≤ ·) := by
    refine List.Pairwise.cons (fun y hy => ?_) (List.Pairwise.cons (fun y hy => ?_) (List.Pairwise.cons (fun y hy => by cases hy) .nil))
    · rcases List.mem_cons.mp hy with rfl | hy
      · omega
      · rcases List.mem_cons.mp hy with rfl | hy
        · omega
        · cases hy
    · rcases List.mem_cons.mp hy with rfl | hy
      · omega
      · cases hy
  have e : ms = _ := List.Perm.eq_of_pairwise (le := fun x y : Int => x ≤ y) (fun x y _ _ h1 h2 => Int.le_antisymm h1 h2) hs s (hp.trans q.symm)
  rw [e]
  show some _ = some _
  unfold med3
  congr 1
  omega
/-- the middle, so far as these are done -/
def pm (m : Fn) (done : List Str) : Fn := fun a => if a ∈ done then m a else none
theorem pm_nil {m : Fn} {qs : List Str} : okv qs (pm m []) = okv qs f0 := okv_congr fun a _ => if_neg (by simp)
theorem pm_snoc {m : Fn} {qs ns : List Str} {i : Nat} {a : Str} (e : ns[i]? = some a) : okv qs (setO (pm m (ns.take i)) a (m a)) = okv qs (pm m (ns.take (i + 1))) := okv_congr fun z _ => by
  unfold setO pm
  rw [take_snoc e]
  by_cases c : z = a
  · rw [if_pos c, if_pos (by rw [c]; simp), c]
  · rw [if_neg c]
    by_cases c2 : z ∈ ns.take i
    · rw [if_pos c2, if_pos (List.mem_append_left _ c2)]
    · rw [if_neg c2, if_neg (fun h => (List.mem_append.mp h).elim c2 fun h => c (by simpa using h))]
theorem pm_skip {m : Fn} {qs ns : List Str} {i : Nat} {a : Str} (e : ns[i]? = some a) (h : m a = none) : okv qs (pm m (ns.take i)) = okv qs (pm m (ns.take (i + 1))) := okv_congr fun z _ => by
  unfold pm
  rw [take_snoc e]
  by_cases c2 : z ∈ ns.take i
  · rw [if_pos c2, if_pos (List.mem_append_left _ c2)]
  · rw [if_neg c2]
    by_cases c : z = a
    · rw [if_pos (by rw [c]; simp), c, h]
    · rw [if_neg (fun h => (List.mem_append.mp h).elim c2 fun h => c (by simpa using h))]
section
variable {P : Program} {w : World} {K : PySem.W.Frag} {mg : Str → Option Value} {base : Heap}
abbrev nMid : List Str := ["group", "one", "two", "three", "index", "x", "a", "dealt", "ranks"]
/-- middle(group, one, two, three) -/
def spMid (K : PySem.W.Frag) (C CN : Addr) : Sp := fun vs H Q E => ∃ (p : Addr) (x y z : V) (ns : List Str) (ws : Str → List Str) (o1 o2 o3 : Option (List (Key × V))), vs = [.ref p, x, y, z] ∧ GroupAt C H p ns ws ∧ Nm ns ∧ (∀ a ∈ ns, GRow ns a (ws a)) ∧ DV K H x o1 ∧ DV K H y o2 ∧ DV K H z o3 ∧
  (isC ns ws o1 = false → Leaves CN "index" (.int 0) H E) ∧ (isC ns ws o1 = true → isC ns ws o2 = false → Leaves CN "index" (.int 1) H E) ∧ (isC ns ws o1 = true → isC ns ws o2 = true → isC ns ws o3 = false → Leaves CN "index" (.int 2) H E) ∧
  (∀ f g h q1 q2 q3, o1 = some (okv q1 f) → o2 = some (okv q2 g) → o3 = some (okv q3 h) → q1.Perm ns → q2.Perm ns → q3.Perm ns → calmP ns ws f → calmP ns ws g → calmP ns ws h → ∀ D H', Same H H' → H D = none → H' D = some (.dK (okv ns (mdF ws f g h))) → Q (.ref D) H')
theorem isC_okv {ns : List Str} {ws : Str → List Str} (nn : Nm ns) (gg : ∀ a ∈ ns, GRow ns a (ws a)) {o : Option (List (Key × V))} (h : isC ns ws o = true) : ∃ qs f, qs.Perm ns ∧ o = some (okv qs f) ∧ calmP ns ws f := by
  cases o with
  | none => cases h
  | some kvs =>
    have h' : (isD ns ws (some kvs) && (prs ns ws).all fun p => !qB kvs ws p) = true := h
    rw [Bool.and_eq_true] at h'
    obtain ⟨qs, f, hp, rfl⟩ := of_isD h'.1 nn.nd
    exact ⟨qs, f, hp, rfl, (isC_iff gg nn.nd hp).mp h⟩
theorem ok_mid {f C CN fN fI : Addr} {fdI : FuncData} {fd : FuncData} (F : Fun K "middle" "middle" smiddle f fd) (B : Bl mg) (T : GTxt K mg C) (TN : PySem.QX.OwnTxt P K mg "NotCalm" "index" CN fN) (cC : CF P w K mg base CX0 7 "is_calm" ["group", "x"] (spIsC K C)) (mR : MF P w K mg base 4 C "rank" ["self", "a", "b"] (spRank C)) (mO : MF P w K mg base 3 C "open_to" ["self", "a"] (spOpen C))
    (MI : Meth K C "__iter__" fI) (bI : Binds K fdI ["self"] []) (FI : ∀ b', K.In b' → b'.Ns mainGlobals mg → FnOk P w K mg b' CX0 1 fI fdI ["self"] (spIter C b'.objs.size)) : FnOk P w K mg base (L2.CX P w) 8 f fd ["group", "one", "two", "three"] (spMid K C CN) := by
  obtain ⟨fR, fdR, FR, MR, bR⟩ := mR.ex
  obtain ⟨fO, fdO, FO, MO, bO⟩ := mO.ex
  refine F.okX scmiddle (fun vs H Q E h => ?_) (fun cdv A outer s H vs Q E hr h => ?_)
  · obtain ⟨p, x, y, z, ns, ws, o1, o2, o3, rfl, _⟩ := h
    rfl
  · obtain ⟨p, x, y, z, ns, ws, o1, o2, o3, rfl, hG, nn, gg, d1, d2, d3, e1, e2, e3, kq⟩ := h
    have hu := hu_of hr
    have hr1 : Room 1 _ := hr.mono (by decide)
    have hr3 : Room 3 _ := hr.mono (by decide)
    have hr4 : Room 4 _ := hr.mono (by decide)
    have esz : sizeLine = 16777216 := sizeLine_eq
    have hnl := nn.len
    refine ⟨_, pss_cons (ps_for (passes_of rfl) rfl (pi_enumT (by rfl) B.enum (pa_cons (pe_lst (pa_cons (pv 1) (pa_cons (pv 2) (pa_cons (pv 3) pa_nil)))) pa_nil))
        (pg_tup rfl (pgs_cons (pg_name (i := 4) scmiddle.nd rfl (Or.inl rfl)) (pgs_cons (pg_name (i := 5) scmiddle.nd rfl (Or.inl rfl)) pgs_nil)))
        (pss_one (ps_if (pt_not (pt_val (pe_cf cC hr pass0 (pa_cons (pv 0) (pa_cons (pv 5) pa_nil))))) (pss_one (ps_raiseS rfl TN hr (takes_of rfl rfl rfl rfl) (pa_cons (pv 4) pa_nil) rfl)) pss_nil)))
      (pss_cons (ps_setDc (j := 7) (mine := [("a", 6)]) (gg := gName 6) (tc := tYes) (by rfl) scmiddle.nd rfl rfl (swD_true rfl rfl rfl (by decide +kernel)) (pi_ownB (sp := fun m => spIter C m) MI FI hr1 bI (pv 0)) (blkOk_by (own := [("a", 6)]) (N := nMid) (sc := defScope smiddle) (by decide +kernel))
        (fun _ _ _ _ _ => pg_name (i := 6) scmiddle.nd rfl (Or.inl rfl)) (fun _ _ _ _ _ => pts_nil) (fun _ _ _ _ _ => pv 6) (fun _ _ _ _ _ => pe_non))
      (pss_cons (ps_for (passes_of rfl) rfl (pi_ownB (sp := fun m => spIter C m) MI FI hr1 bI (pv 0)) (pg_name (i := 6) scmiddle.nd rfl (Or.inl rfl))
        (pss_one (ps_if (pt_cmp (pc_notN (pe_dget hu (pv 1) (pv 6) (fun _ _ => rfl))))
          (pss_cons (ps_set (i := 8) scmiddle.nd rfl (Or.inl rfl) (pe_callB cr_sorted (by rfl) B.srt (by decide +kernel) (pa_cons (pe_lst (pa_cons (pe_meth (pv 0) T.cl MR FR hr4 bR .nil pass0 (pa_cons (pv 6) (pa_cons (pe_dget hu (pv 1) (pv 6) (fun _ _ => rfl)) pa_nil)))
            (pa_cons (pe_meth (pv 0) T.cl MR FR hr4 bR .nil pass0 (pa_cons (pv 6) (pa_cons (pe_dget hu (pv 2) (pv 6) (fun _ _ => rfl)) pa_nil))) (pa_cons (pe_meth (pv 0) T.cl MR FR hr4 bR .nil pass0 (pa_cons (pv 6) (pa_cons (pe_dget hu (pv 3) (pv 6) (fun _ _ => rfl)) pa_nil))) pa_nil)))) pa_nil)))
          (pss_one (ps_dput hu (pv 7) (pv 6) (pe_ix ix_list (pe_meth (pv 0) T.cl MO FO hr3 bO .nil pass0 (pa_cons (pv 6) pa_nil)) (pe_ix ix_list (pv 8) pe_int (fun _ _ => rfl)) (fun _ _ => rfl)) rfl))) pss_nil)))
      (pss_one (ps_ret (pv 7))))), ?_⟩
    refine ⟨_, rfl, _, rfl, _, rfl, by show 3 ≤ sizeLine; rw [esz]; decide, fun L hL => ?_⟩
    have s0 : Same H (upd H L (.lst [x, y, z])) := Same.new hL
    have eL : (upd H L (.lst [x, y, z])) L = some (.lst [x, y, z]) := upd_same
    generalize upd H L (.lst [x, y, z]) = H0 at s0 eL
    refine ⟨L, [x, y, z], rfl, .inl (SqL.of eL), fun J G wk hGo => for_it wk (fun i σ H' => ∃ (v4 v5 : Option V), σ = [some (.ref p), some x, some y, some z, v4, v5, none, none, none] ∧ Same H0 H' ∧ ∀ j, j < i → ∀ o, [o1, o2, o3][j]? = some o → isC ns ws o = true) ⟨none, none, rfl, Same.refl _, fun j hj => by omega⟩ (fun i σ H' _ ⟨_, _, _, s, _⟩ => hGo H' s) ?_ ?_⟩
    · rintro i v σ H1 H2 hi ⟨v4, v5, rfl, s1, hall⟩ ⟨T2, u1, u2, rfl, hT2, rfl, ex, ey⟩
      cases ex
      have ey : [x, y, z][i]? = some u2 := ey
      have s2 : Same H0 (upd H1 T2 (.tup [.int (i : Nat), u2])) := s1.trans (Same.new hT2)
      have eT2 : (upd H1 T2 (.tup [.int (i : Nat), u2])) T2 = some (.tup [.int (i : Nat), u2]) := upd_same
      generalize upd H1 T2 (.tup [.int (i : Nat), u2]) = H2 at s2 eT2
      obtain ⟨o, eo, du, le⟩ : ∃ o, [o1, o2, o3][i]? = some o ∧ DV K H u2 o ∧ (isC ns ws o = false → Leaves CN "index" (.int (i : Nat)) H E) := by
        match i, ey, hall with
        | 0, ey, _ => cases ey; exact ⟨o1, rfl, d1, e1⟩
        | 1, ey, hall => cases ey; exact ⟨o2, rfl, d2, e2 (hall 0 (by omega) _ rfl)⟩
        | 2, ey, hall => cases ey; exact ⟨o3, rfl, d3, e3 (hall 0 (by omega) _ rfl) (hall 1 (by omega) _ rfl)⟩
        | n + 3, ey, _ => cases ey
      have s02 := s0.trans s2
      refine ⟨T2, [.int (i : Nat), u2], rfl, SqT.of eT2, rfl, _, _, rfl, _, _, rfl, rfl, ?_⟩
      refine ⟨_, rfl, _, rfl, p, u2, ns, ws, o, rfl, hG.same s02, nn, gg, du.same s02, fun H3 s3 => ⟨_, rfl, ?_⟩⟩
      cases c : isC ns ws o with
      | false => exact iteT ⟨_, rfl, _, rfl, fun d hd => (le c).go (s02.trans s3) d hd⟩
      | true =>
        refine iteF ⟨_, _, rfl, s2.trans s3, fun j hj o' ho' => ?_⟩
        by_cases hji : j = i
        · rw [hji, eo] at ho'
          cases ho'
          exact c
        · exact hall j (by omega) o' ho'
    · rintro σ H1 ⟨v4, v5, rfl, s1, hall⟩
      obtain ⟨q1, f, p1, rfl, cf⟩ := isC_okv nn gg (hall 0 (by show 0 < 3; decide) _ rfl)
      obtain ⟨q2, g, p2, rfl, cg⟩ := isC_okv nn gg (hall 1 (by show 1 < 3; decide) _ rfl)
      obtain ⟨q3, h, p3, rfl, ch⟩ := isC_okv nn gg (hall 2 (by show 2 < 3; decide) _ rfl)
      have kq := kq f g h q1 q2 q3 rfl rfl rfl p1 p2 p3 cf cg ch
      obtain ⟨a1, rfl, hd1, _⟩ := d1
      obtain ⟨a2, rfl, hd2, _⟩ := d2
      obtain ⟨a3, rfl, hd3, _⟩ := d3
      have s01 := s0.trans s1
      have hG1 := hG.same s01
      obtain ⟨dx, _, _, _, _, hp, _⟩ := id hG1
      refine ⟨_, rfl, p, dx, _, rfl, hp, fun m hm => ⟨p, ns, ws, rfl, hG1, fun it tp ht hit hmt => ⟨it, tp, rfl, hmt, upd_same, ?_⟩⟩⟩
      rw [ItX.dropH_upd hit]
      refine fun D hD => dc_it walk_tup (fun i H' => Same H1 H' ∧ H' D = some (.dK (okv (ns.take i) f0))) ⟨Same.new hD, upd_same⟩ (fun i H' _ z => SqT.of (z.1 _ _ ht)) ?_ ?_
      · rintro i y Hy H3 hi ⟨s3, e3⟩ ⟨rfl, hy⟩
        rw [List.length_map] at hi
        rw [List.getElem?_map] at hy
        cases ea : ns[i]? with
        | none => rw [ea] at hy; cases hy
        | some a =>
          rw [ea] at hy
          cases hy
          refine ⟨rfl, dcTurn ⟨_, rfl, _, Sum.inr a, rfl, e3, ?_, fun b' o' e' => ?_, ?_⟩⟩
          · rw [okv_len, List.length_take]
            omega
          · rw [upd_ne (ne_of_none e' hD)]
            exact s3 _ _ e'
          · rw [upd_same, take_snoc ea]
            have q := okv_snoc (f := f0) (not_mem_take nn.nd ea)
            exact congrArg (fun z => some (HO.dK z)) q
      · rintro H3 ⟨s3, e3⟩
        rw [List.length_map, List.take_of_length_le (Nat.le_refl _)] at e3
        have s03 := s01.trans s3
        have hDH : H D = none := s01.free hD
        have hG3 := hG.same s03
        obtain ⟨dx3, _, _, _, _, hp3, _⟩ := id hG3
        refine ⟨_, rfl, p, dx3, _, rfl, hp3, fun m2 hm2 => ⟨p, ns, ws, rfl, hG3, fun it2 tp2 ht2 hit2 hmt2 => ⟨it2, tp2, rfl, hmt2, upd_same, ?_⟩⟩⟩
        rw [ItX.dropH_upd hit2]
        have ntD : tp2 ≠ D := fun z => by
          rw [z, e3] at ht2
          cases ht2
        have n1 : a1 ≠ D := ne_of_none hd1 hDH
        have n2 : a2 ≠ D := ne_of_none hd2 hDH
        have n3 : a3 ≠ D := ne_of_none hd3 hDH
        refine for_it walk_tup (fun i σ H' => ∃ v6 v8 : Option V, σ = [some (.ref p), some (.ref a1), some (.ref a2), some (.ref a3), v4, v5, v6, some (.ref D), v8] ∧ SameBut D H3 H' ∧ H' D = some (.dK (okv ns (pm (mdF ws f g h) (ns.take i))))) ⟨_, _, rfl, SameBut.refl _ _, by rw [e3]; exact congrArg (fun z => some (HO.dK z)) pm_nil.symm⟩ (fun i σ H' _ ⟨_, _, _, z, _⟩ => SqT.of (z _ _ ntD ht2)) ?_ ?_
        · rintro i y σ Hy H4 hi ⟨v6, v8, rfl, s4, e4⟩ ⟨rfl, hy⟩
          rw [List.length_map] at hi
          rw [List.getElem?_map] at hy
          cases ea : ns[i]? with
          | none => rw [ea] at hy; cases hy
          | some a =>
            rw [ea] at hy
            cases hy
            have ha := List.mem_of_getElem? ea
            have s04 : Same H H4 := fun b o e => s4 _ _ (ne_of_none e hDH) (s03 _ _ e)
            have gd1 : DGet H4 a1 (.str a) (some (oV (f a))) := by rw [← okv_val (f := f) (p1.mem_iff.mpr ha)]; exact DGet.k (k := Sum.inr a) (s04 _ _ hd1)
            refine ⟨_, rfl, _, rfl, a1, _, rfl, gd1, _, rfl, ?_⟩
            cases ef : f a with
            | none =>
              have em : mdF ws f g h a = none := by
                rcases mdF_or (ws := ws) f g h a with ⟨q, _⟩ | ⟨q, _⟩ | ⟨q, _⟩
                · rw [q, ef]
                · rw [q, alone nn.nd gg cf cg ha ef]
                · rw [q, alone nn.nd gg cf ch ha ef]
              rw [show (!decide (oV none = V.non)) = false from by rw [show oV none = V.non from rfl, decide_eq_true rfl]; rfl]
              refine iteF ⟨_, _, rfl, s4, ?_⟩
              rw [e4, pm_skip ea em]
            | some b1 =>
              have nf : ∀ {k : Fn}, calmP ns ws k → ∃ b, k a = some b := fun {k} ck => by
                cases ek : k a with
                | some b => exact ⟨b, rfl⟩
                | none =>
                  have := alone nn.nd gg ck cf ha ek
                  rw [ef] at this
                  cases this
              obtain ⟨b2, eg⟩ := nf cg
              obtain ⟨b3, eh⟩ := nf ch
              have gd2 : DGet H4 a2 (.str a) (some (.str b2)) := by
                have := okv_val (f := g) (p2.mem_iff.mpr ha)
                rw [eg] at this
                have this : valV (okv q2 g) (Sum.inr a) = some (.str b2) := this
                rw [← this]
                exact DGet.k (k := Sum.inr a) (s04 _ _ hd2)
              have gd3 : DGet H4 a3 (.str a) (some (.str b3)) := by
                have := okv_val (f := h) (p3.mem_iff.mpr ha)
                rw [eh] at this
                have this : valV (okv q3 h) (Sum.inr a) = some (.str b3) := this
                rw [← this]
                exact DGet.k (k := Sum.inr a) (s04 _ _ hd3)
              rw [ef] at gd1
              rw [show (!decide (oV (some b1) = V.non)) = true from by rw [decide_eq_false (by intro z; cases z)]; rfl]
              have hG4 := hG.same s04
              obtain ⟨dx4, _, _, _, _, hp4, _⟩ := id hG4
              have ho1 := (cf.1 a ha b1 ef).1
              have ho2 := (cg.1 a ha b2 eg).1
              have ho3 := (ch.1 a ha b3 eh).1
              have on := (gg a ha).1.filter fun b => decide (a ∈ ws b)
              refine iteT ⟨_, rfl, p, dx4, _, rfl, hp4, gF_no _ _ _ _ (by decide +kernel) (by decide +kernel) (by decide +kernel) (by decide +kernel), _, rfl, _, rfl, _, rfl, a1, _, rfl, gd1, p, a, b1, ns, ws, (opn ws a).idxOf b1, rfl, hG4, ha, (opn_sym gg ha ho1).1, on, idx_at ho1, ?_⟩
              refine ⟨_, rfl, p, dx4, _, rfl, hp4, gF_no _ _ _ _ (by decide +kernel) (by decide +kernel) (by decide +kernel) (by decide +kernel), _, rfl, _, rfl, _, rfl, a2, _, rfl, gd2, p, a, b2, ns, ws, (opn ws a).idxOf b2, rfl, hG4, ha, (opn_sym gg ha ho2).1, on, idx_at ho2, ?_⟩
              refine ⟨_, rfl, p, dx4, _, rfl, hp4, gF_no _ _ _ _ (by decide +kernel) (by decide +kernel) (by decide +kernel) (by decide +kernel), _, rfl, _, rfl, _, rfl, a3, _, rfl, gd3, p, a, b3, ns, ws, (opn ws a).idxOf b3, rfl, hG4, ha, (opn_sym gg ha ho3).1, on, idx_at ho3, ?_⟩
              refine ⟨by show 3 ≤ sizeLine; rw [esz]; decide, fun R hR => ?_⟩
              have s5 : Same H4 (upd H4 R (.lst [.int (((opn ws a).idxOf b1 : Nat) : Int), .int (((opn ws a).idxOf b2 : Nat) : Int), .int (((opn ws a).idxOf b3 : Nat) : Int)])) := Same.new hR
              have eR : (upd H4 R (.lst [.int (((opn ws a).idxOf b1 : Nat) : Int), .int (((opn ws a).idxOf b2 : Nat) : Int), .int (((opn ws a).idxOf b3 : Nat) : Int)])) R = some (.lst ([(((opn ws a).idxOf b1 : Nat) : Int), (((opn ws a).idxOf b2 : Nat) : Int), (((opn ws a).idxOf b3 : Nat) : Int)].map V.int)) := upd_same
              generalize upd H4 R (.lst [.int (((opn ws a).idxOf b1 : Nat) : Int), .int (((opn ws a).idxOf b2 : Nat) : Int), .int (((opn ws a).idxOf b3 : Nat) : Int)]) = H5 at s5 eR
              refine ⟨R, _, rfl, SqL.of eR, by show 3 < 64; decide, fun ms S hms hso hS => ?_⟩
              have em := mid3 hms hso
              have s6 : Same H5 (upd H5 S (.lst (ms.map V.int))) := Same.new hS
              have eS : (upd H5 S (.lst (ms.map V.int))) S = some (.lst (ms.map V.int)) := upd_same
              generalize upd H5 S (.lst (ms.map V.int)) = H6 at s6 eS
              have s46 := s5.trans s6
              have hG6 := hG4.same s46
              obtain ⟨dx6, _, _, _, _, hp6, _⟩ := id hG6
              refine ⟨_, rfl, p, dx6, _, rfl, hp6, gF_no _ _ _ _ (by decide +kernel) (by decide +kernel) (by decide +kernel) (by decide +kernel), _, rfl, p, a, ns, ws, rfl, hG6, ha, fun O hO => ?_⟩
              have s7 : Same H6 (upd H6 O (lstO (opn ws a))) := Same.new hO
              have eO : (upd H6 O (lstO (opn ws a))) O = some (lstO (opn ws a)) := upd_same
              generalize upd H6 O (lstO (opn ws a)) = H7 at s7 eO
              have s47 := s46.trans s7
              refine ⟨_, rfl, S, _, _, _, rfl, rfl, SqL.of (s7 _ _ eS), atI_nat (j := 1) (by rw [List.getElem?_map, em]; rfl), ?_⟩
              have emv := mdF_vl (ws := ws) f g h a
              rw [vl_some ef, vl_some eg, vl_some eh] at emv
              obtain ⟨b, eb, hb⟩ : ∃ b, mdF ws f g h a = some b ∧ b ∈ opn ws a := by
                rcases mdF_or (ws := ws) f g h a with ⟨q, _⟩ | ⟨q, _⟩ | ⟨q, _⟩
                · exact ⟨b1, q.trans ef, ho1⟩
                · exact ⟨b2, q.trans eg, ho2⟩
                · exact ⟨b3, q.trans eh, ho3⟩
              rw [vl_some eb] at emv
              rw [← emv]
              refine ⟨O, _, _, .str b, rfl, rfl, SqL.of eO, atI_str (idx_at hb), ?_⟩
              have e7 := s47 _ _ e4
              have e8 := okv_put (f := pm (mdF ws f g h) (ns.take i)) (o := some b) ha
              have e9 := pm_snoc (m := mdF ws f g h) (qs := ns) ea
              rw [eb] at e9
              refine ⟨_, rfl, _, rfl, D, _, rfl, DPut.k (k := Sum.inr a) e7 (by rw [okv_len]; omega), _, _, rfl, fun b' o' hb' e' => ?_, ?_⟩
              · rw [upd_ne hb']
                exact s47 _ _ (s4 _ _ hb' e')
              · rw [upd_same]
                have e8 : putK (okv ns (pm (mdF ws f g h) (ns.take i))) (Sum.inr a) (.str b) = _ := e8
                rw [e8, e9]
        · rintro σ H4 ⟨v6, v8, rfl, s4, e4⟩
          rw [List.length_map, List.take_of_length_le (Nat.le_refl _)] at e4
          refine ⟨_, rfl, kq D H4 (fun b o e => s4 _ _ (ne_of_none e hDH) (s03 _ _ e)) hDH ?_⟩
          rw [e4]
          exact congrArg (fun z => some (HO.dK z)) (okv_congr fun a ha => if_pos ha)
end
end Qp
namespace Qp
open PySem L2 PySem.W
/-- a block's size -/
def BOk (n : Nat) : Prop := n = 1 ∨ (n % 2 = 0 ∧ 2 ≤ n ∧ n ≤ 6)
/-- a list of new lists -/
def Blks (H H' : Hp) (B : Addr) (ys : List V) (bs : List (List Str)) : Prop := EachIs (fun y b => ∃ t, y = V.ref t ∧ H t = none ∧ t ≠ B ∧ H' t = some (lstO b)) ys bs
theorem Blks.keep {H H' H2 : Hp} {B : Addr} {ys : List V} {bs : List (List Str)} (h : Blks H H' B ys bs) (k : ∀ t b, t ≠ B → H' t = some (lstO b) → H2 t = some (lstO b)) : Blks H H2 B ys bs := EachIs.mono (fun _ _ ⟨t, e, a, b, c⟩ => ⟨t, e, a, b, k t _ b c⟩) h
section
variable {P : Program} {w : World} {K : PySem.W.Frag} {mg : Str → Option Value} {base : Heap}
abbrev nBlk : List Str := ["_law_state", "_law_names_here", "_law_order", "_law_blocks_here", "_law_at", "_law_turn", "_law_size"]
/-- what stands after some blocks -/
structure FB (H0 H : Hp) (st O B : Addr) (order : List Str) (at0 : Nat) (ys : List V) (bs : List (List Str)) : Prop where
  s : StAt H st
  o : H O = some (lstO order)
  nO : O ≠ B
  b : H B = some (.lst ys)
  nB : H0 B = none
  e : Blks H0 H B ys bs
  fl : bs.flatten = order.take at0
  ok : ∀ b ∈ bs, BOk b.length
  sb : ∀ u o, u ≠ st → H0 u = some o → H u = some o
  fr : ∀ u, H u = none → H0 u = none
  u : ∀ b ∈ bs, b.length = 1 → at0 = order.length
  v : ∀ b ∈ bs, ∀ c ∈ bs, b.length = 1 → c.length = 1 → b = c
theorem FB.draw {H0 H : Hp} {st O B : Addr} {order : List Str} {at0 : Nat} {ys : List V} {bs : List (List Str)} (F : FB H0 H st O B order at0 ys bs) (nst : B ≠ st) {n z : Int} (h0 : 0 ≤ n) (h1 : 0 ≤ z) (h2 : z < 2147483629) : FB H0 (upd H st (.lst [.int n, .int z])) st O B order at0 ys bs :=
  have sb : SameBut st H (upd H st (.lst [.int n, .int z])) := SameBut.set
  ⟨⟨n, z, upd_same, h0, h1, h2⟩, sb _ _ (ne_st F.s F.o) F.o, F.nO, sb _ _ nst F.b, F.nB, F.e.keep fun t b _ e => sb _ _ (ne_st F.s e) e, F.fl, F.ok, fun u o n e => sb _ _ n (F.sb u o n e), fun u e => F.fr u (by
    by_cases c : u = st
    · rw [c, upd_same] at e
      cases e
    · rw [upd_ne c] at e
      exact e), F.u, F.v⟩
section
variable {f : Addr} {cdv : Value} {A : Around} {outer : List Env} {s : Shared} {H0' : Hp} {E0' : XK}
theorem blk_tail (B' : Bl mg) (hr : Room 2 (A.deeper (PyProof.Rows.envOfC "_law_blocks" (defScope sLblocks) s.heap.objs.size f cdv))) :
    ∃ t, PSs (cxOf CX0 P w K mg base nBlk "_law_blocks" (defScope sLblocks) f cdv A outer s H0' E0').nox ((forB (forB (defBody sLblocks) 3) 0).drop 2) t ∧
      ∀ (st it O B : Addr) (Dn : Ends) (at0 n : Nat) (v5 : Option V) (order : List Str) (H0 H : Hp) (ys : List V) (bs : List (List Str)), FB H0 H st O B order at0 ys bs → B ≠ st → BOk n → at0 + n ≤ order.length → order.length ≤ 100 → ys.length ≤ 100 → at0 < order.length → (n = 1 → at0 + n = order.length) →
        (∀ H' ys' bs', FB H0 H' st O B order (at0 + n) ys' bs' → ys'.length = ys.length + 1 → Dn.nx [some (.ref st), some (.ref it), some (.ref O), some (.ref B), some (.int (at0 + n : Nat)), v5, some (.int (n : Nat))] H') →
        t Dn [some (.ref st), some (.ref it), some (.ref O), some (.ref B), some (.int (at0 : Nat)), v5, some (.int (n : Nat))] H := by
  have esz : sizeLine = 16777216 := sizeLine_eq
  refine ⟨_, pss_cons (ps_expr (pe_bm PySem.F.plainAttrs_list PySem.F.slot_list_append PySem.F.type_list_append mt_append (pv 3) (pa_cons (pe_slice sl_list (pv 2) (po_some (pv 4)) (po_some (pe_op op_add (pv 4) (pv 6)))) pa_nil)))
    (pss_one (ps_aug (i := 4) scLblocks.nd rfl (Or.inl rfl) (pv 6) ip_add)), ?_⟩
  rintro st it O B Dn at0 n v5 order H0 H ys bs F nst hn hle hol hyl hlt hn1 kq
  refine ⟨_, rfl, .inl ⟨rfl, _, SqL.of F.b⟩, _, rfl, _, rfl, _, rfl, _, rfl, _, rfl, _, _, rfl, rfl, _, rfl, O, _, rfl, SqL.of F.o, fun T hT => ?_⟩
  have e2 : ((at0 : Nat) : Int) + ((n : Nat) : Int) = ((at0 + n : Nat) : Int) := by omega
  rw [e2]
  have sB := Same.new (o := HO.lst (cutV (order.map V.str) (some ((at0 : Nat) : Int)) (some ((at0 + n : Nat) : Int)))) hT
  have eB := cut_lstM (H := H) (L := T) (zs := order) (i := at0) (j := n)
  generalize upd H T (.lst (cutV (order.map V.str) (some ((at0 : Nat) : Int)) (some ((at0 + n : Nat) : Int)))) = H1 at sB eB
  have nTB : T ≠ B := ne_of_none F.b hT |>.symm
  have hT0 := F.fr T hT
  dsimp only [tNil]
  refine ⟨B, ys, _, rfl, rfl, sB _ _ F.b, by omega, ?_⟩
  refine ⟨_, rfl, _, rfl, _, _, rfl, rfl, ?_⟩
  have e3 : V.int (((at0 : Nat) : Int) + ((n : Nat) : Int)) = V.int ((at0 + n : Nat) : Int) := by rw [e2]
  have hcat : order.take at0 ++ (order.drop at0).take n = order.take (at0 + n) := (List.take_add).symm
  have fin := kq (upd H1 B (.lst (ys ++ [.ref T]))) (ys ++ [.ref T]) (bs ++ [(order.drop at0).take n]) ⟨?_, ?_, F.nO, upd_same, F.nB, ?_, ?_, ?_, ?_, ?_, ?_, ?_⟩ (by rw [List.length_append]; rfl)
  · rw [← e3] at fin
    exact fin
  · obtain ⟨i, j, e, q⟩ := F.s
    exact ⟨i, j, by rw [upd_ne (Ne.symm nst)]; exact sB _ _ e, q⟩
  · rw [upd_ne F.nO]
    exact sB _ _ F.o
  · refine each_app (EachIs.mono (fun y b ⟨t, e, a, nb, c⟩ => ⟨t, e, a, nb, by rw [upd_ne nb]; exact sB _ _ c⟩) F.e) (.cons ⟨T, rfl, hT0, nTB, by rw [upd_ne nTB]; exact eB⟩ .nil)
  · rw [List.flatten_append, F.fl, List.flatten_cons, List.flatten_nil, List.append_nil, hcat]
  · intro b hb
    rcases List.mem_append.mp hb with hb | hb
    · exact F.ok b hb
    · have : b = (order.drop at0).take n := by simpa using hb
      rw [this, List.length_take, List.length_drop, Nat.min_eq_left (by omega)]
      exact hn
  · intro u o nu e
    rw [upd_ne (ne_of_none e F.nB)]
    exact sB _ _ (F.sb u o nu e)
  · intro u e
    by_cases c : u = B
    · rw [c, upd_same] at e
      cases e
    · rw [upd_ne c] at e
      refine F.fr u ?_
      cases eu : H u with
      | none => rfl
      | some o =>
        rw [sB _ _ eu] at e
        cases e
  · intro b hb e1
    rcases List.mem_append.mp hb with hb | hb
    · have := F.u b hb e1
      omega
    · have : b = (order.drop at0).take n := by simpa using hb
      rw [this, List.length_take, List.length_drop, Nat.min_eq_left (by omega)] at e1
      exact hn1 e1
  · intro b hb c hc e1 e2
    rcases List.mem_append.mp hb with hb | hb
    · have := F.u b hb e1
      omega
    · rcases List.mem_append.mp hc with hc | hc
      · have := F.u c hc e2
        omega
      · have h1 : b = (order.drop at0).take n := by simpa using hb
        have h2 : c = (order.drop at0).take n := by simpa using hc
        rw [h1, h2]
end
/-- _law_blocks(state, names) -/
def spBlk : Sp := fun vs H Q _ => ∃ (st it : Addr) (ns : List Str), vs = [.ref st, .ref it] ∧ StAt H st ∧ H it = some (lstO ns) ∧ ns.Nodup ∧ ns.length ≤ 100 ∧
  ∀ (B : Addr) (H' : Hp) (ys : List V) (bs : List (List Str)), bs.flatten.Perm ns → (∀ b ∈ bs, BOk b.length) → (∀ b ∈ bs, ∀ c ∈ bs, b.length = 1 → c.length = 1 → b = c) → SameBut st H H' → StAt H' st → H B = none → H' B = some (.lst ys) → Blks H H' B ys bs → ys.length ≤ 100 → Q (.ref B) H'
theorem ok_blk {f : Addr} {fd : FuncData} (F : Fun K "_law_blocks" "_law_blocks" sLblocks f fd) (B : Bl mg) (cT : CF P w K mg base CX0 1 "_law_take" ["_law_state", "_law_many_here"] spTake) (cM : CF P w K mg base CX0 2 "_law_mixed" ["_law_state", "_law_items"] spMixed) :
    FnOk P w K mg base CX0 3 f fd ["_law_state", "_law_names_here"] spBlk := by
  refine F.ok scLblocks (fun vs H Q E h => ?_) (fun cdv A outer s H vs Q E hr h => ?_)
  · obtain ⟨st, it, ns, rfl, _⟩ := h
    rfl
  · obtain ⟨st, it, ns, rfl, hst, hit, hnd, hlen, kq⟩ := h
    have esz : sizeLine = 16777216 := sizeLine_eq
    have hr1 : Room 1 _ := hr.mono (by decide)
    obtain ⟨t, ht, q⟩ := blk_tail (P := P) (w := w) (base := base) (outer := outer) (H0' := H) (E0' := E) B hr
    refine ⟨_, pss_cons (ps_set (i := 2) scLblocks.nd rfl (Or.inl rfl) (pe_cf cM hr pass0 (pa_cons (pv 0) (pa_cons (pv 1) pa_nil))))
      (pss_cons (ps_set (i := 3) scLblocks.nd rfl (Or.inl rfl) (pe_lst pa_nil))
      (pss_cons (ps_set (i := 4) scLblocks.nd rfl (Or.inl rfl) pe_int)
      (pss_cons (ps_for PassesOwn.never rfl (pi_range1 (by rfl) B.rng (pa_cons (pe_callB call_len_seq (by rfl) B.len PySem.boot_len (pa_cons (pv 2) pa_nil)) pa_nil)) (pg_name (i := 5) scLblocks.nd rfl (Or.inl rfl))
        (pss_one (ps_if (pt_cmpR op_lt (pv 4) (pe_callB call_len_seq (by rfl) B.len PySem.boot_len (pa_cons (pv 2) pa_nil)) (nomark _))
          (pss_cons (ps_set (i := 6) scLblocks.nd rfl (Or.inl rfl) (pe_callB (call_min2 rfl) (by rfl) B.min (by decide +kernel) (pa_cons (pe_ix ix_list (pe_lst (pa_cons pe_int (pa_cons pe_int (pa_cons pe_int (pa_cons pe_int pa_nil))))) (pe_cf cT hr1 pass0 (pa_cons (pv 0) (pa_cons pe_int pa_nil))) (fun _ _ => rfl))
            (pa_cons (pe_op op_sub (pe_callB call_len_seq (by rfl) B.len PySem.boot_len (pa_cons (pv 2) pa_nil)) (pv 4)) pa_nil))))
          (pss_cons (ps_if (pt_cmpR op_gt (pv 6) pe_int (nomark _)) (pss_one (ps_aug (i := 6) scLblocks.nd rfl (Or.inl rfl) (pe_op op_modN (pe_callTy call_int1 (by rfl) B.int (by decide +kernel) (pa_cons (pv 6) pa_nil)) pe_int) ip_sub)) pss_nil)
          ht)) pss_nil)))
      (pss_one (ps_ret (pv 3)))))), ?_⟩
    refine ⟨_, rfl, _, rfl, st, it, ns, rfl, hst, hit, by omega, fun O order H1 hperm sb1 hs1 hO0 hO => ?_⟩
    have hord : order.Nodup := hperm.nodup_iff.mpr hnd
    have hol : order.length ≤ 100 := by rw [hperm.length_eq]; exact hlen
    refine ⟨Nat.zero_le _, fun D hD => ?_⟩
    have s5 : Same H1 (upd H1 D (.lst [])) := Same.new hD
    have e5 : (upd H1 D (.lst [])) D = some (.lst []) := upd_same
    have nDO : O ≠ D := ne_of_none hO hD
    have nDst : D ≠ st := new_ne_st hs1 hD
    have hD0 : H D = none := by
      cases e : H D with
      | none => rfl
      | some o =>
        have := sb1 _ _ nDst e
        rw [this] at hD
        cases hD
    generalize hH2 : upd H1 D (.lst []) = H2 at s5 e5
    have FI : FB H H2 st O D order 0 [] [] := by
      refine ⟨hs1.same s5, s5 _ _ hO, nDO, e5, hD0, .nil, rfl, (fun b hb => by cases hb), fun u o n e => s5 _ _ (sb1 _ _ n e), fun u e => ?_, (fun b hb => by cases hb), (fun b hb => by cases hb)⟩
      cases eu : H u with
      | none => rfl
      | some o =>
        exfalso
        by_cases c : u = st
        · obtain ⟨i, j, e1, _⟩ := hs1
          rw [c, s5 _ _ e1] at e
          cases e
        · rw [s5 _ _ (sb1 _ _ c eu)] at e
          cases e
    clear hH2
    refine ⟨_, rfl, O, _, rfl, .inl (SqL.of FI.o), _, rfl, by rw [List.length_map]; omega, by rw [List.length_map]; omega,
      for_it (walk_range (lo := 0) (n := (((order.map V.str).length : Nat) : Int).toNat)) (fun i σ H' => ∃ (at0 : Nat) (v5 v6 : Option V) (ys : List V) (bs : List (List Str)), σ = [some (.ref st), some (.ref it), some (.ref O), some (.ref D), some (.int at0), v5, v6] ∧ (i ≤ at0 ∨ order.length ≤ at0) ∧ ys.length ≤ i ∧ FB H H' st O D order at0 ys bs)
      ⟨0, none, none, [], [], rfl, .inl (Nat.le_refl _), Nat.le_refl _, FI⟩ (fun _ _ _ _ _ => True.intro) ?_ ?_⟩
    · rintro i x σ Hx H3 hi ⟨at0, v5, v6, ys, bs, rfl, hat, hyl, F3⟩ ⟨rfl, rfl⟩
      rw [List.length_map, Int.toNat_natCast] at hi
      refine ⟨_, rfl, _, rfl, O, _, rfl, .inl (SqL.of F3.o), _, _, rfl, rfl, _, rfl, ?_⟩
      rw [List.length_map]
      by_cases c : at0 < order.length
      · rw [decide_eq_true (by omega : ((at0 : Nat) : Int) < ((order.length : Nat) : Int))]
        refine iteT ⟨by show 4 ≤ sizeLine; rw [esz]; decide, fun L hL => ?_⟩
        have sL : Same H3 (upd H3 L (.lst [.int 2, .int 4, .int 6, .int 4])) := Same.new hL
        have eL : (upd H3 L (.lst [.int 2, .int 4, .int 6, .int 4])) L = some (.lst [.int 2, .int 4, .int 6, .int 4]) := upd_same
        have nLst : L ≠ st := new_ne_st F3.s hL
        have F4 : FB H (upd H3 L (.lst [.int 2, .int 4, .int 6, .int 4])) st O D order at0 ys bs := ⟨F3.s.same sL, sL _ _ F3.o, F3.nO, sL _ _ F3.b, F3.nB, F3.e.keep fun t b _ e => sL _ _ e, F3.fl, F3.ok, fun u o n e => sL _ _ (F3.sb u o n e), fun u e => F3.fr u (by
          cases eu : H3 u with
          | none => rfl
          | some o =>
            rw [sL _ _ eu] at e
            cases e), F3.u, F3.v⟩
        generalize upd H3 L (.lst [.int 2, .int 4, .int 6, .int 4]) = H4 at sL eL F4
        refine ⟨_, rfl, st, 4, rfl, by decide, by decide, F4.s, fun d n1 z1 hd0 hd1 a1 a2 a3 => ?_⟩
        have F5 := F4.draw nDst a1 a2 a3
        have eL5 : (upd H4 st (.lst [.int n1, .int z1])) L = _ := (upd_ne nLst).trans eL
        generalize upd H4 st (.lst [.int n1, .int z1]) = H5 at F5 eL5
        obtain ⟨d, rfl⟩ := Int.eq_ofNat_of_zero_le hd0
        obtain ⟨z, ez, hz⟩ : ∃ z : Nat, [V.int 2, V.int 4, V.int 6, V.int 4][d]? = some (.int (z : Nat)) ∧ 2 ≤ z ∧ z ≤ 6 := by
          have hd : d < 4 := by omega
          match d, hd with
          | 0, _ => exact ⟨2, rfl, by omega, by omega⟩
          | 1, _ => exact ⟨4, rfl, by omega, by omega⟩
          | 2, _ => exact ⟨6, rfl, by omega, by omega⟩
          | 3, _ => exact ⟨4, rfl, by omega, by omega⟩
        refine ⟨L, _, _, _, rfl, rfl, SqL.of eL5, atI_nat ez, ?_⟩
        refine ⟨_, rfl, O, _, rfl, .inl (SqL.of F5.o), _, rfl, _, _, rfl, rfl, _, _, rfl, ?_⟩
        rw [List.length_map]
        obtain ⟨m, em, hm1, hm2, hm3, hm4⟩ : ∃ m : Nat, (if ((order.length : Nat) : Int) - ((at0 : Nat) : Int) < ((z : Nat) : Int) then ((order.length : Nat) : Int) - ((at0 : Nat) : Int) else ((z : Nat) : Int)) = ((m : Nat) : Int) ∧ 1 ≤ m ∧ m ≤ 6 ∧ at0 + m ≤ order.length ∧ (m = 1 → at0 + m = order.length) := by
          by_cases q : ((order.length : Nat) : Int) - ((at0 : Nat) : Int) < ((z : Nat) : Int)
          · rw [if_pos q]
            exact ⟨order.length - at0, by omega, by omega, by omega, by omega, by omega⟩
          · rw [if_neg q]
            exact ⟨z, rfl, by omega, by omega, by omega, by omega⟩
        rw [em]
        refine ⟨_, rfl, _, _, rfl, rfl, _, rfl, ite2 (fun hg => ?_) (fun hg => ?_)⟩
        · have hg : ((m : Nat) : Int) > 1 := of_decide_eq_true hg
          refine ⟨_, rfl, _, rfl, .inl ⟨_, rfl, _, _, rfl, rfl, by show (2 : Int) ≠ 0; decide, _, _, rfl, rfl, ?_⟩⟩
          have e9 : ((m : Nat) : Int) - ((m : Nat) : Int).fmod 2 = ((m - m % 2 : Nat) : Int) := by
            rw [Int.fmod_eq_emod_of_nonneg _ (by decide)]
            omega
          dsimp only
          rw [e9]
          exact q st it O D _ at0 (m - m % 2) _ order H H5 ys bs F5 nDst (.inr ⟨by omega, by omega, by omega⟩) (by omega) hol (by omega) c (by omega) fun H' ys' bs' F' hl' => ⟨at0 + (m - m % 2), _, _, ys', bs', rfl, by omega, by omega, F'⟩
        · have hg : ¬ ((m : Nat) : Int) > 1 := fun h => hg (decide_eq_true h)
          exact q st it O D _ at0 m _ order H H5 ys bs F5 nDst (.inl (by omega)) (by omega) hol (by omega) c (by omega) fun H' ys' bs' F' hl' => ⟨at0 + m, _, _, ys', bs', rfl, by omega, by omega, F'⟩
      · rw [decide_eq_false (by omega : ¬ ((at0 : Nat) : Int) < ((order.length : Nat) : Int))]
        exact iteF ⟨at0, _, _, ys, bs, rfl, by omega, by omega, F3⟩
    · rintro σ H3 ⟨at0, v5, v6, ys, bs, rfl, hat, hyl, F3⟩
      rw [List.length_map, Int.toNat_natCast] at hat hyl
      have hfl := F3.fl
      rw [List.take_of_length_le (by omega)] at hfl
      exact ⟨_, rfl, kq D H3 ys bs (by rw [hfl]; exact hperm) F3.ok F3.v (fun b o n e => F3.sb b o n e) F3.s F3.nB F3.b F3.e (by omega)⟩
end
end Qp
namespace Qp
open PySem L2 PySem.W
/-! a dict of rows, each of which keeps a relation to its key -/
section
variable {R : Str → List Str → Prop}
def PartP (R : Str → List Str → Prop) (H : Hp) (D : Addr) (qs : List Str) : Prop := ∃ ws : Str → List Str, RowsG H D qs (fun a => lstO (ws a)) ∧ ∀ a ∈ qs, R a (ws a)
theorem PartP.new {H : Hp} {D : Addr} (h : H D = some (.dK [])) : PartP R H D [] := ⟨fun _ => [], RowsG.nil h, fun _ h => by cases h⟩
theorem PartP.dk {H : Hp} {D : Addr} {qs : List Str} (h : PartP R H D qs) : ∃ kvs, H D = some (.dK kvs) := by
  obtain ⟨ws, ⟨ad, e, _⟩, _⟩ := h
  exact ⟨_, e⟩
theorem PartP.same {H H' : Hp} (s : Same H H') {D : Addr} {qs : List Str} (h : PartP R H D qs) : PartP R H' D qs := by
  obtain ⟨ws, Rw, g⟩ := h
  exact ⟨ws, Rw.same s, g⟩
theorem PartP.but {st : Addr} {H H' : Hp} (s : SameBut st H H') (hs : StAt H st) {D : Addr} {qs : List Str} (h : PartP R H D qs) : PartP R H' D qs := by
  obtain ⟨ws, ⟨ad, e, q⟩, g⟩ := h
  have hs2 := hs
  obtain ⟨n, z, es, _⟩ := hs2
  exact ⟨ws, ⟨ad, s _ _ (ne_of e es (by intro y; cases y)) e, fun a ha => ⟨s _ _ (ne_st hs (q a ha).1) (q a ha).1, (q a ha).2⟩⟩, g⟩
theorem PartP.ne {H : Hp} {D p : Addr} {qs zs : List Str} (h : PartP R H D qs) (hp : H p = some (lstO zs)) : p ≠ D := by
  obtain ⟨kvs, e⟩ := h.dk
  exact ne_of hp e (by intro z; cases z)
theorem PartP.put {H : Hp} {D p : Addr} {qs row : List Str} {a : Str} (h : PartP R H D qs) (ha : a ∉ qs) (hp : H p = some (lstO row)) (g : R a row) :
    ∃ kvs, H D = some (.dK kvs) ∧ kvs.length = qs.length ∧ PartP R (upd H D (.dK (putK kvs (Sum.inr a) (.ref p)))) D (qs ++ [a]) := by
  have npd := h.ne hp
  obtain ⟨ws, Rw, gw⟩ := h
  have hc : ∀ x ∈ qs, (if x = a then row else ws x) = ws x := fun x hx => if_neg fun z : x = a => ha (z ▸ hx)
  have Rw' : RowsG H D qs (fun x => lstO (if x = a then row else ws x)) := by
    obtain ⟨ad, e, q⟩ := Rw
    refine ⟨ad, e, fun x hx => ?_⟩
    show H (ad x) = some (lstO (if x = a then row else ws x)) ∧ ad x ≠ D
    rw [hc x hx]
    exact q x hx
  obtain ⟨kvs, h1, h2, h3⟩ := Rw'.snoc (Same.refl H) ha (p := p) (by show H p = some (lstO (if a = a then row else ws a)); rw [if_pos rfl]; exact hp) npd
  refine ⟨kvs, h1, h2, fun x => if x = a then row else ws x, h3, fun x hx => ?_⟩
  by_cases hxa : x = a
  · subst hxa
    show R x (if x = x then row else ws x)
    rw [if_pos rfl]
    exact g
  · show R x (if x = a then row else ws x)
    rw [if_neg hxa]
    rcases List.mem_append.mp hx with z | z
    · exact gw x z
    · exact absurd (by simpa using z) hxa
structure LayP (R : Str → List Str → Prop) (Hs H : Hp) (st D : Addr) (qs : List Str) : Prop where
  st_ : StAt H st
  p : PartP R H D qs
  b : But2 st D Hs H
theorem LayP.same {Hs H H' : Hp} {st D : Addr} {qs : List Str} (h : LayP R Hs H st D qs) (s : Same H H') : LayP R Hs H' st D qs := ⟨h.st_.same s, h.p.same s, h.b.trans (s.but2 st D)⟩
theorem LayP.but {Hs H H' : Hp} {st D : Addr} {qs : List Str} (h : LayP R Hs H st D qs) (s : SameBut st H H') (hs : StAt H' st) : LayP R Hs H' st D qs := ⟨hs, h.p.but s h.st_, h.b.trans (s.but2 D)⟩
theorem LayP.draw {Hs H : Hp} {st D : Addr} {qs : List Str} (h : LayP R Hs H st D qs) {n z : Int} (h0 : 0 ≤ n) (h1 : 0 ≤ z) (h2 : z < 2147483629) : LayP R Hs (upd H st (.lst [.int n, .int z])) st D qs := h.but SameBut.set ⟨n, z, upd_same, h0, h1, h2⟩
theorem LayP.l {Hs H : Hp} {st D : Addr} {qs : List Str} (h : LayP R Hs H st D qs) (hs : StAt Hs st) (hd : ∃ kvs, Hs D = some (.dK kvs)) {p : Addr} {zs : List Str} (hp : Hs p = some (lstO zs)) : H p = some (lstO zs) := by
  obtain ⟨kvs, e⟩ := hd
  exact h.b _ _ hp (ne_st hs hp) (ne_of hp e (by intro z; cases z))
theorem LayP.nD {Hs H : Hp} {st D : Addr} {qs : List Str} (h : LayP R Hs H st D qs) : st ≠ D := by
  obtain ⟨kvs, e⟩ := h.p.dk
  obtain ⟨n, z, e2, _⟩ := h.st_
  intro y
  rw [← y, e2] at e
  cases e
theorem LayP.put {Hs H : Hp} {st D p : Addr} {qs row : List Str} {a : Str} (h : LayP R Hs H st D qs) (ha : a ∉ qs) (hp : H p = some (lstO row)) (g : R a row) :
    ∃ kvs, H D = some (.dK kvs) ∧ kvs.length = qs.length ∧ LayP R Hs (upd H D (.dK (putK kvs (Sum.inr a) (.ref p)))) st D (qs ++ [a]) := by
  obtain ⟨kvs, h1, h2, h3⟩ := h.p.put ha hp g
  have nD := h.nD
  refine ⟨kvs, h1, h2, ?_, h3, h.b.trans But2.setD⟩
  obtain ⟨n, z, e, r⟩ := h.st_
  exact ⟨n, z, by rw [upd_ne nD]; exact e, r⟩
end
/-- whom a person of a block wishes for first -/
def hdR (ring : List Str) : List Str := if 1 < ring.length then (ring[0]?.toList ++ ring[ring.length - 1]?.toList) else ring.take 1
def hdK (b : List Str) (k : Nat) : List Str := hdR (b.drop (k + 1) ++ b.take k)
theorem hdR_two {ring : List Str} {x y : Str} (h : 1 < ring.length) (ex : ring[0]? = some x) (ey : ring[ring.length - 1]? = some y) : hdR ring = [x, y] := by
  unfold hdR
  rw [if_pos h, ex, ey]
  rfl
theorem hdR_one {ring : List Str} (h : ¬ 1 < ring.length) : hdR ring = ring.take 1 := if_neg h
/-- a row as the blocks ask it -/
def RowK (ns : List Str) (hd : Str → List Str) (a : Str) (row : List Str) : Prop := GRow ns a row ∧ ∃ tl, row = hd a ++ tl
section
variable {P : Program} {w : World} {K : PySem.W.Frag} {mg : Str → Option Value} {base : Heap}
abbrev nBl : List Str := ["_law_state", "_law_names_here", "_law_blocks_here", "_law_wishes", "_law_block", "_law_k", "_law_ring", "_law_head", "_law_tail", "_law_b"]
def blS (st it Bl D Ba : Addr) (k : Nat) (v6 v7 v8 : Option V) : St := [some (.ref st), some (.ref it), some (.ref Bl), some (.ref D), some (.ref Ba), some (.int k), v6, v7, v8, none]
section
variable {f : Addr} {cdv : Value} {A : Around} {outer : List Env} {s : Shared} {H0 : Hp} {E0' : XK}
theorem bl4 (B : Bl mg) (cT : CF P w K mg base CX0 1 "_law_take" ["_law_state", "_law_many_here"] spTake) (hr : Room 2 (A.deeper (PyProof.Rows.envOfC "_law_block_lists" (defScope sLblocklists) s.heap.objs.size f cdv))) :
    ∃ t, PSs (cxOf CX0 P w K mg base nBl "_law_block_lists" (defScope sLblocklists) f cdv A outer s H0 E0').nox ((forB (forB (defBody sLblocklists) 1) 0).drop 4) t ∧
      ∀ (st it Bl D Ba : Addr) (k : Nat) (a : Str) (block qs ns hs ts : List Str) (hd : Str → List Str) (Hs H : Hp) (Dn : Ends) (v6 : Option V) (h tl : Addr), BkF block ns qs k a → BkH Hs st D Ba it block ns → LayP (RowK ns hd) Hs H st D qs → H h = some (lstO hs) → H tl = some (lstO ts) → GRow ns a (hs ++ ts) → hd a = hs →
        (∀ (H' : Hp) (w6 w7 w8 : Option V), LayP (RowK ns hd) Hs H' st D (qs ++ [a]) → Dn.nx (blS st it Bl D Ba k w6 w7 w8) H') →
        t Dn (blS st it Bl D Ba k v6 (some (.ref h)) (some (.ref tl))) H := by
  have hu := hu_of hr
  have hr1 : Room 1 _ := hr.mono (by decide)
  have esz : sizeLine = 16777216 := sizeLine_eq
  refine ⟨_, pss_one (ps_dput hu (pv 3) (pe_ix ix_list (pv 4) (pv 5) (fun _ _ => rfl)) (pe_op op_cat (pv 7) (pe_slice sl_list (pv 8) po_none (po_some (pe_cf cT hr1 pass0 (pa_cons (pv 0) (pa_cons (pe_op op_add (pe_callB call_len_seq (by rfl) B.len PySem.boot_len (pa_cons (pv 8) pa_nil)) pe_int) pa_nil)))))) rfl), ?_⟩
  rintro st it Bl D Ba k a block qs ns hs ts hd Hs H Dn v6 h tl F G Y eh et g ehd kq
  have hgl := g.len
  rw [List.length_append] at hgl
  have hnl := F.lenn
  have hql := F.lenq
  refine ⟨_, rfl, _, rfl, _, rfl, _, rfl, tl, _, rfl, .inl (SqL.of et), _, _, rfl, rfl, st, ts.length + 1, by rw [List.length_map]; rfl, by omega, by omega, Y.st_, fun d n1 z1 hd0 hd1 a1 a2 a3 => ?_⟩
  have Y1 := Y.draw a1 a2 a3
  have sb1 : SameBut st H (upd H st (.lst [.int n1, .int z1])) := SameBut.set
  generalize upd H st (.lst [.int n1, .int z1]) = H1 at Y1 sb1
  replace eh := sb1 _ _ (ne_st Y.st_ eh) eh
  replace et := sb1 _ _ (ne_st Y.st_ et) et
  obtain ⟨i, rfl⟩ := Int.eq_ofNat_of_zero_le hd0
  refine ⟨_, rfl, tl, _, rfl, SqL.of et, fun L hL => ?_⟩
  have s2 := Same.new (o := HO.lst (cutV (ts.map V.str) none (some ((i : Nat) : Int)))) hL
  have e2 := cut_lstT (H := H1) (L := L) (zs := ts) (i := i)
  generalize upd H1 L (.lst (cutV (ts.map V.str) none (some ((i : Nat) : Int)))) = H2 at s2 e2
  have Y2 := Y1.same s2
  have g2 : GRow ns a (hs ++ ts.take i) := g.sub (List.Sublist.append_left (List.take_sublist i ts) hs)
  refine ⟨h, L, _, _, rfl, rfl, s2 _ _ eh, e2, by rw [List.length_map, List.length_map, List.length_take]; omega, fun L3 hL3 => ?_⟩
  have sL := Same.new (o := HO.lst (hs.map V.str ++ (ts.take i).map V.str)) hL3
  have eL := cat_lstO (H := H2) (L := L3) (xs := hs) (ys := ts.take i)
  generalize upd H2 L3 (.lst (hs.map V.str ++ (ts.take i).map V.str)) = H3 at sL eL
  have Y3 := Y2.same sL
  obtain ⟨kvs, h1, h2, Y4⟩ := Y3.put F.na eL (show RowK ns hd a (hs ++ ts.take i) from ⟨g2, _, by rw [ehd]⟩)
  exact ⟨_, rfl, _, rfl, _, rfl, Ba, _, k, .str a, rfl, rfl, SqL.of (Y3.l G.s G.d G.b), atI_str F.at_, D, _, rfl, DPut.k (k := Sum.inr a) h1 (by omega), kq _ _ _ _ Y4⟩
theorem bl3 (B : Bl mg) (cT : CF P w K mg base CX0 1 "_law_take" ["_law_state", "_law_many_here"] spTake) (cM : CF P w K mg base CX0 2 "_law_mixed" ["_law_state", "_law_items"] spMixed) (cO : CF P w K mg base CX0 1 "_law_others" ["_law_names_here", "_law_a"] (spOthers K))
    (hr : Room 2 (A.deeper (PyProof.Rows.envOfC "_law_block_lists" (defScope sLblocklists) s.heap.objs.size f cdv))) :
    ∃ t, PSs (cxOf CX0 P w K mg base nBl "_law_block_lists" (defScope sLblocklists) f cdv A outer s H0 E0').nox ((forB (forB (defBody sLblocklists) 1) 0).drop 3) t ∧
      ∀ (st it Bl D Ba : Addr) (k : Nat) (a : Str) (block qs ns hs : List Str) (hd : Str → List Str) (Hs H : Hp) (Dn : Ends) (v6 v8 : Option V) (h : Addr), BkF block ns qs k a → BkH Hs st D Ba it block ns → LayP (RowK ns hd) Hs H st D qs → H h = some (lstO hs) → GRow ns a hs → hd a = hs →
        (∀ (H' : Hp) (w6 w7 w8 : Option V), LayP (RowK ns hd) Hs H' st D (qs ++ [a]) → Dn.nx (blS st it Bl D Ba k w6 w7 w8) H') →
        t Dn (blS st it Bl D Ba k v6 (some (.ref h)) v8) H := by
  obtain ⟨t, ht, q⟩ := bl4 (P := P) (w := w) (base := base) (outer := outer) (H0 := H0) (E0' := E0') B cT hr
  have hr1 : Room 1 _ := hr.mono (by decide)
  have esz : sizeLine = 16777216 := sizeLine_eq
  refine ⟨_, pss_cons (ps_set (i := 8) scLblocklists.nd rfl (Or.inl rfl) (pe_cf cM hr pass0 (pa_cons (pv 0) (pa_cons
      (pe_lc (own := [("_law_b", 9)]) (g := gName 9) rfl scLblocklists.nd (pi_list (pe_cf cO hr1 pass0 (pa_cons (pv 1) (pa_cons (pe_ix ix_list (pv 4) (pv 5) (fun _ _ => rfl)) pa_nil)))) (blkOk_by (own := [("_law_b", 9)]) (N := nBl) (sc := defScope sLblocklists) (by decide +kernel))
          (fun _ _ _ _ _ => pg_name (i := 9) scLblocklists.nd rfl (Or.inl rfl)) (fun _ _ _ _ _ => pts_one (pt_cmpR (op_notInSK (K := K) rfl hr.units) (pv 9) (pv 7) (by rfl))) (fun _ _ _ _ _ => pv 9)) pa_nil)))) ht, ?_⟩
  rintro st it Bl D Ba k a block qs ns hs hd Hs H Dn v6 v8 h F G Y eh g ehd kq
  have hgl := g.len
  have hnl := F.lenn
  refine ⟨_, rfl, _, rfl, _, rfl, _, rfl, Ba, _, k, .str a, rfl, rfl, SqL.of (Y.l G.s G.d G.b), atI_str F.at_, it, ns, a, rfl, Y.l G.s G.d G.i, by omega, fun Oa H1 s1 hOa eOa => ?_⟩
  have hfl : (ns.filter fun z => !decide (z = a)).length ≤ ns.length := List.length_filter_le _ _
  have gO : GRow ns a (ns.filter fun z => !decide (z = a)) := filt_grow F.ndn fun z hz => hz
  generalize (ns.filter fun z => !decide (z = a)) = os at eOa hfl gO
  refine ⟨Oa, rfl, ⟨_, SqL.of eOa⟩, fun L hL => lc_it walk_list (fun i H' => Same H1 H' ∧ H' L = some (lstO ((os.take i).filter fun z => !decide (z ∈ hs)))) ⟨Same.new hL, upd_same⟩ (fun i H' _ z => z.1.seq (SqL.of eOa)) ?_ ?_⟩
  · rintro i x Hx H2 hi ⟨s2, hD1⟩ ⟨rfl, hx⟩
    rw [List.getElem?_map] at hx
    cases ex : os[i]? with
    | none => rw [ex] at hx; cases hx
    | some z =>
      rw [ex] at hx
      cases hx
      have hlt : ((os.take i).filter fun z => !decide (z ∈ hs)).length < sizeLine := by
        have q1 := List.length_filter_le (fun z => !decide (z ∈ hs)) (os.take i)
        rw [List.length_take] at q1
        omega
      refine ⟨rfl, _, rfl, _, rfl, h, hs, rfl, .inl (SqL.of (s2 _ _ (s1 _ _ eh))), .flat rfl, _, rfl, ?_⟩
      rw [if_pos rfl, inS_str]
      by_cases hza : z ∈ hs
      · rw [decide_eq_true hza]
        refine iteF ⟨s2, ?_⟩
        rw [take_snoc ex, List.filter_append, List.filter_cons_of_neg (by rw [decide_eq_true hza]; decide), List.filter_nil, List.append_nil]
        exact hD1
      · rw [decide_eq_false hza]
        refine iteT ⟨_, rfl, _, hD1, by rw [List.length_map]; exact hlt, fun b o e => ?_, ?_⟩
        · rw [upd_ne (ne_of_none e hL)]
          exact s2 _ _ e
        · rw [upd_same, take_snoc ex, List.filter_append, List.filter_cons_of_pos (by rw [decide_eq_false hza]; decide), List.filter_nil]
          unfold lstO
          rw [List.map_append]
          rfl
  · rintro H2 ⟨s2, hD1⟩
    rw [List.length_map, List.take_of_length_le (Nat.le_refl _)] at hD1
    have hml : (os.filter fun z => !decide (z ∈ hs)).length ≤ os.length := List.length_filter_le _ _
    have Y2 := (Y.same s1).same s2
    refine ⟨st, L, _, rfl, Y2.st_, hD1, by omega, fun p ps H3 hperm sb hs3 _ ep => ?_⟩
    have eh2 := s2 _ _ (s1 _ _ eh)
    refine q st it Bl D Ba k a block qs ns hs ps hd Hs H3 Dn v6 h p F G (Y2.but sb hs3) (sb _ _ (ne_st Y2.st_ eh2) eh2) ep ⟨?_, fun b hb => ?_⟩ ehd kq
    · rw [List.nodup_append]
      refine ⟨g.1, hperm.nodup_iff.mpr (gO.1.filter _), fun b hb c hc e => ?_⟩
      have h1 := (List.mem_filter.mp (hperm.mem_iff.mp hc)).2
      rw [← e, decide_eq_true hb] at h1
      cases h1
    · rcases List.mem_append.mp hb with z | z
      · exact g.2 b z
      · exact gO.2 b (List.mem_filter.mp (hperm.mem_iff.mp z)).1
theorem bl0 (B : Bl mg) (cT : CF P w K mg base CX0 1 "_law_take" ["_law_state", "_law_many_here"] spTake) (cM : CF P w K mg base CX0 2 "_law_mixed" ["_law_state", "_law_items"] spMixed) (cO : CF P w K mg base CX0 1 "_law_others" ["_law_names_here", "_law_a"] (spOthers K))
    (hr : Room 2 (A.deeper (PyProof.Rows.envOfC "_law_block_lists" (defScope sLblocklists) s.heap.objs.size f cdv))) :
    ∃ t, PSs (cxOf CX0 P w K mg base nBl "_law_block_lists" (defScope sLblocklists) f cdv A outer s H0 E0').nox (forB (forB (defBody sLblocklists) 1) 0) t ∧
      ∀ (st it Bl D Ba : Addr) (k : Nat) (a : Str) (block qs ns : List Str) (hd : Str → List Str) (Hs H : Hp) (Dn : Ends) (v6 v7 v8 : Option V), BkF block ns qs k a → BkH Hs st D Ba it block ns → LayP (RowK ns hd) Hs H st D qs → hd a = hdK block k →
        (∀ (H' : Hp) (w6 w7 w8 : Option V), LayP (RowK ns hd) Hs H' st D (qs ++ [a]) → Dn.nx (blS st it Bl D Ba k w6 w7 w8) H') →
        t Dn (blS st it Bl D Ba k v6 v7 v8) H := by
  obtain ⟨t, ht, q⟩ := bl3 (P := P) (w := w) (base := base) (outer := outer) (H0 := H0) (E0' := E0') B cT cM cO hr
  have esz : sizeLine = 16777216 := sizeLine_eq
  refine ⟨_, pss_cons (ps_set (i := 6) scLblocklists.nd rfl (Or.inl rfl) (pe_op op_cat (pe_slice sl_list (pv 4) (po_some (pe_op op_add (pv 5) pe_int)) po_none) (pe_slice sl_list (pv 4) po_none (po_some (pv 5)))))
    (pss_cons (ps_set (i := 7) scLblocklists.nd rfl (Or.inr rfl) (pe_slice sl_list (pv 6) po_none (po_some pe_int)))
    (pss_cons (ps_if (pt_cmpR op_gt (pe_callB call_len_seq (by rfl) B.len PySem.boot_len (pa_cons (pv 6) pa_nil)) pe_int (nomark _))
      (pss_one (ps_set (i := 7) scLblocklists.nd rfl (Or.inr rfl) (pe_lst (pa_cons (pe_ix ix_list (pv 6) pe_int (fun _ _ => rfl)) (pa_cons (pe_ix ix_list (pv 6) (pe_un un_neg pe_int) (fun _ _ => rfl)) pa_nil))))) pss_nil) ht)), ?_⟩
  rintro st it Bl D Ba k a block qs ns hd Hs H Dn v6 v7 v8 F G Y ehd kq
  have hbl := F.len
  have hB := Y.l G.s G.d G.b
  have e1 : ((k : Nat) : Int) + 1 = ((k + 1 : Nat) : Int) := by omega
  refine ⟨_, rfl, _, rfl, _, _, rfl, rfl, _, rfl, Ba, _, rfl, SqL.of hB, fun L1 hL1 => ?_⟩
  rw [e1]
  have sL1 := Same.new (o := HO.lst (cutV (block.map V.str) (some ((k + 1 : Nat) : Int)) none)) hL1
  have eL1 := cut_lstO (H := H) (L := L1) (zs := block) (i := k + 1)
  generalize upd H L1 (.lst (cutV (block.map V.str) (some ((k + 1 : Nat) : Int)) none)) = H7 at sL1 eL1
  refine ⟨_, rfl, _, rfl, _, rfl, Ba, _, rfl, SqL.of (sL1 _ _ hB), fun L2 hL2 => ?_⟩
  have sL2 := Same.new (o := HO.lst (cutV (block.map V.str) none (some (k : Int)))) hL2
  have eL2 := cut_lstT (H := H7) (L := L2) (zs := block) (i := k)
  generalize upd H7 L2 (.lst (cutV (block.map V.str) none (some (k : Int)))) = H8 at sL2 eL2
  refine ⟨L1, L2, _, _, rfl, rfl, sL2 _ _ eL1, eL2, by rw [List.length_map, List.length_map, List.length_drop, List.length_take]; omega, fun R hR => ?_⟩
  have sL3 := Same.new (o := HO.lst ((block.drop (k + 1)).map V.str ++ (block.take k).map V.str)) hR
  have eR := cat_lstO (H := H8) (L := R) (xs := block.drop (k + 1)) (ys := block.take k)
  generalize upd H8 R (.lst ((block.drop (k + 1)).map V.str ++ (block.take k).map V.str)) = H9 at sL3 eR
  have Y9 := ((Y.same sL1).same sL2).same sL3
  have gr : GRow ns a (block.drop (k + 1) ++ block.take k) := grow_cons F.nd F.sub (rot_perm F.at_)
  have ehd : hd a = hdR (block.drop (k + 1) ++ block.take k) := ehd
  generalize block.drop (k + 1) ++ block.take k = ring at eR gr ehd
  have hrl := gr.len
  have hnl := F.lenn
  refine ⟨_, rfl, _, rfl, R, _, rfl, SqL.of eR, fun h hh => ?_⟩
  have sh := Same.new (o := HO.lst (cutV (ring.map V.str) none (some 1))) hh
  have eh := cut_lstT (H := H9) (L := h) (zs := ring) (i := 1)
  generalize upd H9 h (.lst (cutV (ring.map V.str) none (some 1))) = H10 at sh eh
  have eR2 := sh _ _ eR
  refine ⟨_, rfl, R, _, rfl, .inl (SqL.of eR2), _, _, rfl, rfl, _, rfl, ite2 (fun h1 => ?_) (fun h1 => q st it Bl D Ba k a block qs ns (ring.take 1) hd Hs H10 Dn _ _ h F G (Y9.same sh) eh (gr.sub (List.take_sublist 1 ring)) (ehd.trans (hdR_one fun c => h1 (decide_eq_true (by rw [List.length_map]; omega)))) kq)⟩
  have h2 := of_decide_eq_true h1
  rw [List.length_map] at h2
  have h3 : 1 < ring.length := by omega
  obtain ⟨x, ex⟩ : ∃ x, ring[0]? = some x := ⟨_, List.getElem?_eq_getElem (by omega)⟩
  obtain ⟨y, ey⟩ : ∃ y, ring[ring.length - 1]? = some y := ⟨_, List.getElem?_eq_getElem (by omega)⟩
  refine ⟨_, rfl, R, ring.map V.str, 0, .str x, rfl, rfl, SqL.of eR2, atI_str (k := 0) ex, _, rfl, _, rfl, R, ring.map V.str, -1, .str y, rfl, rfl, SqL.of eR2, atI_last (by omega) ey, by show 2 ≤ sizeLine; omega, fun p hp => ?_⟩
  have s11 := Same.new (o := HO.lst [V.str x, V.str y]) hp
  exact q st it Bl D Ba k a block qs ns [x, y] hd Hs _ Dn _ _ p F G ((Y9.same sh).same s11) upd_same (gr.sub (two_sub h3 ex ey)) (ehd.trans (hdR_two h3 ex ey)) kq
end
end
end Qp
namespace Qp
open PySem L2 PySem.W
theorem idxOf_at {l : List Str} {k : Nat} {a : Str} (nd : l.Nodup) (e : l[k]? = some a) : l.idxOf a = k := by
  have hm := List.mem_of_getElem? e
  have h1 : ¬ l.idxOf a < k := fun h => not_mem_take nd e (mem_take_lt.mpr ⟨hm, h⟩)
  have h2 : ¬ k < l.idxOf a := fun h => not_mem_take nd (idx_at hm) (List.mem_of_getElem? (i := k) (by rw [List.getElem?_take, if_pos h, e]))
  omega
/-- the first wishes by the blocks -/
def hdN : List (List Str) → Str → List Str
  | [], _ => []
  | b :: r, a => if a ∈ b then hdK b (b.idxOf a) else hdN r a
theorem hdN_of : ∀ {bs : List (List Str)}, bs.flatten.Nodup → ∀ {b : List Str} {k : Nat} {a : Str}, b ∈ bs → b[k]? = some a → hdN bs a = hdK b k
  | [], _, b, k, a, hb, _ => by cases hb
  | c :: r, nd, b, k, a, hb, e => by
    rw [List.flatten_cons, List.nodup_append] at nd
    obtain ⟨n1, n2, n3⟩ := nd
    unfold hdN
    rcases List.mem_cons.mp hb with rfl | hb
    · rw [if_pos (List.mem_of_getElem? e), idxOf_at n1 e]
    · have hm := List.mem_of_getElem? e
      rw [if_neg (fun h => n3 a h a (List.mem_flatten.mpr ⟨b, hb, hm⟩) rfl)]
      exact hdN_of n2 hb e
theorem fl_take {bs : List (List Str)} {i : Nat} : ((bs.take i).flatten).Sublist bs.flatten := by
  have h : bs.flatten = (bs.take i).flatten ++ (bs.drop i).flatten := by rw [← List.flatten_append, List.take_append_drop]
  rw [h]
  exact List.sublist_append_left _ _
section
variable {P : Program} {w : World} {K : PySem.W.Frag} {mg : Str → Option Value} {base : Heap}
/-- _law_block_lists(state, names, blocks) -/
def spBll : Sp := fun vs H Q _ => ∃ (st it Bl : Addr) (ns : List Str) (ys : List V) (bs : List (List Str)), vs = [.ref st, .ref it, .ref Bl] ∧ StAt H st ∧ H it = some (lstO ns) ∧ ns.Nodup ∧ ns.length ≤ 100 ∧ Bl ≠ st ∧ H Bl = some (.lst ys) ∧ EachIs (fun y b => ∃ t, y = V.ref t ∧ H t = some (lstO b)) ys bs ∧ bs.flatten.Perm ns ∧ ys.length ≤ 100 ∧
  ∀ (D : Addr) (H' : Hp) (ws : Str → List Str), H D = none → SameBut st H H' → StAt H' st → RowsG H' D bs.flatten (fun a => lstO (ws a)) → (∀ a ∈ bs.flatten, GRow ns a (ws a)) → (∀ b ∈ bs, ∀ k a, b[k]? = some a → ∃ tl, ws a = hdK b k ++ tl) → Q (.ref D) H'
theorem ok_bll {f : Addr} {fd : FuncData} (F : Fun K "_law_block_lists" "_law_block_lists" sLblocklists f fd) (B : Bl mg) (cT : CF P w K mg base CX0 1 "_law_take" ["_law_state", "_law_many_here"] spTake) (cM : CF P w K mg base CX0 2 "_law_mixed" ["_law_state", "_law_items"] spMixed) (cO : CF P w K mg base CX0 1 "_law_others" ["_law_names_here", "_law_a"] (spOthers K)) :
    FnOk P w K mg base CX0 3 f fd ["_law_state", "_law_names_here", "_law_blocks_here"] spBll := by
  refine F.ok scLblocklists (fun vs H Q E h => ?_) (fun cdv A outer s H vs Q E hr h => ?_)
  · obtain ⟨st, it, Bl, ns, ys, bs, rfl, _⟩ := h
    rfl
  · obtain ⟨st, it, Bl, ns, ys, bs, rfl, hst, hit, hnd, hlen, nBl, eBl, EB, hfl, hyl, kq⟩ := h
    have esz : sizeLine = 16777216 := sizeLine_eq
    obtain ⟨t, ht, q⟩ := bl0 (P := P) (w := w) (base := base) (outer := outer) (H0 := H) (E0' := E) B cT cM cO hr
    refine ⟨_, pss_cons (ps_set (i := 3) scLblocklists.nd rfl (Or.inl rfl) pe_dnewK)
      (pss_cons (ps_for PassesOwn.never rfl (pi_list (pv 2)) (pg_name (i := 4) scLblocklists.nd rfl (Or.inl rfl))
        (pss_one (ps_for PassesOwn.never rfl (pi_range1 (by rfl) B.rng (pa_cons (pe_callB call_len_seq (by rfl) B.len PySem.boot_len (pa_cons (pv 4) pa_nil)) pa_nil)) (pg_name (i := 5) scLblocklists.nd rfl (Or.inl rfl)) ht)))
      (pss_one (ps_ret (pv 3)))), ?_⟩
    refine fun D hD => ?_
    have s5 : Same H (upd H D (.dK [])) := Same.new hD
    have hd5 : (upd H D (.dK [])) D = some (.dK []) := upd_same
    have nDst : D ≠ st := new_ne_st hst hD
    generalize upd H D (.dK []) = Hs at s5 hd5
    have fnd : bs.flatten.Nodup := hfl.nodup_iff.mpr hnd
    have hsS := hst.same s5
    have eI5 := s5 _ _ hit
    have eB5 := s5 _ _ eBl
    have nBD : Bl ≠ D := ne_of_none eBl hD
    have L0 : LayP (RowK ns (hdN bs)) Hs Hs st D [] := ⟨hsS, PartP.new hd5, But2.refl _ _ _⟩
    have hbl : ys.length = bs.length := EachIs.length EB
    refine ⟨_, rfl, Bl, rfl, ⟨_, SqL.of eB5⟩, for_it (walk_list (xs := ys)) (fun i σ H' => ∃ v4 v5 v6 v7 v8 : Option V, σ = [some (.ref st), some (.ref it), some (.ref Bl), some (.ref D), v4, v5, v6, v7, v8, none] ∧ LayP (RowK ns (hdN bs)) Hs H' st D ((bs.take i).flatten)) ⟨none, none, none, none, none, rfl, L0⟩ (fun i σ H' _ ⟨_, _, _, _, _, _, Y⟩ => SqL.of (Y.b _ _ eB5 nBl nBD)) ?_ ?_⟩
    · rintro i y σ Hx H1 hi ⟨v4, v5, v6, v7, v8, rfl, Y1⟩ ⟨rfl, hy⟩
      obtain ⟨b, eb, Ba, rfl, hBa⟩ := each_at EB hy
      have hbm := List.mem_of_getElem? eb
      have eBa := s5 _ _ hBa
      have eBa1 := Y1.l hsS ⟨_, hd5⟩ eBa
      have tk : (bs.take (i + 1)).flatten = (bs.take i).flatten ++ b := by rw [take_snoc eb, List.flatten_append, List.flatten_cons, List.flatten_nil, List.append_nil]
      have hpre : ((bs.take i).flatten ++ b).Nodup := by
        rw [← tk]
        exact fnd.sublist (fl_take)
      obtain ⟨nQ, nB, nQB⟩ := List.nodup_append.mp hpre
      have hbs : ∀ z ∈ b, z ∈ ns := fun z hz => hfl.mem_iff.mp (List.mem_flatten.mpr ⟨b, hbm, hz⟩)
      have hlb : b.length ≤ ns.length := nodup_sub_length nB hbs
      have hlq : (bs.take i).flatten.length ≤ ns.length := nodup_sub_length nQ fun z hz => hfl.mem_iff.mp ((fl_take (bs := bs) (i := i)).subset hz)
      have G : BkH Hs st D Ba it b ns := ⟨hsS, ⟨_, hd5⟩, eBa, eI5⟩
      refine ⟨_, rfl, Ba, _, rfl, .inl (SqL.of eBa1), _, rfl, by rw [List.length_map]; omega, by rw [List.length_map]; omega,
        for_it (walk_range (lo := 0) (n := (((b.map V.str).length : Nat) : Int).toNat)) (fun k σ H' => ∃ v5 v6 v7 v8 : Option V, σ = [some (.ref st), some (.ref it), some (.ref Bl), some (.ref D), some (.ref Ba), v5, v6, v7, v8, none] ∧ LayP (RowK ns (hdN bs)) Hs H' st D ((bs.take i).flatten ++ b.take k))
        ⟨v5, v6, v7, v8, rfl, by rw [List.take_zero, List.append_nil]; exact Y1⟩ (fun _ _ _ _ _ => True.intro) ?_ ?_⟩
      · rintro k x σ Hx H5 hk ⟨w5, w6, w7, w8, rfl, Y5⟩ ⟨rfl, hx⟩
        rw [List.length_map, Int.toNat_natCast] at hk
        have e0 : (0 : Int) + (k : Int) = ((k : Nat) : Int) := by omega
        obtain rfl : x = V.int (k : Int) := hx.trans (by show V.int (0 + (k : Int)) = V.int (k : Int); rw [e0])
        obtain ⟨a, ea⟩ : ∃ a, b[k]? = some a := ⟨_, List.getElem?_eq_getElem hk⟩
        have ha : a ∈ b := List.mem_of_getElem? ea
        have hna : a ∉ (bs.take i).flatten ++ b.take k := fun h => by
          rcases List.mem_append.mp h with z | z
          · exact nQB a z a ha rfl
          · exact not_mem_take nB ea z
        have F' : BkF b ns ((bs.take i).flatten ++ b.take k) k a := ⟨ea, nB, hbs, by omega, hlen, hnd, hna, by rw [List.length_append, List.length_take]; omega⟩
        refine q st it Bl D Ba k a b ((bs.take i).flatten ++ b.take k) ns (hdN bs) Hs H5 _ w6 w7 w8 F' G Y5 (hdN_of fnd hbm ea) fun H6 u6 u7 u8 Y6 => ?_
        refine ⟨_, _, _, _, rfl, ?_⟩
        rw [List.append_assoc, ← take_snoc ea] at Y6
        exact Y6
      · rintro σ H5 ⟨w5, w6, w7, w8, rfl, Y5⟩
        rw [List.length_map, Int.toNat_natCast, List.take_of_length_le (Nat.le_refl _), ← tk] at Y5
        exact ⟨_, _, _, _, _, rfl, Y5⟩
    · rintro σ H1 ⟨v4, v5, v6, v7, v8, rfl, Y1⟩
      rw [hbl, List.take_of_length_le (Nat.le_refl _)] at Y1
      obtain ⟨ws, Rw, hR⟩ := Y1.p
      refine ⟨_, rfl, kq D H1 ws hD (fun u o n e => Y1.b _ _ (s5 _ _ e) n (ne_of_none e hD)) Y1.st_ Rw (fun a ha => (hR a ha).1) fun b hb k a e => ?_⟩
      obtain ⟨_, tl, h⟩ := hR a (List.mem_flatten.mpr ⟨b, hb, List.mem_of_getElem? e⟩)
      exact ⟨tl, by rw [h, hdN_of fnd hb e]⟩
end
end Qp
namespace Qp
open PySem L2
section
variable {P : Program} {w : World} {K : PySem.W.Frag} {mg : Str → Option Value} {base : Heap}
/-- _law_turned(x), x with the people as keys -/
def spTurn : Sp := fun vs H Q _ => ∃ (d : Addr) (ns : List Str) (kvs : List (Key × V)), vs = [.ref d] ∧ H d = some (.dK kvs) ∧ hasB kvs ns = true ∧ Nm ns ∧ ∀ D H' zs, Same H H' → zs.Perm ns → H' D = some (.dK (tkD kvs zs)) → H D = none → Q (.ref D) H'
theorem ok_turn {f : Addr} {fd : FuncData} (F : Fun K "_law_turned" "_law_turned" sLturned f fd) (B : Bl mg) : FnOk P w K mg base CX0 1 f fd ["_law_x"] spTurn := by
  refine F.ok scLturned (fun vs H Q E h => ?_) (fun cdv A outer s H vs Q E hr h => ?_)
  · obtain ⟨d, ns, kvs, rfl, _⟩ := h
    rfl
  · obtain ⟨d, ns, kvs, rfl, hd, hB, nn, kq⟩ := h
    have hu := hu_of hr
    have esz : sizeLine = 16777216 := sizeLine_eq
    have hnl := nn.len
    obtain ⟨qs, hqs, ekeys⟩ := has_names hB nn.nd
    have hnd : qs.Nodup := hqs.nodup_iff.mpr nn.nd
    have hlen : qs.length ≤ 16 := by rw [hqs.length_eq]; exact hnl
    refine ⟨_, pss_cons (ps_set (i := 1) scLturned.nd rfl (Or.inl rfl) pe_dnewK)
      (pss_cons (ps_for PassesOwn.never rfl (pi_reversed (by rfl) B.rev (pa_cons (pe_callB cr_sortedS (by rfl) B.srt (by decide +kernel) (pa_cons (pe_callTy (call_listD rfl) (by rfl) B.lst (by decide +kernel) (pa_cons (pv 0) pa_nil)) pa_nil)) pa_nil)) (pg_name (i := 2) scLturned.nd rfl (Or.inl rfl))
        (pss_one (ps_dput hu (pv 1) (pv 2) (pe_dget hu (pv 0) (pv 2) (fun _ _ => rfl)) rfl)))
      (pss_one (ps_ret (pv 1)))), ?_⟩
    refine fun D hD => ?_
    have s0 : Same H (upd H D (.dK [])) := Same.new hD
    have eD : (upd H D (.dK [])) D = some (.dK []) := upd_same
    have nDd : d ≠ D := ne_of_none hd hD
    generalize upd H D (.dK []) = H0 at s0 eD
    refine ⟨_, rfl, d, _, rfl, .inl (s0 _ _ hd), fun p hp => ?_⟩
    have ek : (kvs.map fun kv => kV kv.1) = qs.map V.str := by
      have e := congrArg (List.map kV) ekeys
      rw [List.map_map, List.map_map] at e
      exact e
    have s1 : Same H0 (upd H0 p (.lst (kvs.map fun kv => kV kv.1))) := Same.new hp
    have ep : (upd H0 p (.lst (kvs.map fun kv => kV kv.1))) p = some (.lst (qs.map V.str)) := by rw [upd_same, ek]
    generalize upd H0 p (.lst (kvs.map fun kv => kV kv.1)) = H1 at s1 ep
    refine ⟨p, qs, rfl, SqL.of ep, by omega, fun ys q hys _ hq => ?_⟩
    have s2 : Same H1 (upd H1 q (.lst (ys.map V.str))) := Same.new hq
    have eq : (upd H1 q (.lst (ys.map V.str))) q = some (.lst (ys.map V.str)) := upd_same
    have nqD : q ≠ D := fun z => by
      rw [z, s1 _ _ eD] at hq
      cases hq
    have eD2 := s2 _ _ (s1 _ _ eD)
    generalize upd H1 q (.lst (ys.map V.str)) = H2 at s2 eq eD2
    have s02 : Same H H2 := (s0.trans s1).trans s2
    have hyn : ys.Nodup := hys.nodup_iff.mpr hnd
    have hrn : ys.reverse.Nodup := ((List.reverse_perm ys).nodup_iff).mpr hyn
    have hyl : ys.length = qs.length := hys.length_eq
    refine ⟨q, ys.map V.str, rfl, SqL.of eq, for_it walk_rev (fun i σ H' => ∃ v2 : Option V, σ = [some (.ref d), some (.ref D), v2] ∧ SameBut D H2 H' ∧ H' D = some (.dK (tkD kvs (ys.reverse.take i)))) ⟨none, rfl, SameBut.refl _ _, eD2⟩ (fun i σ H' _ ⟨_, _, z, _⟩ => SqL.of (z _ _ nqD eq)) ?_ ?_⟩
    · rintro i x σ Hx H3 hi ⟨v2, rfl, s3, e3⟩ ⟨rfl, hx⟩
      rw [List.length_map] at hi hx
      rw [List.getElem?_map] at hx
      have er : ys.reverse[i]? = ys[ys.length - 1 - i]? := by
        rw [List.getElem?_reverse hi]
      cases ea : ys[ys.length - 1 - i]? with
      | none => rw [ea] at hx; cases hx
      | some a =>
        rw [ea] at hx er
        cases hx
        have han : a ∈ ns := hqs.mem_iff.mp (hys.mem_iff.mp (List.mem_of_getElem? ea))
        refine ⟨_, rfl, _, rfl, d, vD kvs a, rfl, by rw [← val_vD (has_all hB a han)]; exact DGet.k (k := Sum.inr a) (s3 _ _ nDd (s02 _ _ hd)), _, rfl, _, rfl, D, _, rfl, DPut.k (k := Sum.inr a) e3 (by unfold tkD; rw [List.length_map, List.length_take]; omega), _, rfl, fun b o hb e => ?_, ?_⟩
        · rw [upd_ne hb]
          exact s3 _ _ hb e
        · rw [upd_same, putK_new _ (tk_none (not_mem_take hrn er)), take_snoc er]
          unfold tkD
          rw [List.map_append]
          rfl
    · rintro σ H3 ⟨v2, rfl, s3, e3⟩
      rw [List.length_map, List.take_of_length_le (by rw [List.length_reverse]; exact Nat.le_refl _)] at e3
      exact ⟨_, rfl, kq D H3 ys.reverse (fun b o e => s3 _ _ (ne_of_none e hD) (s02 _ _ e)) (((List.reverse_perm ys).trans hys).trans hqs) e3 hD⟩
end
end Qp
namespace Qp
open PySem L2 PySem.W
/-- a block's people dealt by pairs, from the t-th on -/
def PairB (b : List Str) (g : Fn) : Prop := (b.length = 1 ∧ ∀ z ∈ b, g z = none) ∨ ∃ t, t < 2 ∧ 2 ≤ b.length ∧ ∀ m, m % 2 = 0 → m < b.length → ∃ x y, b[(m + t) % b.length]? = some x ∧ b[(m + t + 1) % b.length]? = some y ∧ g x = some y ∧ g y = some x
theorem PairB.congr {b : List Str} {f g : Fn} (h : PairB b f) (e : ∀ z ∈ b, g z = f z) : PairB b g := by
  rcases h with ⟨h1, h2⟩ | ⟨t, ht, h2, h⟩
  · exact .inl ⟨h1, fun z hz => (e z hz).trans (h2 z hz)⟩
  · refine .inr ⟨t, ht, h2, fun m hm hl => ?_⟩
    obtain ⟨x, y, ex, ey, gx, gy⟩ := h m hm hl
    exact ⟨x, y, ex, ey, (e x (List.mem_of_getElem? ex)).trans gx, (e y (List.mem_of_getElem? ey)).trans gy⟩
theorem okv_new {g : Fn} {qs : List Str} {a : Str} {o : Option Str} (h : a ∉ qs) : putK (okv qs g) (Sum.inr a) (oV o) = okv (qs ++ [a]) (setO g a o) := by
  have e : okv qs g = okv qs (setO g a o) := okv_congr fun z hz => by
    unfold setO
    rw [if_neg (fun c : z = a => h (c ▸ hz))]
  rw [e]
  have q := okv_snoc (f := setO g a o) h
  have e2 : setO g a o a = o := by
    unfold setO
    rw [if_pos rfl]
  rw [e2] at q
  exact q
theorem tk_okv {g : Fn} {qs zs : List Str} (h : ∀ z ∈ zs, z ∈ qs) : tkD (okv qs g) zs = okv zs g := by
  unfold tkD okv
  refine List.map_congr_left fun a ha => ?_
  unfold vD
  have e : valV (okv qs g) (Sum.inr a) = some (oV (g a)) := okv_val (h a ha)
  unfold okv at e
  rw [e]
  rfl
theorem has_okv {g : Fn} {qs ns : List Str} (hp : qs.Perm ns) : hasB (okv qs g) ns = true := by
  unfold hasB
  rw [Bool.and_eq_true]
  refine ⟨?_, ?_⟩
  · rw [okv_len, hp.length_eq]
    simp
  · rw [List.all_eq_true]
    intro a ha
    rw [okv_val (hp.mem_iff.mpr ha)]
    rfl
/-- where the m-th stands -/
theorem rot_inj {n t i j : Nat} (hi : i < n) (hj : j < n) (h : (i + t) % n = (j + t) % n) : i = j := by
  have h1 : (i + t) % n = (i + t % n) % n := by rw [Nat.add_mod, Nat.add_mod i (t % n), Nat.mod_mod]
  have h2 : (j + t) % n = (j + t % n) % n := by rw [Nat.add_mod, Nat.add_mod j (t % n), Nat.mod_mod]
  rw [h1, h2] at h
  have ht : t % n < n := Nat.mod_lt _ (by omega)
  generalize t % n = s at h ht
  by_cases c1 : i + s < n
  · rw [Nat.mod_eq_of_lt c1] at h
    by_cases c2 : j + s < n
    · rw [Nat.mod_eq_of_lt c2] at h
      omega
    · rw [Nat.mod_eq_sub_mod (by omega), Nat.mod_eq_of_lt (by omega)] at h
      omega
  · rw [Nat.mod_eq_sub_mod (by omega), Nat.mod_eq_of_lt (by omega)] at h
    by_cases c2 : j + s < n
    · rw [Nat.mod_eq_of_lt c2] at h
      omega
    · rw [Nat.mod_eq_sub_mod (by omega), Nat.mod_eq_of_lt (by omega)] at h
      omega
theorem nd_at {l : List Str} (nd : l.Nodup) {i j : Nat} {a : Str} (h1 : l[i]? = some a) (h2 : l[j]? = some a) : i = j := by
  rw [← idxOf_at nd h1, ← idxOf_at nd h2]
end Qp
namespace Qp
open PySem L2 PySem.W
theorem fmN {i n : Nat} {z : Int} (hz : z = ((i : Nat) : Int)) : z.fmod ((n : Nat) : Int) = ((i % n : Nat) : Int) := by
  rw [hz, Int.fmod_eq_emod_of_nonneg _ (by omega)]
  rfl
section
variable {P : Program} {w : World} {K : PySem.W.Frag} {mg : Str → Option Value} {base : Heap}
/-- _law_one_of_all(state, blocks) -/
def spOne : Sp := fun vs H Q _ => ∃ (st Bl : Addr) (ns : List Str) (ys : List V) (bs : List (List Str)), vs = [.ref st, .ref Bl] ∧ StAt H st ∧ Bl ≠ st ∧ H Bl = some (.lst ys) ∧ EachIs (fun y b => ∃ t, y = V.ref t ∧ H t = some (lstO b)) ys bs ∧ bs.flatten.Perm ns ∧ Nm ns ∧ (∀ b ∈ bs, BOk b.length) ∧ ys.length ≤ 100 ∧
  ∀ (D : Addr) (H' : Hp) (zs : List Str) (g : Fn), SameBut st H H' → H D = none → H' D = some (.dK (okv zs g)) → zs.Perm ns → (∀ b ∈ bs, PairB b g) → Q (.ref D) H'
theorem ok_one {f : Addr} {fd : FuncData} (F : Fun K "_law_one_of_all" "_law_one_of_all" sLoneofall f fd) (B : Bl mg) (cT : CF P w K mg base CX0 1 "_law_take" ["_law_state", "_law_many_here"] spTake) (cR : CF P w K mg base CX0 1 "_law_turned" ["_law_x"] spTurn) :
    FnOk P w K mg base CX0 2 f fd ["_law_state", "_law_blocks_here"] spOne := by
  refine F.ok scLoneofall (fun vs H Q E h => ?_) (fun cdv A outer s H vs Q E hr h => ?_)
  · obtain ⟨st, Bl, ns, ys, bs, rfl, _⟩ := h
    rfl
  · obtain ⟨st, Bl, ns, ys, bs, rfl, hst, nBl, eBl, EB, hfl, nn, hok, hyl, kq⟩ := h
    have hu := hu_of hr
    have esz : sizeLine = 16777216 := sizeLine_eq
    have hnl := nn.len
    have hbl : ys.length = bs.length := EachIs.length EB
    have fnd : bs.flatten.Nodup := hfl.nodup_iff.mpr nn.nd
    refine ⟨_, pss_cons (ps_set (i := 2) scLoneofall.nd rfl (Or.inl rfl) pe_dnewK)
      (pss_cons (ps_for PassesOwn.never rfl (pi_list (pv 1)) (pg_name (i := 3) scLoneofall.nd rfl (Or.inl rfl))
        (pss_cons (ps_set (i := 4) scLoneofall.nd rfl (Or.inl rfl) (pe_cf cT hr pass0 (pa_cons (pv 0) (pa_cons pe_int pa_nil))))
        (pss_one (ps_if (pt_cmpR op_eq (pe_callB call_len_seq (by rfl) B.len PySem.boot_len (pa_cons (pv 3) pa_nil)) pe_int (nomark _))
          (pss_one (ps_dput hu (pv 2) (pe_ix ix_list (pv 3) pe_int (fun _ _ => rfl)) pe_non rfl))
          (pss_one (ps_for PassesOwn.never rfl (pi_range3 (by rfl) B.rng (pa_cons pe_int (pa_cons (pe_callB call_len_seq (by rfl) B.len PySem.boot_len (pa_cons (pv 3) pa_nil)) (pa_cons pe_int pa_nil)))) (pg_name (i := 5) scLoneofall.nd rfl (Or.inl rfl))
            (pss_cons (ps_set (i := 6) scLoneofall.nd rfl (Or.inl rfl) (pe_ix ix_list (pv 3) (pe_op op_modN (pe_callTy call_int1 (by rfl) B.int (by decide +kernel) (pa_cons (pe_op op_add (pv 5) (pv 4)) pa_nil)) (pe_callB call_len_seq (by rfl) B.len PySem.boot_len (pa_cons (pv 3) pa_nil))) (fun _ _ => rfl)))
            (pss_cons (ps_set (i := 7) scLoneofall.nd rfl (Or.inl rfl) (pe_ix ix_list (pv 3) (pe_op op_modN (pe_callTy call_int1 (by rfl) B.int (by decide +kernel) (pa_cons (pe_op op_add (pe_op op_add (pv 5) (pv 4)) pe_int) pa_nil)) (pe_callB call_len_seq (by rfl) B.len PySem.boot_len (pa_cons (pv 3) pa_nil))) (fun _ _ => rfl)))
            (pss_cons (ps_dput hu (pv 2) (pv 6) (pv 7) rfl) (pss_one (ps_dput hu (pv 2) (pv 7) (pv 6) rfl)))))))))))
      (pss_one (ps_ret (pe_cf cR hr pass0 (pa_cons (pv 2) pa_nil))))), ?_⟩
    refine fun X hX => ?_
    have s5 : Same H (upd H X (.dK [])) := Same.new hX
    have e5 : (upd H X (.dK [])) X = some (.dK []) := upd_same
    have nXst : X ≠ st := new_ne_st hst hX
    generalize upd H X (.dK []) = Hs at s5 e5
    have hsS := hst.same s5
    have eB5 := s5 _ _ eBl
    have nBX : Bl ≠ X := ne_of_none eBl hX
    refine ⟨_, rfl, Bl, rfl, ⟨_, SqL.of eB5⟩, for_it (walk_list (xs := ys)) (fun i σ H' => ∃ (v3 v4 v5 v6 v7 : Option V) (qs : List Str) (g : Fn), σ = [some (.ref st), some (.ref Bl), some (.ref X), v3, v4, v5, v6, v7] ∧ But2 st X Hs H' ∧ StAt H' st ∧ H' X = some (.dK (okv qs g)) ∧ qs.Nodup ∧ (∀ z, z ∈ qs ↔ z ∈ (bs.take i).flatten) ∧ ∀ b ∈ bs.take i, PairB b g)
      ⟨none, none, none, none, none, [], f0, rfl, But2.refl _ _ _, hsS, e5, .nil, (by simp), (by simp)⟩ (fun i σ H' _ ⟨_, _, _, _, _, _, _, _, Y, _⟩ => SqL.of (Y _ _ eB5 nBl nBX)) ?_ ?_⟩
    · rintro i y σ Hx H1 hi ⟨v3, v4, v5, v6, v7, qs, g, rfl, Y1, S1, eX1, nq, hq, hpb⟩ ⟨rfl, hy⟩
      obtain ⟨b, eb, Ba, rfl, hBa⟩ := each_at EB hy
      have hbm := List.mem_of_getElem? eb
      have eBa := s5 _ _ hBa
      have nBa : Ba ≠ st := ne_st hsS eBa
      have nBaX : Ba ≠ X := ne_of eBa e5 (by intro z; cases z)
      have hbok := hok b hbm
      have tk : (bs.take (i + 1)).flatten = (bs.take i).flatten ++ b := by rw [take_snoc eb, List.flatten_append, List.flatten_cons, List.flatten_nil, List.append_nil]
      have hpre : ((bs.take i).flatten ++ b).Nodup := by
        rw [← tk]
        exact fnd.sublist fl_take
      obtain ⟨nQ, nB, nQB⟩ := List.nodup_append.mp hpre
      have hql : qs.length ≤ ns.length := nodup_sub_length nq fun z hz => hfl.mem_iff.mp ((fl_take (bs := bs) (i := i)).subset ((hq z).mp hz))
      refine ⟨_, rfl, st, 2, rfl, by decide, by decide, S1, fun d n1 z1 hd0 hd1 a1 a2 a3 => ?_⟩
      have S2 : StAt (upd H1 st (.lst [.int n1, .int z1])) st := ⟨n1, z1, upd_same, a1, a2, a3⟩
      have Y2 : But2 st X Hs (upd H1 st (.lst [.int n1, .int z1])) := fun u o e h1 h2 => by
        rw [upd_ne h1]
        exact Y1 u o e h1 h2
      have eX2 : (upd H1 st (.lst [.int n1, .int z1])) X = some (.dK (okv qs g)) := by
        rw [upd_ne nXst]
        exact eX1
      generalize upd H1 st (.lst [.int n1, .int z1]) = H2 at S2 Y2 eX2
      obtain ⟨t, rfl⟩ := Int.eq_ofNat_of_zero_le hd0
      have ht : t < 2 := by omega
      have eBa2 := Y2 _ _ eBa nBa nBaX
      refine ⟨_, rfl, Ba, _, rfl, .inl (SqL.of eBa2), rfl, _, rfl, ?_⟩
      rw [List.length_map]
      by_cases c1 : b.length = 1
      · rw [decide_eq_true (by rw [c1]; rfl)]
        obtain ⟨a, ea⟩ : ∃ a, b[0]? = some a := ⟨_, List.getElem?_eq_getElem (by omega)⟩
        have hb1 : b = [a] := by
          match b, c1, ea with
          | [x], _, ea => cases ea; rfl
        have ha : a ∈ b := List.mem_of_getElem? ea
        have hna : a ∉ qs := fun h => nQB a ((hq a).mp h) a ha rfl
        have en : putK (okv qs g) (Sum.inr a) V.non = okv (qs ++ [a]) (setO g a none) := okv_new (o := none) hna
        refine iteT ⟨_, rfl, _, rfl, Ba, _, 0, .str a, rfl, rfl, SqL.of eBa2, atI_str (k := 0) ea, X, _, rfl, DPut.k (k := Sum.inr a) eX2 (by rw [okv_len]; omega), _, _, _, _, _, qs ++ [a], setO g a none, rfl, fun u o e h1 h2 => ?_, ?_, ?_, ?_, fun z => ?_, fun c hc => ?_⟩
        · rw [upd_ne h2]
          exact Y2 u o e h1 h2
        · obtain ⟨p, q, e, r⟩ := S2
          exact ⟨p, q, by rw [upd_ne (Ne.symm nXst)]; exact e, r⟩
        · rw [upd_same, en]
        · rw [List.nodup_append]
          exact ⟨nq, by simp, fun x hx y hy e => hna (by
            have : y = a := by simpa using hy
            rw [← this, ← e]
            exact hx)⟩
        · rw [tk, List.mem_append, List.mem_append, hq z, hb1]
        · rw [take_snoc eb] at hc
          rcases List.mem_append.mp hc with hc | hc
          · refine (hpb c hc).congr fun z hz => ?_
            unfold setO
            rw [if_neg (fun e : z = a => nQB z (List.mem_flatten.mpr ⟨c, hc, hz⟩) a ha e)]
          · have : c = b := by simpa using hc
            rw [this]
            refine .inl ⟨c1, fun z hz => ?_⟩
            rw [hb1] at hz
            have : z = a := by simpa using hz
            rw [this]
            unfold setO
            rw [if_pos rfl]
      · rw [decide_eq_false (fun e => c1 (by have := V.int.inj e; omega))]
        have hev : b.length % 2 = 0 ∧ 2 ≤ b.length ∧ b.length ≤ 6 := hbok.resolve_left c1
        refine iteF ?_
        have hrg : RgC 0 ((b.length : Nat) : Int) 2 (b.length / 2) := by
          have : b.length = 2 ∨ b.length = 4 ∨ b.length = 6 := by omega
          rcases this with e | e | e <;> rw [e] <;> exact ⟨by decide, by decide, by decide +kernel, by decide +kernel⟩
        refine ⟨_, rfl, Ba, _, rfl, .inl (SqL.of eBa2), 0, _, 2, b.length / 2, by rw [List.length_map], hrg, ?_⟩
        have P : ∀ m, ∃ x, b[(m + t) % b.length]? = some x := fun m => ⟨_, List.getElem?_eq_getElem (Nat.mod_lt _ (by omega))⟩
        refine for_it (walk_rangeC (lo := 0) (c := 2) (n := b.length / 2)) (fun k σ H' => ∃ (v5 v6 v7 : Option V) (rs : List Str) (h : Fn), σ = [some (.ref st), some (.ref Bl), some (.ref X), some (.ref Ba), some (.int ((t : Nat) : Int)), v5, v6, v7] ∧ But2 st X Hs H' ∧ StAt H' st ∧ H' X = some (.dK (okv rs h)) ∧ rs.Nodup ∧ (∀ z, z ∈ rs ↔ z ∈ qs ∨ ∃ m, m < 2 * k ∧ b[(m + t) % b.length]? = some z) ∧ (∀ z ∈ qs, h z = g z) ∧
            ∀ m, m % 2 = 0 → m < 2 * k → ∃ x y, b[(m + t) % b.length]? = some x ∧ b[(m + t + 1) % b.length]? = some y ∧ h x = some y ∧ h y = some x)
          ⟨_, _, _, qs, g, rfl, Y2, S2, eX2, nq, (fun z => ⟨.inl, fun h => h.elim id fun ⟨m, hm, _⟩ => by omega⟩), (fun _ _ => rfl), fun m _ hm => by omega⟩ (fun _ _ _ _ _ => True.intro) ?_ ?_
        · rintro k x σ Hx H3 hk ⟨w5, w6, w7, rs, h, rfl, Y3, S3, eX3, nr, hrs, hag, hpr⟩ ⟨rfl, hx⟩
          have e0 : (0 : Int) + ((k : Nat) : Int) * 2 = ((2 * k : Nat) : Int) := by omega
          obtain rfl : x = V.int ((2 * k : Nat) : Int) := hx.trans (by show V.int (0 + ((k : Nat) : Int) * 2) = _; rw [e0])
          obtain ⟨xa, ea⟩ := P (2 * k)
          obtain ⟨xb, eb2⟩ : ∃ y, b[(2 * k + t + 1) % b.length]? = some y := ⟨_, List.getElem?_eq_getElem (Nat.mod_lt _ (by omega))⟩
          have eBa3 := Y3 _ _ eBa nBa nBaX
          have hk2 : 2 * k + 1 < b.length := by omega
          have hb0 : ((b.map V.str).length : Int) ≠ 0 := by rw [List.length_map]; omega
          have eb2' : b[(2 * k + 1 + t) % b.length]? = some xb := by rw [show 2 * k + 1 + t = 2 * k + t + 1 by omega]; exact eb2
          have ha : xa ∈ b := List.mem_of_getElem? ea
          have hb : xb ∈ b := List.mem_of_getElem? eb2
          have inj : ∀ {m z}, m < b.length → b[(m + t) % b.length]? = some z → ∀ {m2}, m2 < b.length → b[(m2 + t) % b.length]? = some z → m = m2 := fun {m z} hm e1 {m2} hm2 e2 => rot_inj hm hm2 (nd_at nB e1 e2)
          have nab : xa ≠ xb := fun e => by
            have := inj (by omega) ea (by omega) (e ▸ eb2')
            omega
          have hna : xa ∉ rs := fun hm => by
            rcases (hrs xa).mp hm with q | ⟨m, hm2, e⟩
            · exact nQB xa ((hq xa).mp q) xa ha rfl
            · have := inj (by omega) e (by omega) ea
              omega
          have hnb : xb ∉ rs := fun hm => by
            rcases (hrs xb).mp hm with q | ⟨m, hm2, e⟩
            · exact nQB xb ((hq xb).mp q) xb hb rfl
            · have := inj (by omega) e (by omega) eb2'
              omega
          have hnb2 : xb ∉ rs ++ [xa] := fun hm => by
            rcases List.mem_append.mp hm with q | q
            · exact hnb q
            · exact nab (List.mem_singleton.mp q).symm
          have i1 : atI (b.map V.str) ((((2 * k : Nat) : Int) + ((t : Nat) : Int)).fmod (((b.map V.str).length : Nat) : Int)) = some (.str xa) := by
            rw [fmN (i := 2 * k + t) (by omega), List.length_map]
            exact atI_str ea
          have i2 : atI (b.map V.str) ((((2 * k : Nat) : Int) + ((t : Nat) : Int) + 1).fmod (((b.map V.str).length : Nat) : Int)) = some (.str xb) := by
            rw [fmN (i := 2 * k + t + 1) (by omega), List.length_map]
            exact atI_str eb2
          have hrl : rs.length ≤ 200 := by
            have q : rs.length ≤ (qs ++ b).length := nodup_sub_length nr fun z hz => by
              rcases (hrs z).mp hz with q | ⟨m, _, e⟩
              · exact List.mem_append_left _ q
              · exact List.mem_append_right _ (List.mem_of_getElem? e)
            rw [List.length_append] at q
            omega
          refine ⟨_, rfl, _, rfl, _, rfl, _, _, rfl, rfl, .inl ⟨_, rfl, _, rfl, Ba, _, rfl, .inl (SqL.of eBa3), _, _, rfl, rfl, hb0, Ba, _, _, .str xa, rfl, rfl, SqL.of eBa3, i1, ?_⟩⟩
          refine ⟨_, rfl, _, rfl, _, rfl, _, _, rfl, rfl, _, _, rfl, rfl, .inl ⟨_, rfl, _, rfl, Ba, _, rfl, .inl (SqL.of eBa3), _, _, rfl, rfl, hb0, Ba, _, _, .str xb, rfl, rfl, SqL.of eBa3, i2, ?_⟩⟩
          have en1 : putK (okv rs h) (Sum.inr xa) (V.str xb) = okv (rs ++ [xa]) (setO h xa (some xb)) := okv_new (o := some xb) hna
          have en2 : putK (okv (rs ++ [xa]) (setO h xa (some xb))) (Sum.inr xb) (V.str xa) = okv (rs ++ [xa] ++ [xb]) (setO (setO h xa (some xb)) xb (some xa)) := okv_new (o := some xa) hnb2
          refine ⟨_, rfl, _, rfl, _, rfl, X, _, rfl, DPut.k (k := Sum.inr xa) eX3 (by rw [okv_len]; omega), ?_⟩
          refine ⟨_, rfl, _, rfl, _, rfl, X, _, rfl, DPut.k (k := Sum.inr xb) upd_same (by rw [en1, okv_len, List.length_append]; show rs.length + 1 < _; omega), _, _, _, rs ++ [xa] ++ [xb], setO (setO h xa (some xb)) xb (some xa), rfl, fun u o e h1 h2 => ?_, ?_, ?_, ?_, fun z => ?_, fun z hz => ?_, fun m hm hml => ?_⟩
          · rw [upd_ne h2, upd_ne h2]
            exact Y3 u o e h1 h2
          · obtain ⟨p, q, e, r⟩ := S3
            exact ⟨p, q, by rw [upd_ne (Ne.symm nXst), upd_ne (Ne.symm nXst)]; exact e, r⟩
          · rw [upd_same, en1, en2]
          · rw [List.nodup_append]
            refine ⟨?_, by simp, fun x hx y hy e => hnb2 (by
              have : y = xb := by simpa using hy
              rw [← this, ← e]
              exact hx)⟩
            rw [List.nodup_append]
            exact ⟨nr, by simp, fun x hx y hy e => hna (by
              have : y = xa := by simpa using hy
              rw [← this, ← e]
              exact hx)⟩
          · rw [List.mem_append, List.mem_append, hrs z]
            constructor
            · rintro (((q | ⟨m, hm, e⟩) | q) | q)
              · exact .inl q
              · exact .inr ⟨m, by omega, e⟩
              · rw [List.mem_singleton.mp q]
                exact .inr ⟨2 * k, by omega, ea⟩
              · rw [List.mem_singleton.mp q]
                exact .inr ⟨2 * k + 1, by omega, eb2'⟩
            · rintro (q | ⟨m, hm, e⟩)
              · exact .inl (.inl (.inl q))
              · by_cases c3 : m < 2 * k
                · exact .inl (.inl (.inr ⟨m, c3, e⟩))
                · by_cases c4 : m = 2 * k
                  · rw [c4, ea] at e
                    cases e
                    exact .inl (.inr (List.mem_singleton.mpr rfl))
                  · have c5 : m = 2 * k + 1 := by omega
                    rw [c5, eb2'] at e
                    cases e
                    exact .inr (List.mem_singleton.mpr rfl)
          · have h1 : z ≠ xa := fun e => hna (e ▸ (hrs z).mpr (.inl hz))
            have h2 : z ≠ xb := fun e => hnb (e ▸ (hrs z).mpr (.inl hz))
            unfold setO
            rw [if_neg h2, if_neg h1]
            exact hag z hz
          · by_cases c3 : m < 2 * k
            · obtain ⟨x1, y1, ex, ey, gx, gy⟩ := hpr m hm c3
              have hx1 : x1 ∈ rs := (hrs x1).mpr (.inr ⟨m, c3, ex⟩)
              have hy1 : y1 ∈ rs := (hrs y1).mpr (.inr ⟨m + 1, by omega, by rw [show m + 1 + t = m + t + 1 by omega]; exact ey⟩)
              refine ⟨x1, y1, ex, ey, ?_, ?_⟩
              · unfold setO
                rw [if_neg (fun e : x1 = xb => hnb (e ▸ hx1)), if_neg (fun e : x1 = xa => hna (e ▸ hx1))]
                exact gx
              · unfold setO
                rw [if_neg (fun e : y1 = xb => hnb (e ▸ hy1)), if_neg (fun e : y1 = xa => hna (e ▸ hy1))]
                exact gy
            · have c5 : m = 2 * k := by omega
              subst c5
              refine ⟨xa, xb, ea, eb2, ?_, ?_⟩
              · unfold setO
                rw [if_neg nab, if_pos rfl]
              · unfold setO
                rw [if_pos rfl]
        · rintro σ H3 ⟨w5, w6, w7, rs, h, rfl, Y3, S3, eX3, nr, hrs, hag, hpr⟩
          refine ⟨_, _, _, _, _, rs, h, rfl, Y3, S3, eX3, nr, fun z => ?_, fun c hc => ?_⟩
          · rw [tk, List.mem_append, hrs z, hq z]
            refine or_congr_right ⟨fun ⟨m, _, e⟩ => List.mem_of_getElem? e, fun hz => ?_⟩
            obtain ⟨j, hj, ej⟩ := List.getElem_of_mem hz
            by_cases c3 : t ≤ j
            · refine ⟨j - t, by omega, ?_⟩
              rw [show j - t + t = j by omega, Nat.mod_eq_of_lt hj, List.getElem?_eq_getElem hj, ej]
            · refine ⟨j + b.length - t, by omega, ?_⟩
              rw [show j + b.length - t + t = j + b.length by omega, Nat.add_mod_right, Nat.mod_eq_of_lt hj, List.getElem?_eq_getElem hj, ej]
          · rw [take_snoc eb] at hc
            rcases List.mem_append.mp hc with hc | hc
            · exact (hpb c hc).congr fun z hz => hag z ((hq z).mpr (List.mem_flatten.mpr ⟨c, hc, hz⟩))
            · have : c = b := by simpa using hc
              rw [this]
              exact .inr ⟨t, ht, by omega, fun m hm hml => hpr m hm (by omega)⟩
    · rintro σ H1 ⟨v3, v4, v5, v6, v7, qs, g, rfl, Y1, S1, eX1, nq, hq, hpb⟩
      rw [hbl, List.take_of_length_le (Nat.le_refl _)] at hq hpb
      have hp : qs.Perm ns := by
        exact (List.perm_ext_iff_of_nodup nq nn.nd).mpr fun z => (hq z).trans hfl.mem_iff
      refine ⟨_, rfl, X, ns, _, rfl, eX1, has_okv hp, nn, fun D H2 zs s2 hzs eD hD => ?_⟩
      rw [tk_okv fun z hz => hp.mem_iff.mpr (hzs.mem_iff.mp hz)] at eD
      exact kq D H2 zs g (fun u o n e => s2 _ _ (Y1 _ _ (s5 _ _ e) n (ne_of_none e hX))) (by
        cases e : H D with
        | none => rfl
        | some o =>
          by_cases c : D = st
          · obtain ⟨p, q, e2, _⟩ := S1
            rw [c, e2] at hD
            cases hD
          · rw [Y1 _ _ (s5 _ _ e) c (ne_of_none e hX)] at hD
            cases hD) eD hzs hpb
end
end Qp
/-! the dealings of the blocks are calm -/
namespace Qp
open PySem L2 PySem.W
theorem ring_at {b : List Str} {j i : Nat} (hj : j < b.length) (hi : i < b.length - 1) : (b.drop (j + 1) ++ b.take j)[i]? = b[(j + 1 + i) % b.length]? := by
  by_cases c : i < b.length - (j + 1)
  · rw [List.getElem?_append_left (by rw [List.length_drop]; exact c), List.getElem?_drop, Nat.mod_eq_of_lt (by omega)]
  · rw [List.getElem?_append_right (by rw [List.length_drop]; omega), List.length_drop, List.getElem?_take, if_pos (by omega), Nat.mod_eq_sub_mod (by omega), Nat.mod_eq_of_lt (by omega)]
    congr 1
    omega
section
variable {ns : List Str} {ws : Str → List Str} {bs : List (List Str)}
theorem hd_next {b : List Str} {j : Nat} {a x : Str} (h : ∃ tl, ws a = hdK b j ++ tl) (hj : j < b.length) (h2 : 2 ≤ b.length) (ex : b[(j + 1) % b.length]? = some x) : ∃ tl, ws a = x :: tl := by
  obtain ⟨tl, e⟩ := h
  have r0 := ring_at (i := 0) hj (by omega)
  rw [Nat.add_zero, ex] at r0
  unfold hdK hdR at e
  have hl : (b.drop (j + 1) ++ b.take j).length = b.length - 1 := by rw [List.length_append, List.length_drop, List.length_take]; omega
  generalize b.drop (j + 1) ++ b.take j = ring at e r0 hl
  cases ring with
  | nil => cases r0
  | cons z r =>
    cases r0
    by_cases c : 1 < (x :: r).length
    · rw [if_pos c] at e
      exact ⟨_, e⟩
    · rw [if_neg c] at e
      exact ⟨_, e⟩
theorem hd_both {b : List Str} {j : Nat} {a x y : Str} (h : ∃ tl, ws a = hdK b j ++ tl) (hj : j < b.length) (h2 : 2 < b.length) (ex : b[(j + 1) % b.length]? = some x) (ey : b[(j + b.length - 1) % b.length]? = some y) : ∃ tl, ws a = x :: y :: tl := by
  obtain ⟨tl, e⟩ := h
  have r0 := ring_at (i := 0) hj (by omega)
  have r1 := ring_at (i := b.length - 2) hj (by omega)
  rw [Nat.add_zero, ex] at r0
  rw [show j + 1 + (b.length - 2) = j + b.length - 1 by omega, ey] at r1
  have hl : (b.drop (j + 1) ++ b.take j).length = b.length - 1 := by rw [List.length_append, List.length_drop, List.length_take]; omega
  unfold hdK at e
  rw [hdR_two (x := x) (y := y) (by omega) r0 (by rw [hl, show b.length - 1 - 1 = b.length - 2 by omega]; exact r1)] at e
  exact ⟨tl, e⟩
/-- what stands around one of a block of several -/
structure Nb (ws : Str → List Str) (b : List Str) (j : Nat) (a x y : Str) : Prop where
  x_ : b[(j + 1) % b.length]? = some x
  y_ : b[(j + b.length - 1) % b.length]? = some y
  ox : x ∈ opn ws a ∧ (opn ws a).idxOf x = 0
  oy : 2 < b.length → y ∈ opn ws a ∧ (opn ws a).idxOf y = 1
theorem nb_of (gg : ∀ a ∈ ns, GRow ns a (ws a)) (hfl : bs.flatten.Perm ns) (nd : ns.Nodup) (hws : ∀ b ∈ bs, ∀ k a, b[k]? = some a → ∃ tl, ws a = hdK b k ++ tl) {b : List Str} (hb : b ∈ bs) (hn : b.length = 2 ∨ b.length = 4 ∨ b.length = 6) {j : Nat} {a : Str} (ea : b[j]? = some a) :
    ∃ x y, Nb ws b j a x y := by
  have hj : j < b.length := (List.getElem?_eq_some_iff.mp ea).1
  have hm : ∀ {z}, z ∈ b → z ∈ ns := fun hz => hfl.mem_iff.mp (List.mem_flatten.mpr ⟨b, hb, hz⟩)
  have at_ : ∀ m, ∃ x, b[m % b.length]? = some x := fun m => ⟨_, List.getElem?_eq_getElem (Nat.mod_lt _ (by omega))⟩
  have bnd : b.Nodup := (hfl.nodup_iff.mpr nd).sublist (List.sublist_flatten_of_mem hb)
  obtain ⟨x, ex⟩ := at_ (j + 1)
  obtain ⟨y, ey⟩ := at_ (j + b.length - 1)
  have jx : (j + 1) % b.length < b.length := Nat.mod_lt _ (by omega)
  have jy : (j + b.length - 1) % b.length < b.length := Nat.mod_lt _ (by omega)
  have xp : ((j + 1) % b.length + b.length - 1) % b.length = j := by rcases hn with e | e | e <;> rw [e] at hj ⊢ <;> omega
  have yn : ((j + b.length - 1) % b.length + 1) % b.length = j := by rcases hn with e | e | e <;> rw [e] at hj ⊢ <;> omega
  have haX : a ∈ ws x := by
    by_cases c : 2 < b.length
    · obtain ⟨z, ez⟩ := at_ ((j + 1) % b.length + 1)
      obtain ⟨tl, e⟩ := hd_both (y := a) (hws b hb _ x ex) jx c ez (by rw [xp]; exact ea)
      rw [e]
      exact List.mem_cons_of_mem _ List.mem_cons_self
    · obtain ⟨tl, e⟩ := hd_next (x := a) (hws b hb _ x ex) jx (by omega) (by
        have : b.length = 2 := by omega
        rw [this] at hj ⊢
        have q : ((j + 1) % 2 + 1) % 2 = j := by omega
        rw [q]
        exact ea)
      rw [e]
      exact List.mem_cons_self
  have haY : a ∈ ws y := by
    obtain ⟨tl, e⟩ := hd_next (x := a) (hws b hb _ y ey) jy (by omega) (by rw [yn]; exact ea)
    rw [e]
    exact List.mem_cons_self
  refine ⟨x, y, ex, ey, ?_, fun c => ?_⟩
  · obtain ⟨tl, e⟩ := hd_next (hws b hb j a ea) hj (by omega) ex
    have e2 : opn ws a = x :: tl.filter fun z => decide (a ∈ ws z) := by
      unfold opn
      rw [e, List.filter_cons_of_pos (by exact decide_eq_true haX)]
    rw [e2]
    exact ⟨List.mem_cons_self, by simp⟩
  · obtain ⟨tl, e⟩ := hd_both (hws b hb j a ea) hj c ex ey
    have e2 : opn ws a = x :: y :: tl.filter fun z => decide (a ∈ ws z) := by
      unfold opn
      rw [e, List.filter_cons_of_pos (by exact decide_eq_true haX), List.filter_cons_of_pos (by exact decide_eq_true haY)]
    have nxy : x ≠ y := fun q => by
      have := nd_at bnd (q ▸ ex) ey
      rcases hn with e | e | e <;> rw [e] at hj this c <;> omega
    rw [e2]
    refine ⟨List.mem_cons_of_mem _ List.mem_cons_self, ?_⟩
    rw [List.idxOf_cons, show (x == y) = false from beq_false_of_ne nxy]
    simp
theorem pair_nb {b : List Str} {g : Fn} (h : PairB b g) (hn : b.length = 2 ∨ b.length = 4 ∨ b.length = 6) {j : Nat} {a : Str} (ea : b[j]? = some a) : ∃ c, g a = some c ∧ g c = some a ∧ (b[(j + 1) % b.length]? = some c ∨ b[(j + b.length - 1) % b.length]? = some c) := by
  have hj : j < b.length := (List.getElem?_eq_some_iff.mp ea).1
  rcases h with ⟨h1, _⟩ | ⟨t, ht, _, h⟩
  · omega
  · by_cases c : (j + b.length - t) % b.length % 2 = 0
    · obtain ⟨x, y, ex, ey, gx, gy⟩ := h ((j + b.length - t) % b.length) c (Nat.mod_lt _ (by omega))
      have e1 : ((j + b.length - t) % b.length + t) % b.length = j := by rcases hn with e | e | e <;> rw [e] at hj ⊢ <;> omega
      have e2 : ((j + b.length - t) % b.length + t + 1) % b.length = (j + 1) % b.length := by rcases hn with e | e | e <;> rw [e] at hj ⊢ <;> omega
      rw [e1, ea] at ex
      cases ex
      rw [e2] at ey
      exact ⟨y, gx, gy, .inl ey⟩
    · obtain ⟨x, y, ex, ey, gx, gy⟩ := h ((j + b.length - t) % b.length - 1) (by omega) (by
        have := Nat.mod_lt (j + b.length - t) (show 0 < b.length by omega)
        omega)
      have e1 : ((j + b.length - t) % b.length - 1 + t) % b.length = (j + b.length - 1) % b.length := by rcases hn with e | e | e <;> rw [e] at hj c ⊢ <;> omega
      have e2 : ((j + b.length - t) % b.length - 1 + t + 1) % b.length = j := by rcases hn with e | e | e <;> rw [e] at hj c ⊢ <;> omega
      rw [e2, ea] at ey
      cases ey
      rw [e1] at ex
      exact ⟨x, gy, gx, .inr ex⟩
theorem blocks_calm (gg : ∀ a ∈ ns, GRow ns a (ws a)) (hfl : bs.flatten.Perm ns) (nd : ns.Nodup) (hok : ∀ b ∈ bs, BOk b.length) (hun : ∀ b ∈ bs, ∀ c ∈ bs, b.length = 1 → c.length = 1 → b = c)
    (hws : ∀ b ∈ bs, ∀ k a, b[k]? = some a → ∃ tl, ws a = hdK b k ++ tl) {g : Fn} (hp : ∀ b ∈ bs, PairB b g) : calmP ns ws g := by
  have bl : ∀ a ∈ ns, ∃ b ∈ bs, ∃ j, b[j]? = some a := fun a ha => by
    obtain ⟨b, hb, hab⟩ := List.mem_flatten.mp (hfl.mem_iff.mpr ha)
    obtain ⟨j, hj, e⟩ := List.getElem_of_mem hab
    exact ⟨b, hb, j, by rw [List.getElem?_eq_getElem hj, e]⟩
  have sz : ∀ b ∈ bs, b.length = 1 ∨ (b.length = 2 ∨ b.length = 4 ∨ b.length = 6) := fun b hb => by
    rcases hok b hb with e | ⟨e1, e2, e3⟩ <;> omega
  have one : ∀ {b : List Str} {j : Nat} {a : Str}, b ∈ bs → b.length = 1 → b[j]? = some a → g a = none := fun {b j a} hb h1 ea => by
    rcases hp b hb with ⟨_, h⟩ | ⟨t, _, h, _⟩
    · exact h a (List.mem_of_getElem? ea)
    · omega
  have many : ∀ {b : List Str} {j : Nat} {a : Str}, b ∈ bs → (b.length = 2 ∨ b.length = 4 ∨ b.length = 6) → b[j]? = some a → ∃ x y c, Nb ws b j a x y ∧ g a = some c ∧ g c = some a ∧ c ∈ opn ws a ∧ (vl ws g a = 0 ∨ (2 < b.length ∧ vl ws g a = 1)) := fun {b j a} hb hn ea => by
    obtain ⟨x, y, nb⟩ := nb_of gg hfl nd hws hb hn ea
    obtain ⟨c, gc, gc2, hc⟩ := pair_nb (hp b hb) hn ea
    refine ⟨x, y, c, nb, gc, gc2, ?_⟩
    rw [vl_some gc]
    rcases hc with hc | hc
    · rw [nb.x_] at hc
      cases hc
      exact ⟨nb.ox.1, .inl nb.ox.2⟩
    · by_cases c2 : 2 < b.length
      · rw [nb.y_] at hc
        cases hc
        exact ⟨(nb.oy c2).1, .inr ⟨c2, (nb.oy c2).2⟩⟩
      · have hj := (List.getElem?_eq_some_iff.mp ea).1
        have e2 : b.length = 2 := by omega
        have e3 : (j + b.length - 1) % b.length = (j + 1) % b.length := by rw [e2]; omega
        rw [e3, nb.x_] at hc
        cases hc
        exact ⟨nb.ox.1, .inl nb.ox.2⟩
  have bad : ∀ {b : List Str} {p q : Str}, b ∈ bs → (b.length = 2 ∨ b.length = 4 ∨ b.length = 6) → p ∈ b → q ∈ opn ws p → (opn ws p).idxOf q < vl ws g p → ¬ (opn ws q).idxOf p < vl ws g q := fun {b p q} hb hn hpb hq h1 h2 => by
    obtain ⟨j, hj, ej⟩ := List.getElem_of_mem hpb
    have ej : b[j]? = some p := by rw [List.getElem?_eq_getElem hj, ej]
    obtain ⟨x, y, c, nb, _, _, _, hv⟩ := many hb hn ej
    have hv2 : 2 < b.length ∧ vl ws g p = 1 := hv.resolve_left (by omega)
    have h0 : (opn ws p).idxOf q = (opn ws p).idxOf x := by rw [nb.ox.2]; omega
    have eqx := idx_inj hq nb.ox.1 h0
    subst eqx
    obtain ⟨x2, y2, c2, nb2, _, _, _, hv3⟩ := many hb hn nb.x_
    have hy2 := nb2.y_
    have e3 : ((j + 1) % b.length + b.length - 1) % b.length = j := by rcases hn with e | e | e <;> rw [e] at hj ⊢ <;> omega
    rw [e3, ej] at hy2
    cases hy2
    have := (nb2.oy hv2.1).2
    omega
  refine calm_of gg (fun a ha c e => ?_) fun p hp' q hq ⟨h1, h2⟩ => ?_
  · obtain ⟨b, hb, j, ej⟩ := bl a ha
    rcases sz b hb with s1 | sn
    · rw [one hb s1 ej] at e
      cases e
    · obtain ⟨x, y, c', _, gc, gc2, hc, _⟩ := many hb sn ej
      rw [gc] at e
      cases e
      exact ⟨hc, gc2⟩
  · obtain ⟨b, hb, j, ej⟩ := bl p hp'
    obtain ⟨hqn, hpq⟩ := opn_sym gg hp' hq
    rcases sz b hb with s1 | sn
    · obtain ⟨c, hc, i, ei⟩ := bl q hqn
      rcases sz c hc with s2 | sn2
      · have e := hun b hb c hc s1 s2
        subst e
        have hj := (List.getElem?_eq_some_iff.mp ej).1
        have hi := (List.getElem?_eq_some_iff.mp ei).1
        have e0 : j = i := by omega
        rw [e0, ei] at ej
        cases ej
        exact opn_ne gg hp' hq rfl
      · exact bad hc sn2 (List.mem_of_getElem? ei) hpq h2 h1
    · exact bad hb sn (List.mem_of_getElem? ej) hq h1 h2
end
end Qp
namespace Qp
open PySem L2 PySem.W
theorem okv_dvx {K : PySem.W.Frag} {H : Hp} {d : Addr} {qs : List Str} {g : Fn} (h : H d = some (.dK (okv qs g))) : DV K H (.ref d) (some (okv qs g)) := ⟨d, rfl, h, fun key v hv => by
  obtain ⟨a, _, _, rfl⟩ := okv_sub hv
  exact oV_kd _⟩
theorem okv_neM {H : Hp} {M u : Addr} {ns qs : List Str} {ws : Str → List Str} {g : Fn} (hM : RowsG H M ns (fun z => lstO (opn ws z))) (hu : H u = some (.dK (okv qs g))) : ns ≠ [] → u ≠ M := fun n z => by
  obtain ⟨ad, eM, _⟩ := hM
  rw [z, eM] at hu
  have h1 := HO.dK.inj (Option.some.inj hu)
  cases hns : ns with
  | nil => exact n hns
  | cons a q =>
    rw [hns] at h1
    cases hq : qs with
    | nil => rw [hq] at h1; cases h1
    | cons b q' =>
      rw [hq] at h1
      have h2 : V.ref (ad a) = oV (g b) := congrArg Prod.snd (List.cons.inj h1).1
      cases hb : g b with
      | none => rw [hb] at h2; cases h2
      | some z => rw [hb] at h2; cases h2
def pdO : Option Str → PyData
  | none => .none
  | some z => .str z
theorem pdO_dp {K : PySem.W.Frag} {H : Hp} (o : Option Str) : Dp K H (oV o) (pdO o) := by
  cases o with
  | none => exact .non
  | some z => exact .str z
theorem pdO_eqv (o : Option Str) : PyData.eqv (pdO o) (pdO o) = true := by
  cases o with
  | none => rfl
  | some z => simp [pdO, PyData.eqv]
theorem pdO_lay {o : Option Str} (h : ∀ z, o = some z → nameS z = true) : PyData.canLay0 (pdO o) = true := by
  cases o with
  | none => rfl
  | some z => simp [pdO, PyData.canLay0, strOk_name (h z rfl)]
theorem pdO_depth (o : Option Str) : PyData.depth (pdO o) ≤ 1 := by
  cases o <;> simp [pdO, PyData.depth]
theorem pdO_shaped {o : Option Str} (h : ∀ z, o = some z → nameS z = true) : SeqAt.shaped (pdO o) = true := by
  unfold SeqAt.shaped
  have := pdO_depth o
  rw [pdO_lay h, Bool.true_and, decide_eq_true_iff]
  omega
theorem pdO_shaped3 {o p q : Option Str} (h1 : ∀ z, o = some z → nameS z = true) (h2 : ∀ z, p = some z → nameS z = true) (h3 : ∀ z, q = some z → nameS z = true) : SeqAt.shaped (.list [pdO o, pdO p, pdO q]) = true := by
  unfold SeqAt.shaped
  have a := pdO_depth o
  have b := pdO_depth p
  have c := pdO_depth q
  rw [PyData.canLay0, PyData.canLayAll0, PyData.canLayAll0, PyData.canLayAll0, PyData.canLayAll0, pdO_lay h1, pdO_lay h2, pdO_lay h3, PyData.depth, PyData.depthAll, PyData.depthAll, PyData.depthAll, PyData.depthAll]
  have e : decide (max (PyData.depth (pdO o)) (max (PyData.depth (pdO p)) (max (PyData.depth (pdO q)) 0)) + 1 ≤ 64) = true := decide_eq_true (by omega)
  first
    | (rw [e]; rfl)
    | (simp; omega)
section
variable {P : Program} {w : World} {K : PySem.W.Frag} {mg : Str → Option Value} {base : Heap}
abbrev nFit : List Str := ["_law_group", "_law_mutual_here", "_law_xs", "_law_x", "_law_a", "_law_y"]
/-- _law_middle_fits(group, mutual, xs) of calm dealings -/
def spFit (C : Addr) : Sp := fun vs H Q _ => ∃ (G M X d1 d2 d3 : Addr) (ns : List Str) (ws : Str → List Str) (z1 z2 z3 : List Str) (f g h : Fn), vs = [.ref G, .ref M, .ref X] ∧ GroupAt C H G ns ws ∧ RowsG H M ns (fun z => lstO (opn ws z)) ∧ Nm ns ∧ (∀ a ∈ ns, GRow ns a (ws a)) ∧ SqL K H X [.ref d1, .ref d2, .ref d3] ∧ H X = some (.lst [.ref d1, .ref d2, .ref d3]) ∧
  H d1 = some (.dK (okv z1 f)) ∧ H d2 = some (.dK (okv z2 g)) ∧ H d3 = some (.dK (okv z3 h)) ∧ z1.Perm ns ∧ z2.Perm ns ∧ z3.Perm ns ∧ calmP ns ws f ∧ calmP ns ws g ∧ calmP ns ws h ∧
  ∀ D H', Same H H' → H D = none → H' D = some (.dK (okv ns (mdF ws f g h))) → Q (.ref D) H'
theorem ok_fit {f C CN : Addr} {fd : FuncData} (F : Fun K "_law_middle_fits" "_law_middle_fits" sLmiddlefits f fd) (B : Bl mg) (cM : CF P w K mg base (L2.CX P w) 8 "middle" ["group", "one", "two", "three"] (spMid K C CN)) (cI : CF P w K mg base CX0 3 "_law_is_calm" ["_law_mutual_here", "_law_x"] (spLC K)) :
    FnOk P w K mg base CX0 9 f fd ["_law_group", "_law_mutual_here", "_law_xs"] (spFit (K := K) C) := by
  refine F.ok scLmiddlefits (fun vs H Q E h => ?_) (fun cdv A outer s H vs Q E hr h => ?_)
  · obtain ⟨G, M, X, d1, d2, d3, ns, ws, z1, z2, z3, f, g, h, rfl, _⟩ := h
    rfl
  · have hbig : (A.deeper (PyProof.Rows.envOfC "_law_middle_fits" (defScope sLmiddlefits) s.heap.objs.size f cdv)).units + 65 < cLine := by
      have := hr.un
      omega
    obtain ⟨G, M, X, d1, d2, d3, ns, ws, z1, z2, z3, f, g, h, rfl, hG, hM, nn, gg, _, eX, e1, e2, e3, p1, p2, p3, cf, cg, ch, kq⟩ := h
    have hu := hu_of hr
    have hr3 : Room 3 _ := hr.mono (by decide)
    have esz : sizeLine = 16777216 := sizeLine_eq
    refine ⟨_, pss_cons (ps_set (i := 3) scLmiddlefits.nd rfl (Or.inl rfl) (pe_cfS cM hr (fun σ => passAt takes0 σ) (pa_cons (pv 0) (pa_cons (pe_callTy call_dictD (by rfl) B.dct (by decide +kernel) (pa_cons (pe_ix ix_list (pv 2) pe_int (fun _ _ => rfl)) pa_nil))
        (pa_cons (pe_callTy call_dictD (by rfl) B.dct (by decide +kernel) (pa_cons (pe_ix ix_list (pv 2) pe_int (fun _ _ => rfl)) pa_nil)) (pa_cons (pe_callTy call_dictD (by rfl) B.dct (by decide +kernel) (pa_cons (pe_ix ix_list (pv 2) pe_int (fun _ _ => rfl)) pa_nil)) pa_nil))))))
      (pss_cons (ps_if (pt_not (pt_val (pe_cf cI hr3 pass0 (pa_cons (pv 1) (pa_cons (pv 3) pa_nil))))) pss_no pss_nil)
      (pss_cons (ps_lock (ps_for PassesOwn.never rfl (pi_keys (pv 1)) (pg_name (i := 4) scLmiddlefits.nd rfl (Or.inr rfl))
        (pss_one (ps_if (pt_cmpR (op_notInD hbig) (pe_dget hu (pv 3) (pv 4) (fun _ _ => rfl)) (pe_lc (own := [("_law_y", 5)]) (g := gName 5) (tt := tYes) rfl scLmiddlefits.nd (pi_list (pv 2)) (blkOk_by (own := [("_law_y", 5)]) (N := nFit) (sc := defScope sLmiddlefits) (by decide +kernel))
            (fun _ _ _ _ _ => pg_name (i := 5) scLmiddlefits.nd rfl (Or.inl rfl)) (fun _ _ _ _ _ => pts_nil) (fun _ _ _ _ _ => pe_dget hu (pv 5) (pv 4) (fun _ _ => rfl))) (by rfl))
          pss_no pss_nil))))
      (pss_one (ps_ret (pv 3))))), ?_⟩
    refine ⟨_, rfl, _, rfl, X, _, 0, .ref d1, rfl, rfl, SqL.of eX, rfl, d1, _, rfl, .inl e1, fun c1 hc1 => ?_⟩
    have s1 : Same H (upd H c1 (.dK (okv z1 f))) := Same.new hc1
    have k1 : (upd H c1 (.dK (okv z1 f))) c1 = some (.dK (okv z1 f)) := upd_same
    generalize upd H c1 (.dK (okv z1 f)) = H1 at s1 k1
    refine ⟨_, rfl, X, _, 1, .ref d2, rfl, rfl, SqL.of (s1 _ _ eX), rfl, d2, _, rfl, .inl (s1 _ _ e2), fun c2 hc2 => ?_⟩
    have s2 : Same H1 (upd H1 c2 (.dK (okv z2 g))) := Same.new hc2
    have k2 : (upd H1 c2 (.dK (okv z2 g))) c2 = some (.dK (okv z2 g)) := upd_same
    generalize upd H1 c2 (.dK (okv z2 g)) = H2 at s2 k2
    have s02 := s1.trans s2
    refine ⟨_, rfl, X, _, 2, .ref d3, rfl, rfl, SqL.of (s02 _ _ eX), rfl, d3, _, rfl, .inl (s02 _ _ e3), fun c3 hc3 => ?_⟩
    have s3 : Same H2 (upd H2 c3 (.dK (okv z3 h))) := Same.new hc3
    have k3 : (upd H2 c3 (.dK (okv z3 h))) c3 = some (.dK (okv z3 h)) := upd_same
    generalize upd H2 c3 (.dK (okv z3 h)) = H3 at s3 k3
    have s03 := s02.trans s3
    have i1 : isC ns ws (some (okv z1 f)) = true := (isC_iff gg nn.nd p1).mpr cf
    have i2 : isC ns ws (some (okv z2 g)) = true := (isC_iff gg nn.nd p2).mpr cg
    have i3 : isC ns ws (some (okv z3 h)) = true := (isC_iff gg nn.nd p3).mpr ch
    refine ⟨G, .ref c1, .ref c2, .ref c3, ns, ws, _, _, _, rfl, hG.same s03, nn, gg, okv_dvx (s3 _ _ (s2 _ _ k1)), okv_dvx (s3 _ _ k2), okv_dvx k3, fun e => ?_, fun _ e => ?_, fun _ _ e => ?_, fun f' g' h' q1 q2 q3 o1 o2 o3 r1 r2 r3 cf' cg' ch' D H4 s4 hD eD => ?_⟩
    · rw [i1] at e; cases e
    · rw [i2] at e; cases e
    · rw [i3] at e; cases e
    have same : ∀ {x y : Fn} {q z : List Str}, q.Perm ns → z.Perm ns → some (okv z x) = some (okv q y) → ∀ a ∈ ns, x a = y a := fun {x y q z} hq hz e a ha => by
      have e := Option.some.inj e
      have h1 := okv_val (f := x) (hz.mem_iff.mpr ha)
      rw [e, okv_val (f := y) (hq.mem_iff.mpr ha)] at h1
      have h1 : oV (y a) = oV (x a) := Option.some.inj h1
      cases hx : x a with
      | none =>
        cases hy : y a with
        | none => rfl
        | some v => rw [hx, hy] at h1; cases h1
      | some u =>
        cases hy : y a with
        | none => rw [hx, hy] at h1; cases h1
        | some v =>
          rw [hx, hy] at h1
          have : v = u := V.str.inj h1
          rw [this]
    have ef := same r1 p1 o1
    have eg := same r2 p2 o2
    have eh := same r3 p3 o3
    have em : okv ns (mdF ws f' g' h') = okv ns (mdF ws f g h) := okv_congr fun a ha => by
      unfold mdF
      rw [vl_eq (ws := ws) (ef a ha), vl_eq (ws := ws) (eg a ha), vl_eq (ws := ws) (eh a ha), ef a ha, eg a ha, eh a ha]
    rw [em] at eD
    have cm := mid_calm nn.nd gg cf cg ch
    have s04 := s03.trans s4
    have nDM : D ≠ M := fun z => by
      obtain ⟨ad, eM, _⟩ := hM.same s03
      rw [z, eM] at hD
      cases hD
    refine ⟨_, rfl, _, rfl, M, .ref D, ns, ws, some (okv ns (mdF ws f g h)), rfl, hM.same s04, nn, gg, okv_dvx eD, (fun z => by cases z; exact nDM rfl), fun H5 s5 => ⟨_, rfl, ?_⟩⟩
    rw [(isC_iff gg nn.nd (List.Perm.refl ns)).mpr cm]
    refine iteF ?_
    have s05 := s04.trans s5
    obtain ⟨ad, eM, rM⟩ := hM.same s05
    refine ⟨M, _, eM, trivial, fun od => ?_⟩
    have hM5 := hM.same s05
    have hf : (upd H5 M (.frz od (.dK (ns.map fun a => ((Sum.inr a : Key), V.ref (ad a)))))) M = some (.frz od (.dK (ns.map fun a => ((Sum.inr a : Key), V.ref (ad a))))) := upd_same
    have keep : ∀ b o, b ≠ M → H5 b = some o → (upd H5 M (.frz od (.dK (ns.map fun a => ((Sum.inr a : Key), V.ref (ad a)))))) b = some o := fun b o n e => by rw [upd_ne n]; exact e
    have back : ∀ H', Same (upd H5 M (.frz od (.dK (ns.map fun a => ((Sum.inr a : Key), V.ref (ad a)))))) H' → Same H5 (upd H' M (.dK (ns.map fun a => ((Sum.inr a : Key), V.ref (ad a))))) := fun H' s b o e => by
      by_cases hb : b = M
      · rw [hb, upd_same]
        rw [hb, eM] at e
        exact e
      · rw [upd_ne hb]
        exact s _ _ (keep b o hb e)
    have nXM : X ≠ M := ne_of (s05 _ _ eX) eM (by intro z; cases z)
    have tX := keep _ _ nXM (s05 _ _ eX)
    have tD := keep _ _ nDM (s5 _ _ eD)
    have t1 := fun n : ns ≠ [] => keep _ _ (okv_neM hM5 (s05 _ _ e1) n) (s05 _ _ e1)
    have t2 := fun n : ns ≠ [] => keep _ _ (okv_neM hM5 (s05 _ _ e2) n) (s05 _ _ e2)
    have t3 := fun n : ns ≠ [] => keep _ _ (okv_neM hM5 (s05 _ _ e3) n) (s05 _ _ e3)
    generalize upd H5 M (.frz od (.dK (ns.map fun a => ((Sum.inr a : Key), V.ref (ad a))))) = HL at hf back tX tD t1 t2 t3
    have hDH : H D = none := s03.free hD
    refine ⟨_, rfl, M, od, rfl, .inl ⟨_, hf, for_it walk_keys (fun i σ H' => ∃ v4 : Option V, σ = [some (.ref G), some (.ref M), some (.ref X), some (.ref D), v4, none] ∧ Same HL H') ⟨none, rfl, Same.refl _⟩ (fun i σ H' _ ⟨_, _, z⟩ => z _ _ hf) ?_ ?_⟩⟩
    · rintro i x σ Hx H6 hi ⟨v4, rfl, s6⟩ ⟨rfl, kk, v, hk, rfl⟩
      rw [List.length_map] at hi
      rw [List.getElem?_map] at hk
      cases ea : ns[i]? with
      | none => rw [ea] at hk; cases hk
      | some a =>
        rw [ea] at hk
        cases hk
        have ha := List.mem_of_getElem? ea
        have hne := List.ne_nil_of_mem ha
        have nmO : ∀ {k : Fn}, calmP ns ws k → ∀ z, k a = some z → nameS z = true := fun {k} ck z e => nn.nm z (opn_sym gg ha (ck.1 a ha z e).1).1
        have gD : DGet H6 D (.str a) (some (oV (mdF ws f g h a))) := by rw [← okv_val (f := mdF ws f g h) ha]; exact DGet.k (k := Sum.inr a) (s6 _ _ tD)
        have g1 : ∀ {H'}, Same HL H' → DGet H' d1 (.str a) (some (oV (f a))) := fun {H'} s => by rw [← okv_val (f := f) (p1.mem_iff.mpr ha)]; exact DGet.k (k := Sum.inr a) (s _ _ (t1 hne))
        have g2 : ∀ {H'}, Same HL H' → DGet H' d2 (.str a) (some (oV (g a))) := fun {H'} s => by rw [← okv_val (f := g) (p2.mem_iff.mpr ha)]; exact DGet.k (k := Sum.inr a) (s _ _ (t2 hne))
        have g3 : ∀ {H'}, Same HL H' → DGet H' d3 (.str a) (some (oV (h a))) := fun {H'} s => by rw [← okv_val (f := h) (p3.mem_iff.mpr ha)]; exact DGet.k (k := Sum.inr a) (s _ _ (t3 hne))
        refine ⟨_, rfl, _, rfl, D, _, rfl, gD, _, rfl, X, rfl, ⟨_, SqL.of (s6 _ _ tX)⟩, fun T hT => lc_it (walk_list (xs := [V.ref d1, V.ref d2, V.ref d3])) (fun j H' => Same H6 H' ∧ H' T = some (.lst (([oV (f a), oV (g a), oV (h a)] : List V).take j))) ⟨Same.new hT, upd_same⟩ (fun j H' _ z => SqL.of (z.1 _ _ (s6 _ _ tX))) ?_ ?_⟩
        · rintro j y Hy H7 hj ⟨s7, e7⟩ ⟨rfl, hy⟩
          have s67 := s6.trans s7
          match j, hj, hy with
          | 0, _, hy =>
            cases hy
            refine ⟨rfl, lcTurn ⟨_, rfl, _, rfl, d1, _, rfl, g1 s67, _, e7, by rw [esz]; show 0 < _; decide, same_put s7 hT, upd_same⟩⟩
          | 1, _, hy =>
            cases hy
            refine ⟨rfl, lcTurn ⟨_, rfl, _, rfl, d2, _, rfl, g2 s67, _, e7, by rw [esz]; show 1 < _; decide, same_put s7 hT, upd_same⟩⟩
          | 2, _, hy =>
            cases hy
            refine ⟨rfl, lcTurn ⟨_, rfl, _, rfl, d3, _, rfl, g3 s67, _, e7, by rw [esz]; show 2 < _; decide, same_put s7 hT, upd_same⟩⟩
        · rintro H7 ⟨s7, e7⟩
          have e7 : H7 T = some (.lst [oV (f a), oV (g a), oV (h a)]) := e7
          refine ⟨pdO (mdF ws f g h a), [pdO (f a), pdO (g a), pdO (h a)], pdO_dp _, .lst (SqL.of e7) (.cons (pdO_dp _) (.cons (pdO_dp _) (.cons (pdO_dp _) .nil))), pdO_shaped (nmO cm), pdO_shaped3 (nmO cf) (nmO cg) (nmO ch), _, rfl, ?_⟩
          have eany : (([pdO (f a), pdO (g a), pdO (h a)] : List PyData).any fun z => PyData.eqv z (pdO (mdF ws f g h a))) = true := by
            rcases mdF_or (ws := ws) f g h a with ⟨q, _⟩ | ⟨q, _⟩ | ⟨q, _⟩
            · rw [q]; simp [pdO_eqv]
            · rw [q]; simp [pdO_eqv]
            · rw [q]; simp [pdO_eqv]
          rw [eany]
          exact iteF ⟨_, rfl, s6.trans s7⟩
    · rintro σ H6 ⟨v4, rfl, s6⟩
      have sb := s05.trans (back H6 s6)
      refine ⟨s6 _ _ hf, _, rfl, kq D _ sb hDH ?_⟩
      rw [upd_ne nDM]
      exact s6 _ _ tD
end
end Qp
namespace Qp
open PySem L2
def rkS (st it Z O D : Addr) (v4 v5 v6 : Option V) (Ba : Addr) (k : Nat) (v9 v10 v11 : Option V) : St := [some (.ref st), some (.ref it), some (.ref Z), some (.ref O), some (.ref D), v4, v5, v6, some (.ref Ba), some (.int k), v9, v10, v11, none]
def RkN (st it Z O D : Addr) (v4 v5 v6 : Option V) (Ba : Addr) (k : Nat) (a : Str) (qs ns : List Str) (Hs : Hp) (Dn : Ends) : Prop := ∀ (H : Hp) (v9 v10 v11 : Option V), Lay Hs H st D (qs ++ [a]) ns → Dn.nx (rkS st it Z O D v4 v5 v6 Ba k v9 v10 v11) H
def RkI (st it Z O D : Addr) (v4 v5 v6 : Option V) (Ba : Addr) (k : Nat) (a : Str) (qs ns : List Str) (Hs : Hp) (Dn : Ends) (t : TS) : Prop := ∀ (H : Hp) (v9 : Option V) (h tl : Addr) (hs ts : List Str), Lay Hs H st D qs ns → H h = some (lstO hs) → H tl = some (lstO ts) → GRow ns a (hs ++ ts) → t Dn (rkS st it Z O D v4 v5 v6 Ba k v9 (some (.ref h)) (some (.ref tl))) H
def RkJ (st it Z O D : Addr) (v4 v5 v6 : Option V) (Ba : Addr) (k : Nat) (a : Str) (qs ns : List Str) (Hs : Hp) (Dn : Ends) (t : TS) : Prop := ∀ (H : Hp) (v9 v11 : Option V) (h : Addr) (hs : List Str), Lay Hs H st D qs ns → H h = some (lstO hs) → GRow ns a hs → t Dn (rkS st it Z O D v4 v5 v6 Ba k v9 (some (.ref h)) v11) H
abbrev nRing : List Str := ["_law_state", "_law_names_here", "_law_sizes", "_law_order", "_law_wishes", "_law_at", "_law_turn", "_law_size", "_law_block", "_law_k", "_law_ring", "_law_head", "_law_tail", "_law_b"]
section
variable {P : Program} {w : World} {K : PySem.W.Frag} {mg : Str → Option Value} {base : Heap}
section
variable {f : Addr} {cdv : Value} {A : Around} {outer : List Env} {s : Shared} {H0 : Hp} {E0' : XK}
end
end
end Qp
namespace Qp
open PySem L2
section
variable {P : Program} {w : World} {K : PySem.W.Frag} {mg : Str → Option Value} {base : Heap}
section
variable {f : Addr} {cdv : Value} {A : Around} {outer : List Env} {s : Shared} {H0 : Hp} {E0' : XK}
end
/-- _law_ring_wishes(state, names, sizes) -/
def spRing : Sp := fun vs H Q _ => ∃ (st it Z : Addr) (ns : List Str) (zs : List Int), vs = [.ref st, .ref it, .ref Z] ∧ StAt H st ∧ H it = some (lstO ns) ∧ ns.Nodup ∧ ns.length ≤ 100 ∧ H Z = some (.lst (zs.map V.int)) ∧ Z ≠ st ∧ 0 < zs.length ∧ zs.length < 1000 ∧ (∀ z ∈ zs, 1 ≤ z ∧ z ≤ 10) ∧
  ∀ (D : Addr) (H' : Hp), H D = none → SameBut st H H' → StAt H' st → (∃ order, order.Perm ns ∧ Part H' D order ns) → Q (.ref D) H'
end
end Qp
namespace Qp
open PySem L2
section
variable {P : Program} {w : World} {K : PySem.W.Frag} {mg : Str → Option Value} {base : Heap}
/-- _law_many(state, top) -/
def spMany : Sp := fun vs H Q _ => ∃ (st : Addr) (m : Nat), vs = [.ref st, .int m] ∧ m ≤ 30 ∧ StAt H st ∧ ∀ (d : Nat) H', d ≤ m → SameBut st H H' → StAt H' st → (∀ b, H' b = none → H b = none) → Q (.int d) H'
theorem ok_many {f : Addr} {fd : FuncData} (F : Fun K "_law_many" "_law_many" sLmany f fd) (B : Bl mg) (cT : CF P w K mg base CX0 1 "_law_take" ["_law_state", "_law_many_here"] spTake) : FnOk P w K mg base CX0 2 f fd ["_law_state", "_law_top"] spMany := by
  refine F.ok scLmany (fun vs H Q E h => ?_) (fun cdv A outer s H vs Q E hr h => ?_)
  · obtain ⟨st, m, rfl, _⟩ := h
    rfl
  · obtain ⟨st, m, rfl, hm, hst, kq⟩ := h
    refine ⟨_, pss_one (ps_ret (pe_callB (call_max2 rfl) (by rfl) B.max (by decide +kernel) (pa_cons (pe_cf cT hr pass0 (pa_cons (pv 0) (pa_cons (pe_op op_add (pv 1) pe_int) pa_nil))) (pa_cons (pe_cf cT hr pass0 (pa_cons (pv 0) (pa_cons (pe_op op_add (pv 1) pe_int) pa_nil))) pa_nil)))), ?_⟩
    refine ⟨_, rfl, _, rfl, _, _, rfl, rfl, st, ((m : Nat) : Int) + 1, rfl, by omega, by omega, hst, fun d n1 z1 hd0 hd1 a1 a2 a3 => ?_⟩
    have sb1 : SameBut st H (upd H st (.lst [.int n1, .int z1])) := SameBut.set
    have hs1 : StAt (upd H st (.lst [.int n1, .int z1])) st := ⟨n1, z1, upd_same, a1, a2, a3⟩
    have back1 : ∀ D, (upd H st (.lst [.int n1, .int z1])) D = none → H D = none := fun D hD => by
      by_cases e : D = st
      · rw [e, upd_same] at hD
        cases hD
      · rw [upd_ne e] at hD
        exact hD
    generalize upd H st (.lst [.int n1, .int z1]) = H1 at sb1 hs1 back1
    refine ⟨_, rfl, _, rfl, _, _, rfl, rfl, st, ((m : Nat) : Int) + 1, rfl, by omega, by omega, hs1, fun d2 n2 z2 he0 he1 b1 b2 b3 => ?_⟩
    have sb2 : SameBut st H1 (upd H1 st (.lst [.int n2, .int z2])) := SameBut.set
    have hs2 : StAt (upd H1 st (.lst [.int n2, .int z2])) st := ⟨n2, z2, upd_same, b1, b2, b3⟩
    have back2 : ∀ D, (upd H1 st (.lst [.int n2, .int z2])) D = none → H1 D = none := fun D hD => by
      by_cases e : D = st
      · rw [e, upd_same] at hD
        cases hD
      · rw [upd_ne e] at hD
        exact hD
    obtain ⟨x, rfl⟩ := Int.eq_ofNat_of_zero_le hd0
    obtain ⟨y, rfl⟩ := Int.eq_ofNat_of_zero_le he0
    refine ⟨_, _, rfl, ?_⟩
    by_cases c : ((y : Nat) : Int) > ((x : Nat) : Int)
    · rw [if_pos c]
      exact kq y _ (by omega) (sb1.trans sb2) hs2 fun b h => back1 b (back2 b h)
    · rw [if_neg c]
      exact kq x _ (by omega) (sb1.trans sb2) hs2 fun b h => back1 b (back2 b h)
/-- _law_quiet_group(state, top) -/
def spQG : Sp := fun vs H Q _ => ∃ (st : Addr) (m : Nat), vs = [.ref st, .int m] ∧ m ≤ 20 ∧ StAt H st ∧
  ∀ (T a D : Addr) (ns : List Str) (H' : Hp), H' T = some (.tup [.ref a, .ref D]) → SameBut st H H' → StAt H' st → H a = none → a ≠ st → H' a = some (lstO ns) → ns.Nodup → (∀ z ∈ ns, nameS z = true) → ns.length ≤ m → (∃ order, order.Perm ns ∧ Part H' D order ns) → H D = none → Q (.ref T) H'
end
end Qp
namespace Qp
open PySem L2
section
variable {P : Program} {w : World} {K : PySem.W.Frag} {mg : Str → Option Value} {base : Heap}
/-- _law_cell(script, k) -/
def spCellK (K : PySem.W.Frag) : Sp := fun vs H Q _ => ∃ (a : Addr) (ns : List Int) (k : Nat), vs = [.ref a, .int k] ∧ (k : Int) ≤ 1000 ∧ SqL K H a (ns.map V.int) ∧ ns.length ≤ 63 ∧ ∀ (p : Addr) (n s : Int), H p = none → 0 ≤ n → 0 ≤ s → s < 2147483629 → Q (.ref p) (upd H p (.lst [.int n, .int s]))
theorem ok_cellK {f : Addr} {fd : FuncData} (F : Fun K "_law_cell" "_law_cell" sLcell f fd) (B : Bl mg) : FnOk P w K mg base CX0 1 f fd ["_law_script", "_law_k"] (spCellK K) := by
  refine F.ok scLcell (fun vs H Q E h => ?_) (fun cdv A outer s H vs Q E hr h => ?_)
  · obtain ⟨a, ns, k, rfl, _⟩ := h
    rfl
  · obtain ⟨a, ns, k, rfl, hk, ha, hl, kq⟩ := h
    have rest : ∀ num : Int, 0 ≤ num → ∃ t, PSs (cxOf CX0 P w K mg base ["_law_script", "_law_k", "_law_number", "_law_seed"] "_law_cell" (defScope sLcell) f cdv A outer s H E).nox ((defBody sLcell).drop 2) t ∧
        t { nx := fun _ H' => Q .non H', rt := Q } [some (.ref a), some (.int k), some (.int num), none] H := fun num hnum => by
      refine ⟨_, pss_cons (ps_set (i := 3) scLcell.nd rfl (Or.inl rfl) (pe_op op_modN (pe_callTy call_int1 (by rfl) B.int (by decide +kernel) (pa_cons (pe_op op_add (pe_op op_add (pe_op op_add (pv 2) (pe_op op_mul pe_int (pv 1)))
            (pe_op op_mul pe_int (pe_callB (call_min2 rfl) (by rfl) B.min (by decide +kernel) (pa_cons (pe_callB call_len_seq (by rfl) B.len PySem.boot_len (pa_cons (pv 0) pa_nil)) (pa_cons pe_int pa_nil))))) pe_int) pa_nil)) pe_int))
        (pss_cons (ps_set (i := 3) scLcell.nd rfl (Or.inl rfl) (pe_op op_modN (pe_callTy call_int1 (by rfl) B.int (by decide +kernel) (pa_cons (pe_op op_add (pe_op op_add (pe_op op_mul (pe_op op_mul (pv 3) (pv 3)) (pv 3)) (pe_op op_mul pe_int (pv 3))) pe_int) pa_nil)) pe_int))
        (pss_cons (ps_if (pt_cmpR op_lt (pv 2) (pe_op op_pow pe_int pe_int) (nomark _)) (pss_one (ps_ret (pe_lst (pa_cons pe_int (pa_cons (pv 3) pa_nil))))) pss_nil)
        (pss_one (ps_ret (pe_lst (pa_cons (pv 2) (pa_cons (pv 3) pa_nil))))))), ?_⟩
      refine ⟨_, rfl, _, rfl, _, _, rfl, rfl, .inl ⟨by decide, by decide⟩, _, _, rfl, rfl, _, rfl, a, _, rfl, .inl ha, _, _, rfl, _, _, rfl, rfl, .inl ⟨by decide, by decide⟩, _, _, rfl, rfl, _, _, rfl, rfl, .inl ⟨_, rfl, _, _, rfl, rfl, (by show (2147483629 : Int) ≠ 0; decide), ?_⟩⟩
      generalize (num + 7919 * (k : Int) + 104729 * (if (63 : Int) < (((ns.map V.int).length : Nat) : Int) then (63 : Int) else (((ns.map V.int).length : Nat) : Int)) + 17) = y
      have f0 : 0 ≤ y.fmod 2147483629 := Int.fmod_nonneg_of_pos _ (by decide)
      have f1 : y.fmod 2147483629 < 2147483629 := Int.fmod_lt_of_pos _ (by decide)
      have m0 : 0 ≤ y.fmod 2147483629 * y.fmod 2147483629 := Int.mul_nonneg f0 f0
      have m1 : y.fmod 2147483629 * y.fmod 2147483629 < 2 ^ 64 := by
        have q : y.fmod 2147483629 * y.fmod 2147483629 ≤ 2147483629 * 2147483629 := Int.mul_le_mul (by omega) (by omega) f0 (by decide)
        omega
      refine ⟨_, rfl, _, rfl, _, _, rfl, rfl, .inl ⟨by omega, by omega⟩, _, rfl, _, _, rfl, rfl, .inl ⟨by omega, by omega⟩, _, rfl, _, _, rfl, rfl, .inl ⟨by decide, by decide⟩, _, _, rfl, rfl, _, _, rfl, rfl, .inl ⟨_, rfl, _, _, rfl, rfl, (by show (2147483629 : Int) ≠ 0; decide), ?_⟩⟩
      have g0 : 0 ≤ (y.fmod 2147483629 * y.fmod 2147483629 * y.fmod 2147483629 + 69621 * y.fmod 2147483629 + 11).fmod 2147483629 := Int.fmod_nonneg_of_pos _ (by decide)
      have g1 : (y.fmod 2147483629 * y.fmod 2147483629 * y.fmod 2147483629 + 69621 * y.fmod 2147483629 + 11).fmod 2147483629 < 2147483629 := Int.fmod_lt_of_pos _ (by decide)
      refine ⟨_, rfl, _, _, rfl, rfl, ⟨by decide, by decide, by decide⟩, _, _, rfl, rfl, _, rfl, ite2 (fun _ => ?_) (fun _ => ?_)⟩
      · exact ⟨_, rfl, by show 2 ≤ sizeLine; decide, fun p hp => kq p 0 _ hp (by decide) g0 g1⟩
      · exact ⟨_, rfl, _, rfl, by show 2 ≤ sizeLine; decide, fun p hp => kq p num _ hp hnum g0 g1⟩
    have hnum : ∀ num : Int, 0 ≤ (if num < 0 then -num else num) := fun num => by
      by_cases h : num < 0
      · rw [if_pos h]
        omega
      · rw [if_neg h]
        omega
    by_cases h0 : k < ns.length
    · obtain ⟨n0, e0⟩ : ∃ n0, ns[k]? = some n0 := ⟨ns[k], by simp [h0]⟩
      obtain ⟨t, ht, hq⟩ := rest _ (hnum n0)
      refine ⟨_, pss_cons (ps_set (i := 2) scLcell.nd rfl (Or.inl rfl) pe_int)
        (pss_cons (ps_if (pt_cmpR op_lt (pv 1) (pe_callB call_len_seq (by rfl) B.len PySem.boot_len (pa_cons (pv 0) pa_nil)) (nomark _))
          (pss_one (ps_set (i := 2) scLcell.nd rfl (Or.inl rfl) (pe_callB call_abs (by rfl) B.abs (by decide +kernel) (pa_cons (pe_ix ix_list (pv 0) (pv 1) (fun _ _ => rfl)) pa_nil)))) pss_nil) ht), ?_⟩
      refine ⟨_, rfl, _, rfl, a, _, rfl, .inl ha, _, _, rfl, rfl, _, rfl, ?_⟩
      rw [decide_eq_true (show (k : Int) < (((ns.map V.int).length : Nat) : Int) by rw [List.length_map]; omega)]
      refine iteT ⟨_, rfl, _, rfl, a, _, (k : Int), .int n0, rfl, rfl, ha, atI_nat (j := k) (by rw [List.getElem?_map, e0]; rfl), _, rfl, hq⟩
    · obtain ⟨t, ht, hq⟩ := rest 0 (Int.le_refl 0)
      refine ⟨_, pss_cons (ps_set (i := 2) scLcell.nd rfl (Or.inl rfl) pe_int)
        (pss_cons (ps_if (pt_cmpR op_lt (pv 1) (pe_callB call_len_seq (by rfl) B.len PySem.boot_len (pa_cons (pv 0) pa_nil)) (nomark _))
          (pss_one (ps_set (i := 2) scLcell.nd rfl (Or.inl rfl) (pe_callB call_abs (by rfl) B.abs (by decide +kernel) (pa_cons (pe_ix ix_list (pv 0) (pv 1) (fun _ _ => rfl)) pa_nil)))) pss_nil) ht), ?_⟩
      refine ⟨_, rfl, _, rfl, a, _, rfl, .inl ha, _, _, rfl, rfl, _, rfl, ?_⟩
      rw [decide_eq_false (show ¬ (k : Int) < (((ns.map V.int).length : Nat) : Int) by rw [List.length_map]; omega)]
      exact iteF hq
end
end Qp
namespace Qp
open PySem L2 PySem.W
section
variable {P : Program} {w : World} {K : PySem.W.Frag} {mg : Str → Option Value} {base : Heap}
/-- _law_same(actual, due) of two partners -/
def spSame0 : Sp := fun vs H Q _ => ∃ o u : Option Str, vs = [oV o, oV u] ∧ Q (.bl (decide (o = u))) H
theorem ok_same0 {f : Addr} {fd : FuncData} (F : Fun K "_law_same" "_law_same" sLsame f fd) (B : Bl mg) : FnOk P w K mg base CX0 1 f fd ["_law_actual", "_law_due"] spSame0 := by
  refine F.ok scLsame (fun vs H Q E h => ?_) (fun cdv A outer s H vs Q E hr h => ?_)
  · obtain ⟨o, u, rfl, _⟩ := h
    rfl
  · obtain ⟨o, u, rfl, kq⟩ := h
    refine ⟨_, pss_cons (ps_if (pt_cmp (pc_isN (pv 1))) (pss_one (ps_ret (pe_cmp (pc_isN (pv 0)) rfl))) pss_nil)
      (pss_cons (ps_if (pt_val (pe_isi kit_bool B.isi B.bool (pv 1))) pss_never pss_nil)
      (pss_cons (ps_if (pt_val (pe_isi kit_int B.isi B.int (pv 1))) pss_never pss_nil)
      (pss_cons (ps_if (pt_val (pe_isi kit_str B.isi B.str (pv 1))) (pss_one (ps_ret (pe_and (pe_isi kit_str B.isi B.str (pv 0)) (pe_one (pe_cmpR op_eq (pv 0) (pv 1) (nomark _)))))) pss_nil) pss_never))), ?_⟩
    cases u with
    | none =>
      refine ⟨_, rfl, _, rfl, ?_⟩
      rw [show decide (oV none = V.non) = true from decide_eq_true rfl]
      refine iteT ⟨_, rfl, ?_⟩
      have e : decide (oV o = V.non) = decide (o = none) := by cases o <;> rfl
      show Q (.bl (decide (oV o = V.non))) H
      rw [e]
      exact kq
    | some b =>
      refine ⟨_, rfl, _, rfl, ?_⟩
      rw [show decide (oV (some b) = V.non) = false from decide_eq_false (by intro z; cases z)]
      refine iteF ?_
      refine ⟨_, rfl, _, _, rfl, .str b, _, rfl, iteF ?_⟩
      refine ⟨_, rfl, _, _, rfl, .str b, _, rfl, iteF ?_⟩
      refine ⟨_, rfl, _, _, rfl, .str b, _, rfl, iteT ?_⟩
      cases o with
      | none => exact ⟨_, rfl, _, _, rfl, .non, _, rfl, iteF kq⟩
      | some a =>
        refine ⟨_, rfl, _, _, rfl, .str a, _, rfl, iteT ⟨_, rfl, _, rfl, rfl, ?_⟩⟩
        have e : decide (V.str a = V.str b) = decide (some a = some b) := by simp
        show Q (.bl (decide (V.str a = V.str b))) H
        rw [e]
        exact kq
/-- _law_same(actual, due) of two dealings -/
def spSame1 : Sp := fun vs H Q _ => ∃ (d e : Addr) (ps qs : List Str) (f g : Str → Option Str), vs = [.ref d, .ref e] ∧ d ≠ e ∧ H d = some (.dK (okv ps f)) ∧ H e = some (.dK (okv qs g)) ∧ ps.Perm qs ∧ (∀ a ∈ qs, f a = g a) ∧ Q (.bl true) H
theorem ok_same1 {f : Addr} {fd : FuncData} (F : Fun K "_law_same" "_law_same" sLsame f fd) (B : Bl mg) (cS : CF P w K mg base CX0 1 "_law_same" ["_law_actual", "_law_due"] spSame0) : FnOk P w K mg base CX0 2 f fd ["_law_actual", "_law_due"] spSame1 := by
  refine F.ok scLsame (fun vs H Q E h => ?_) (fun cdv A outer s H vs Q E hr h => ?_)
  · obtain ⟨d, e, ps, qs, f, g, rfl, _⟩ := h
    rfl
  · obtain ⟨d, e, ps, qs, f, g, rfl, nde, hd, he, hp, hfg, kq⟩ := h
    have hu := hu_of hr
    refine ⟨_, pss_cons (ps_if (pt_cmp (pc_isN (pv 1))) pss_never pss_nil)
      (pss_cons (ps_if (pt_val (pe_isi kit_bool B.isi B.bool (pv 1))) pss_never pss_nil)
      (pss_cons (ps_if (pt_val (pe_isi kit_int B.isi B.int (pv 1))) pss_never pss_nil)
      (pss_cons (ps_if (pt_val (pe_isi kit_str B.isi B.str (pv 1))) pss_never pss_nil)
      (pss_cons (ps_if (PW.pt (pw_and (pt_val (pe_isi kit_tuple B.isi B.tup (pv 1))) (pw_and1 (pt_not (pt_val (pe_isi kit_tuple B.isi B.tup (pv 0))))))) pss_never pss_nil)
      (pss_cons (ps_if (PW.pt (pw_and (pt_val (pe_isi kit_list B.isi B.lst (pv 1))) (pw_and1 (pt_not (pt_val (pe_isi kit_list B.isi B.lst (pv 0))))))) pss_never pss_nil)
      (pss_cons (ps_if (PW.pt (pw_or (pt_val (pe_isi kit_tuple B.isi B.tup (pv 1))) (pw_or1 (pt_val (pe_isi kit_list B.isi B.lst (pv 1)))))) pss_never pss_nil)
      (pss_cons (ps_if (pt_val (pe_isi kit_dict B.isi B.dct (pv 1)))
        (pss_cons (ps_if (PW.pt (pw_or (pt_not (pt_val (pe_isi kit_dict B.isi B.dct (pv 0)))) (pw_or1 (pt_cmpR op_ne (pe_callB call_lenD (by rfl) B.len PySem.boot_len (pa_cons (pv 0) pa_nil)) (pe_callB call_lenD (by rfl) B.len PySem.boot_len (pa_cons (pv 1) pa_nil)) (nomark _))))) pss_never pss_nil)
        (pss_cons (ps_lock (ps_for PassesOwn.never rfl (pi_keys (pv 1)) (pg_name (i := 3) scLsame.nd rfl (Or.inl rfl))
          (pss_one (ps_if (PW.pt (pw_or (pt_cmp (pc_dnotin hu (pv 3) (pv 0))) (pw_or1 (pt_not (pt_val (pe_cf cS hr pass0 (pa_cons (pe_dget hu (pv 0) (pv 3) (fun _ _ => rfl)) (pa_cons (pe_dget hu (pv 1) (pv 3) (fun _ _ => rfl)) pa_nil)))))))) pss_never pss_nil))))
        (pss_one (ps_ret pe_bl)))) pss_nil) pss_never))))))), ?_⟩
    refine ⟨_, rfl, _, rfl, iteF ?_⟩
    refine ⟨_, rfl, _, _, rfl, .dct he, _, rfl, iteF ?_⟩
    refine ⟨_, rfl, _, _, rfl, .dct he, _, rfl, iteF ?_⟩
    refine ⟨_, rfl, _, _, rfl, .dct he, _, rfl, iteF ?_⟩
    refine ⟨_, rfl, _, _, rfl, .dct he, _, rfl, iteF (iteF ?_)⟩
    refine ⟨_, rfl, _, _, rfl, .dct he, _, rfl, iteF (iteF ?_)⟩
    refine ⟨_, rfl, _, _, rfl, .dct he, _, rfl, iteF ⟨_, rfl, _, _, rfl, .dct he, _, rfl, iteF ?_⟩⟩
    refine ⟨_, rfl, _, _, rfl, .dct he, _, rfl, iteT ?_⟩
    refine ⟨_, rfl, _, _, rfl, .dct hd, _, rfl, iteF ⟨_, rfl, d, _, rfl, hd, _, rfl, e, _, rfl, he, rfl, _, rfl, ?_⟩⟩
    have el : (!decide (V.int (((okv ps f).length : Nat) : Int) = V.int (((okv qs g).length : Nat) : Int))) = false := by
      rw [okv_len, okv_len, hp.length_eq, decide_eq_true rfl]
      rfl
    rw [el]
    refine iteF ⟨e, _, he, True.intro, fun od => ?_⟩
    have hf : (upd H e (.frz od (.dK (okv qs g)))) e = some (.frz od (.dK (okv qs g))) := upd_same
    have hd1 : (upd H e (.frz od (.dK (okv qs g)))) d = some (.dK (okv ps f)) := by rw [upd_ne nde]; exact hd
    have back : upd (upd H e (.frz od (.dK (okv qs g)))) e (.dK (okv qs g)) = H := back_lock he
    generalize hHL : upd H e (.frz od (.dK (okv qs g))) = HL at hf hd1 back
    refine ⟨_, rfl, e, od, rfl, .inl ⟨_, hf, for_it walk_keys (fun i σ H' => ∃ v3 : Option V, σ = [some (.ref d), some (.ref e), none, v3] ∧ H' = HL) ⟨none, rfl, rfl⟩ (fun i σ H' _ ⟨_, _, z⟩ => by rw [z]; exact hf) ?_ ?_⟩⟩
    · rintro i x σ Hx H1 hi ⟨v3, rfl, rfl⟩ ⟨rfl, kk, v, hk, rfl⟩
      rw [okv_len] at hi
      unfold okv at hk
      rw [List.getElem?_map] at hk
      cases ea : qs[i]? with
      | none => rw [ea] at hk; cases hk
      | some a =>
        rw [ea] at hk
        cases hk
        have ha : a ∈ qs := List.mem_of_getElem? ea
        have hap : a ∈ ps := hp.mem_iff.mpr ha
        refine ⟨_, rfl, _, rfl, d, _, rfl, DGet.k (k := Sum.inr a) hd1, _, rfl, ?_⟩
        rw [okv_val hap]
        refine iteF ⟨_, rfl, _, rfl, d, _, rfl, by rw [← okv_val (f := f) hap]; exact DGet.k (k := Sum.inr a) hd1, _, rfl, _, rfl, e, _, rfl, .inl ⟨_, Sum.inr a, .inr ⟨od, hf⟩, rfl, (okv_val ha).symm⟩, f a, g a, rfl, _, rfl, ?_⟩
        rw [decide_eq_true (hfg a ha)]
        exact iteF ⟨_, rfl, rfl⟩
    · rintro σ H1 ⟨v3, rfl, rfl⟩
      refine ⟨hf, ?_⟩
      rw [back]
      exact kq
end
end Qp
namespace Qp
open PySem L2 PySem.W
section
variable {P : Program} {w : World} {K : PySem.W.Frag} {mg : Str → Option Value} {base : Heap}
structure LawT (P : Program) (w : World) (K : PySem.W.Frag) (mg : Str → Option Value) (base : Heap) (C CB CW fG : Addr) : Prop where
  cell : CF P w K mg base CX0 1 "_law_cell" ["_law_script", "_law_k"] (spCellK K)
  many : CF P w K mg base CX0 2 "_law_many" ["_law_state", "_law_top"] spMany
  names : CF P w K mg base CX0 3 "_law_names" ["_law_state", "_law_many_here"] spNames
  blk : CF P w K mg base CX0 3 "_law_blocks" ["_law_state", "_law_names_here"] spBlk
  bll : CF P w K mg base CX0 3 "_law_block_lists" ["_law_state", "_law_names_here", "_law_blocks_here"] spBll
  copy : CF P w K mg base CX0 1 "_law_copy" ["_law_wishes"] spCopy
  mutu : CF P w K mg base CX0 1 "_law_mutual" ["_law_names_here", "_law_wishes"] spMut
  one : CF P w K mg base CX0 2 "_law_one_of_all" ["_law_state", "_law_blocks_here"] spOne
  fit : CF P w K mg base CX0 9 "_law_middle_fits" ["_law_group", "_law_mutual_here", "_law_xs"] (spFit (K := K) C)
  sm : CF P w K mg base CX0 2 "_law_same" ["_law_actual", "_law_due"] spSame1
  g : GTxt K mg C
  mkG : Mk K C fG
  gi : ∃ fd, FnOk P w K mg base (L2.CX P w) 4 fG fd ["self", "people", "wishes"] (spGI C CB CW) ∧ Binds K fd ["self", "people", "wishes"] []
abbrev nLaw : List Str := ["_law_script", "_law_state", "_law_names_here", "_law_blocks_here", "_law_wishes", "_law_group", "_law_mutual_here", "_law_xs", "_law_inner", "_law_other", "_law_again", "_law_twice", "_law_left", "_law_one", "_law_two", "_law_k"]
/-- a calm dealing that stands -/
structure Md (H : Hp) (d : Addr) (zs : List Str) (f : Fn) (ns : List Str) (ws : Str → List Str) : Prop where
  e : H d = some (.dK (okv zs f))
  p : zs.Perm ns
  c : calmP ns ws f
theorem Md.same {H H' : Hp} {d : Addr} {zs : List Str} {f : Fn} {ns : List Str} {ws : Str → List Str} (s : Same H H') (h : Md H d zs f ns ws) : Md H' d zs f ns ws := ⟨s _ _ h.e, h.p, h.c⟩
/-- the group and what is mutual -/
structure GM (C : Addr) (H : Hp) (G M : Addr) (ns : List Str) (ws : Str → List Str) : Prop where
  g : GroupAt C H G ns ws
  m : RowsG H M ns (fun z => lstO (opn ws z))
  nn : Nm ns
  gg : ∀ a ∈ ns, GRow ns a (ws a)
theorem GM.same {C : Addr} {H H' : Hp} {G M : Addr} {ns : List Str} {ws : Str → List Str} (s : Same H H') (h : GM C H G M ns ws) : GM C H' G M ns ws := ⟨h.g.same s, h.m.same s, h.nn, h.gg⟩
theorem GM.fit {C : Addr} {H : Hp} {G M X d1 d2 d3 : Addr} {ns : List Str} {ws : Str → List Str} {z1 z2 z3 : List Str} {f g h : Fn} {Q : VK} (t : GM C H G M ns ws) (e : H X = some (.lst [.ref d1, .ref d2, .ref d3])) (m1 : Md H d1 z1 f ns ws) (m2 : Md H d2 z2 g ns ws) (m3 : Md H d3 z3 h ns ws)
    (k : ∀ D H', Same H H' → H D = none → Md H' D ns (mdF ws f g h) ns ws → Q (.ref D) H') : spFit (K := K) C [.ref G, .ref M, .ref X] H Q E0 :=
  ⟨G, M, X, d1, d2, d3, ns, ws, z1, z2, z3, f, g, h, rfl, t.g, t.m, t.nn, t.gg, SqL.of e, e, m1.e, m2.e, m3.e, m1.p, m2.p, m3.p, m1.c, m2.c, m3.c, fun D H' s hD eD => k D H' s hD ⟨eD, List.Perm.refl _, mid_calm t.nn.nd t.gg m1.c m2.c m3.c⟩⟩
theorem md_eq {ns : List Str} {ws : Str → List Str} {f g : Fn} (cf : calmP ns ws f) (cg : calmP ns ws g) {a : Str} (ha : a ∈ ns) (e : vl ws f a = vl ws g a) : f a = g a := vl_inj (fun b hb => (cf.1 a ha b hb).1) (fun b hb => (cg.1 a ha b hb).1) e
variable {C CB CW fG : Addr} {f : Addr} {cdv : Value} {A : Around} {outer : List Env} {s : Shared} {H0 : Hp} {E0' : XK} {Q : VK}
/-- what is asked of five calm dealings -/
theorem law7 (T : LawT P w K mg base C CB CW fG) (B : Bl mg) (hr : Room 9 (A.deeper (PyProof.Rows.envOfC "law" (defScope slaw) s.heap.objs.size f cdv))) (kq : ∀ H', Q (.bl true) H') :
    ∃ t, PSs (cxOf CX0 P w K mg base nLaw "law" (defScope slaw) f cdv A outer s H0 E0').nox ((defBody slaw).drop 7) t ∧
      ∀ (H : Hp) (v0 v1 v2 v3 v4 : Option V) (G M X d0 d1 d2 d3 d4 : Addr) (ns : List Str) (ws : Str → List Str) (z0 z1 z2 z3 z4 : List Str) (f0' f1 f2 f3 f4 : Fn), GM C H G M ns ws → H X = some (.lst [.ref d0, .ref d1, .ref d2, .ref d3, .ref d4]) → Md H d0 z0 f0' ns ws → Md H d1 z1 f1 ns ws → Md H d2 z2 f2 ns ws → Md H d3 z3 f3 ns ws → Md H d4 z4 f4 ns ws →
        t { nx := fun _ H' => Q .non H', rt := Q } [v0, v1, v2, v3, v4, some (.ref G), some (.ref M), some (.ref X), none, none, none, none, none, none, none, none] H := by
  have hr2 : Room 2 _ := hr.mono (by decide)
  have esz : sizeLine = 16777216 := sizeLine_eq
  have three : 3 ≤ sizeLine := by rw [esz]; decide
  refine ⟨_, pss_cons (ps_set (i := 8) sclaw.nd rfl (Or.inl rfl) (pe_cf T.fit hr pass0 (pa_cons (pv 5) (pa_cons (pv 6) (pa_cons (pe_slice sl_list (pv 7) po_none (po_some pe_int)) pa_nil)))))
    (pss_cons (ps_set (i := 9) sclaw.nd rfl (Or.inl rfl) (pe_cf T.fit hr pass0 (pa_cons (pv 5) (pa_cons (pv 6) (pa_cons (pe_lst (pa_cons (pe_ix ix_list (pv 7) pe_int (fun _ _ => rfl)) (pa_cons (pe_ix ix_list (pv 7) pe_int (fun _ _ => rfl)) (pa_cons (pe_ix ix_list (pv 7) pe_int (fun _ _ => rfl)) pa_nil)))) pa_nil)))))
    (pss_cons (ps_set (i := 10) sclaw.nd rfl (Or.inl rfl) (pe_cf T.fit hr pass0 (pa_cons (pv 5) (pa_cons (pv 6) (pa_cons (pe_lst (pa_cons (pe_ix ix_list (pv 7) pe_int (fun _ _ => rfl)) (pa_cons (pe_ix ix_list (pv 7) pe_int (fun _ _ => rfl)) (pa_cons (pe_ix ix_list (pv 7) pe_int (fun _ _ => rfl)) pa_nil)))) pa_nil)))))
    (pss_cons (ps_set (i := 11) sclaw.nd rfl (Or.inl rfl) (pe_cf T.fit hr pass0 (pa_cons (pv 5) (pa_cons (pv 6) (pa_cons (pe_lst (pa_cons (pe_ix ix_list (pv 7) pe_int (fun _ _ => rfl)) (pa_cons (pe_ix ix_list (pv 7) pe_int (fun _ _ => rfl)) (pa_cons (pe_ix ix_list (pv 7) pe_int (fun _ _ => rfl)) pa_nil)))) pa_nil)))))
    (pss_cons (ps_if (PW.pt (pw_or (pt_cmp (pc_isN (pv 8))) (pw_or (pt_not (pt_val (pe_cf T.sm hr2 pass0 (pa_cons (pv 9) (pa_cons (pv 8) pa_nil))))) (pw_or (pt_not (pt_val (pe_cf T.sm hr2 pass0 (pa_cons (pv 10) (pa_cons (pv 8) pa_nil)))))
      (pw_or1 (pt_not (pt_val (pe_cf T.sm hr2 pass0 (pa_cons (pv 11) (pa_cons (pe_ix ix_list (pv 7) pe_int (fun _ _ => rfl)) pa_nil)))))))))) pss_no pss_nil)
    (pss_cons (ps_set (i := 12) sclaw.nd rfl (Or.inl rfl) (pe_cf T.fit hr pass0 (pa_cons (pv 5) (pa_cons (pv 6) (pa_cons (pe_lst (pa_cons (pv 8) (pa_cons (pe_ix ix_list (pv 7) pe_int (fun _ _ => rfl)) (pa_cons (pe_ix ix_list (pv 7) pe_int (fun _ _ => rfl)) pa_nil)))) pa_nil)))))
    (pss_cons (ps_set (i := 13) sclaw.nd rfl (Or.inl rfl) (pe_cf T.fit hr pass0 (pa_cons (pv 5) (pa_cons (pv 6) (pa_cons (pe_lst (pa_cons (pe_ix ix_list (pv 7) pe_int (fun _ _ => rfl)) (pa_cons (pe_ix ix_list (pv 7) pe_int (fun _ _ => rfl)) (pa_cons (pe_ix ix_list (pv 7) pe_int (fun _ _ => rfl)) pa_nil)))) pa_nil)))))
    (pss_cons (ps_set (i := 14) sclaw.nd rfl (Or.inl rfl) (pe_cf T.fit hr pass0 (pa_cons (pv 5) (pa_cons (pv 6) (pa_cons (pe_lst (pa_cons (pe_ix ix_list (pv 7) pe_int (fun _ _ => rfl)) (pa_cons (pe_ix ix_list (pv 7) pe_int (fun _ _ => rfl)) (pa_cons (pe_ix ix_list (pv 7) pe_int (fun _ _ => rfl)) pa_nil)))) pa_nil)))))
    (pss_cons (ps_if (PW.pt (pw_or (pt_cmp (pc_isN (pv 12))) (pw_or (pt_cmp (pc_isN (pv 13))) (pw_or1 (pt_cmp (pc_isN (pv 14))))))) pss_no pss_nil)
    (pss_one (ps_ret (pe_cf T.sm hr2 pass0 (pa_cons (pe_cf T.fit hr pass0 (pa_cons (pv 5) (pa_cons (pv 6) (pa_cons (pe_lst (pa_cons (pv 13) (pa_cons (pv 14) (pa_cons (pe_ix ix_list (pv 7) pe_int (fun _ _ => rfl)) pa_nil)))) pa_nil)))) (pa_cons (pv 12) pa_nil))))))))))))), ?_⟩
  rintro H v0 v1 v2 v3 v4 G M X d0 d1 d2 d3 d4 ns ws z0 z1 z2 z3 z4 f0' f1 f2 f3 f4 t eX m0 m1 m2 m3 m4
  have ix : ∀ {H' : Hp}, H' X = some (.lst [.ref d0, .ref d1, .ref d2, .ref d3, .ref d4]) → SqL K H' X [.ref d0, .ref d1, .ref d2, .ref d3, .ref d4] := fun e => SqL.of e
  -- the first
  refine ⟨_, rfl, _, rfl, _, rfl, _, rfl, X, _, rfl, SqL.of eX, fun L hL => ?_⟩
  have ecut : cutV [V.ref d0, .ref d1, .ref d2, .ref d3, .ref d4] none (some 3) = [V.ref d0, .ref d1, .ref d2] := by
    have := cut_to (xs := [V.ref d0, .ref d1, .ref d2, .ref d3, .ref d4]) (i := 3)
    exact this.trans rfl
  rw [ecut]
  have s1 : Same H (upd H L (.lst [.ref d0, .ref d1, .ref d2])) := Same.new hL
  have eL : (upd H L (.lst [.ref d0, .ref d1, .ref d2])) L = some (.lst [.ref d0, .ref d1, .ref d2]) := upd_same
  generalize upd H L (.lst [.ref d0, .ref d1, .ref d2]) = H1 at s1 eL
  dsimp only [tNil]
  refine (t.same s1).fit eL (m0.same s1) (m1.same s1) (m2.same s1) fun I H2 s2 hI mI => ?_
  have s02 := s1.trans s2
  -- the same in another order
  refine ⟨_, rfl, _, rfl, _, rfl, X, _, 2, .ref d2, rfl, rfl, ix (s02 _ _ eX), rfl, _, rfl, X, _, 0, .ref d0, rfl, rfl, ix (s02 _ _ eX), rfl, _, rfl, X, _, 1, .ref d1, rfl, rfl, ix (s02 _ _ eX), rfl, three, fun L3 hL3 => ?_⟩
  have s3 : Same H2 (upd H2 L3 (.lst [.ref d2, .ref d0, .ref d1])) := Same.new hL3
  have eL3 : (upd H2 L3 (.lst [.ref d2, .ref d0, .ref d1])) L3 = some (.lst [.ref d2, .ref d0, .ref d1]) := upd_same
  generalize upd H2 L3 (.lst [.ref d2, .ref d0, .ref d1]) = H3 at s3 eL3
  have s03 := s02.trans s3
  dsimp only [tNil]
  refine (t.same s03).fit eL3 (m2.same s03) (m0.same s03) (m1.same s03) fun O H4 s4 hO mO => ?_
  have s04 := s03.trans s4
  refine ⟨_, rfl, _, rfl, _, rfl, X, _, 1, .ref d1, rfl, rfl, ix (s04 _ _ eX), rfl, _, rfl, X, _, 0, .ref d0, rfl, rfl, ix (s04 _ _ eX), rfl, _, rfl, X, _, 2, .ref d2, rfl, rfl, ix (s04 _ _ eX), rfl, three, fun L5 hL5 => ?_⟩
  have s5 : Same H4 (upd H4 L5 (.lst [.ref d1, .ref d0, .ref d2])) := Same.new hL5
  have eL5 : (upd H4 L5 (.lst [.ref d1, .ref d0, .ref d2])) L5 = some (.lst [.ref d1, .ref d0, .ref d2]) := upd_same
  generalize upd H4 L5 (.lst [.ref d1, .ref d0, .ref d2]) = H5 at s5 eL5
  have s05 := s04.trans s5
  dsimp only [tNil]
  refine (t.same s05).fit eL5 (m1.same s05) (m0.same s05) (m2.same s05) fun A2 H6 s6 hA mA => ?_
  have s06 := s05.trans s6
  refine ⟨_, rfl, _, rfl, _, rfl, X, _, 3, .ref d3, rfl, rfl, ix (s06 _ _ eX), rfl, _, rfl, X, _, 4, .ref d4, rfl, rfl, ix (s06 _ _ eX), rfl, _, rfl, X, _, 3, .ref d3, rfl, rfl, ix (s06 _ _ eX), rfl, three, fun L7 hL7 => ?_⟩
  have s7 : Same H6 (upd H6 L7 (.lst [.ref d3, .ref d4, .ref d3])) := Same.new hL7
  have eL7 : (upd H6 L7 (.lst [.ref d3, .ref d4, .ref d3])) L7 = some (.lst [.ref d3, .ref d4, .ref d3]) := upd_same
  generalize upd H6 L7 (.lst [.ref d3, .ref d4, .ref d3]) = H7 at s7 eL7
  have s07 := s06.trans s7
  dsimp only [tNil]
  refine (t.same s07).fit eL7 (m3.same s07) (m4.same s07) (m3.same s07) fun W2 H8 s8 hW mW => ?_
  have s08 := s07.trans s8
  have s28 := (((((s3.trans s4).trans s5).trans s6).trans s7).trans s8)
  have mI8 := mI.same s28
  have s48 := (((s5.trans s6).trans s7).trans s8)
  have mO8 := mO.same s48
  have mA8 := mA.same (s7.trans s8)
  have nOI : O ≠ I := fun e => by
    have := s3 _ _ mI.e
    rw [← e, hO] at this
    cases this
  have nAI : A2 ≠ I := fun e => by
    have := ((s3.trans s4).trans s5) _ _ mI.e
    rw [← e, hA] at this
    cases this
  have nW3 : W2 ≠ d3 := fun e => by
    have := s07 _ _ m3.e
    rw [← e, hW] at this
    cases this
  have cI := mI.c
  have cO := mO.c
  have cA := mA.c
  have cW := mW.c
  refine ⟨_, rfl, _, rfl, iteF ?_⟩
  refine ⟨_, rfl, _, rfl, O, I, ns, ns, _, _, rfl, nOI, mO8.e, mI8.e, List.Perm.refl _, (fun a ha => md_eq cO cI ha (by rw [mdF_vl, mdF_vl]; unfold med3; omega)), _, rfl, iteF ?_⟩
  refine ⟨_, rfl, _, rfl, A2, I, ns, ns, _, _, rfl, nAI, mA8.e, mI8.e, List.Perm.refl _, (fun a ha => md_eq cA cI ha (by rw [mdF_vl, mdF_vl]; unfold med3; omega)), _, rfl, iteF ?_⟩
  refine ⟨_, rfl, _, rfl, X, _, 3, .ref d3, rfl, rfl, ix (s08 _ _ eX), rfl, W2, d3, ns, z3, _, _, rfl, nW3, mW.e, s08 _ _ m3.e, m3.p.symm, (fun a ha => md_eq cW m3.c (m3.p.mem_iff.mp ha) (by rw [mdF_vl]; unfold med3; omega)), _, rfl, iteF ?_⟩
  -- the second half
  refine ⟨_, rfl, _, rfl, _, rfl, _, rfl, X, _, 3, .ref d3, rfl, rfl, ix (s08 _ _ eX), rfl, _, rfl, X, _, 4, .ref d4, rfl, rfl, ix (s08 _ _ eX), rfl, three, fun L9 hL9 => ?_⟩
  have s9 : Same H8 (upd H8 L9 (.lst [.ref I, .ref d3, .ref d4])) := Same.new hL9
  have eL9 : (upd H8 L9 (.lst [.ref I, .ref d3, .ref d4])) L9 = some (.lst [.ref I, .ref d3, .ref d4]) := upd_same
  generalize upd H8 L9 (.lst [.ref I, .ref d3, .ref d4]) = H9 at s9 eL9
  have s09 := s08.trans s9
  dsimp only [tNil]
  refine (t.same s09).fit eL9 (mI8.same s9) (m3.same s09) (m4.same s09) fun Lf H10 s10 hLf mLf => ?_
  have s010 := s09.trans s10
  refine ⟨_, rfl, _, rfl, _, rfl, X, _, 0, .ref d0, rfl, rfl, ix (s010 _ _ eX), rfl, _, rfl, X, _, 3, .ref d3, rfl, rfl, ix (s010 _ _ eX), rfl, _, rfl, X, _, 4, .ref d4, rfl, rfl, ix (s010 _ _ eX), rfl, three, fun L11 hL11 => ?_⟩
  have s11 : Same H10 (upd H10 L11 (.lst [.ref d0, .ref d3, .ref d4])) := Same.new hL11
  have eL11 : (upd H10 L11 (.lst [.ref d0, .ref d3, .ref d4])) L11 = some (.lst [.ref d0, .ref d3, .ref d4]) := upd_same
  generalize upd H10 L11 (.lst [.ref d0, .ref d3, .ref d4]) = H11 at s11 eL11
  have s011 := s010.trans s11
  dsimp only [tNil]
  refine (t.same s011).fit eL11 (m0.same s011) (m3.same s011) (m4.same s011) fun On H12 s12 hOn mOn => ?_
  have s012 := s011.trans s12
  refine ⟨_, rfl, _, rfl, _, rfl, X, _, 1, .ref d1, rfl, rfl, ix (s012 _ _ eX), rfl, _, rfl, X, _, 3, .ref d3, rfl, rfl, ix (s012 _ _ eX), rfl, _, rfl, X, _, 4, .ref d4, rfl, rfl, ix (s012 _ _ eX), rfl, three, fun L13 hL13 => ?_⟩
  have s13 : Same H12 (upd H12 L13 (.lst [.ref d1, .ref d3, .ref d4])) := Same.new hL13
  have eL13 : (upd H12 L13 (.lst [.ref d1, .ref d3, .ref d4])) L13 = some (.lst [.ref d1, .ref d3, .ref d4]) := upd_same
  generalize upd H12 L13 (.lst [.ref d1, .ref d3, .ref d4]) = H13 at s13 eL13
  have s013 := s012.trans s13
  dsimp only [tNil]
  refine (t.same s013).fit eL13 (m1.same s013) (m3.same s013) (m4.same s013) fun Tw H14 s14 hTw mTw => ?_
  have s014 := s013.trans s14
  refine ⟨_, rfl, _, rfl, iteF ⟨_, rfl, _, rfl, iteF ⟨_, rfl, _, rfl, iteF ?_⟩⟩⟩
  refine ⟨_, rfl, _, rfl, _, rfl, _, rfl, _, rfl, X, _, 2, .ref d2, rfl, rfl, ix (s014 _ _ eX), rfl, three, fun L15 hL15 => ?_⟩
  have s15 : Same H14 (upd H14 L15 (.lst [.ref On, .ref Tw, .ref d2])) := Same.new hL15
  have eL15 : (upd H14 L15 (.lst [.ref On, .ref Tw, .ref d2])) L15 = some (.lst [.ref On, .ref Tw, .ref d2]) := upd_same
  generalize upd H14 L15 (.lst [.ref On, .ref Tw, .ref d2]) = H15 at s15 eL15
  have s015 := s014.trans s15
  have mOn14 := mOn.same ((s13.trans s14).trans s15)
  have mTw15 := mTw.same s15
  dsimp only [tNil]
  refine (t.same s015).fit eL15 mOn14 mTw15 (m2.same s015) fun Z H16 s16 hZ mZ => ?_
  have sLf := ((((s11.trans s12).trans s13).trans s14).trans s15)
  have mLf16 := (mLf.same sLf).same s16
  have nZL : Z ≠ Lf := fun e => by
    have := (mLf.same sLf).e
    rw [← e, hZ] at this
    cases this
  have cZ := mZ.c
  have cL := mLf.c
  exact ⟨_, rfl, Z, Lf, ns, ns, _, _, rfl, nZL, mZ.e, mLf16.e, List.Perm.refl _, (fun a ha => md_eq cZ cL ha (by simp only [mdF_vl]; unfold med3; omega)), kq H16⟩
end
end Qp
namespace Qp
open PySem L2 PySem.W
section
variable {P : Program} {w : World} {K : PySem.W.Frag} {mg : Str → Option Value} {base : Heap}
variable {C CB CW fG : Addr}
def MdV (H : Hp) (ns : List Str) (ws : Str → List Str) (x : V) : Prop := ∃ d z f, x = V.ref d ∧ Md H d z f ns ws
/-- law(script) -/
def spLaw (K : PySem.W.Frag) : Sp := fun vs H Q _ => ∃ (a : Addr) (ns : List Int), vs = [.ref a] ∧ SqL K H a (ns.map V.int) ∧ ns.length ≤ 63 ∧ ∀ H', Q (.bl true) H'
theorem ok_law {f : Addr} {fd : FuncData} (F : Fun K "law" "law" slaw f fd) (B : Bl mg) (T : LawT P w K mg base C CB CW fG) : FnOk P w K mg base CX0 10 f fd ["_law_script"] (spLaw K) := by
  refine F.ok sclaw (fun vs H Q E h => ?_) (fun cdv A outer s H vs Q E hr h => ?_)
  · obtain ⟨a, ns, rfl, _⟩ := h
    rfl
  · obtain ⟨sa, nums, rfl, hsa, hl, kq⟩ := h
    obtain ⟨t7, h7, q7⟩ := law7 (outer := outer) (H0 := H) (E0' := E) T B hr kq
    obtain ⟨fdG, FG, bG⟩ := T.gi
    have hr1 : Room 1 _ := hr.mono (by decide)
    have hr2 : Room 2 _ := hr.mono (by decide)
    have hr3 : Room 3 _ := hr.mono (by decide)
    have hr5 : Room 5 _ := hr.mono (by decide)
    have esz : sizeLine = 16777216 := sizeLine_eq
    refine ⟨_, pss_cons (ps_set (i := 1) sclaw.nd rfl (Or.inl rfl) (pe_cf T.cell hr1 pass0 (pa_cons (pv 0) (pa_cons pe_int pa_nil))))
      (pss_cons (ps_set (i := 2) sclaw.nd rfl (Or.inl rfl) (pe_cf T.names hr3 pass0 (pa_cons (pv 1) (pa_cons (pe_cf T.many hr2 pass0 (pa_cons (pv 1) (pa_cons pe_int pa_nil))) pa_nil))))
      (pss_cons (ps_set (i := 3) sclaw.nd rfl (Or.inr rfl) (pe_cf T.blk hr3 pass0 (pa_cons (pv 1) (pa_cons (pv 2) pa_nil))))
      (pss_cons (ps_set (i := 4) sclaw.nd rfl (Or.inl rfl) (pe_cf T.bll hr3 pass0 (pa_cons (pv 1) (pa_cons (pv 2) (pa_cons (pv 3) pa_nil)))))
      (pss_cons (ps_set (i := 5) sclaw.nd rfl (Or.inl rfl) (pe_makeS (E := WE (fun _ _ _ _ => False)) T.mkG FG hr5 rfl T.g.mgC bG .nil (fun σ => passAt takes0 σ) (pa_cons (pe_callTy call_tuple_of (by rfl) B.tup (by decide +kernel) (pa_cons (pv 2) pa_nil)) (pa_cons (pe_cf T.copy hr1 pass0 (pa_cons (pv 4) pa_nil)) pa_nil))))
      (pss_cons (ps_set (i := 6) sclaw.nd rfl (Or.inl rfl) (pe_cf T.mutu hr1 pass0 (pa_cons (pv 2) (pa_cons (pv 4) pa_nil))))
      (pss_cons (ps_setLc (i := 7) (own := [("_law_k", 15)]) (g := gName 15) (tt := tYes) rfl sclaw.nd rfl rfl rfl (pi_range2 (by rfl) B.rng (pa_cons pe_int (pa_cons pe_int pa_nil))) (blkOk_by (own := [("_law_k", 15)]) (N := nLaw) (sc := defScope slaw) (by decide +kernel))
          (fun _ _ _ _ _ => pg_name (i := 15) sclaw.nd rfl (Or.inl rfl)) (fun _ _ _ _ _ => pts_nil) (fun _ _ _ _ _ => pe_cf T.one hr2 pass0 (pa_cons (pe_cf T.cell hr1 pass0 (pa_cons (pv 0) (pa_cons (pv 15) pa_nil))) (pa_cons (pv 3) pa_nil)))) h7)))))), ?_⟩
    refine ⟨_, rfl, sa, nums, 0, rfl, by decide, hsa, hl, fun st n z hst h0 h1 h2 => ?_⟩
    have S1 : StAt (upd H st (.lst [.int n, .int z])) st := ⟨n, z, upd_same, h0, h1, h2⟩
    have s1 : Same H (upd H st (.lst [.int n, .int z])) := Same.new hst
    generalize upd H st (.lst [.int n, .int z]) = H1 at S1 s1
    refine ⟨_, rfl, _, rfl, st, 16, rfl, by decide, S1, fun d H2 hd sb2 S2 _ => ?_⟩
    refine ⟨st, d, rfl, by omega, S2, fun N ns H3 hnl hnd hnm sb3 S3 _ nNs eN => ?_⟩
    have s3 : Same H H3 := fun b o e => sb3 _ _ (ne_of_none e hst) (sb2 _ _ (ne_of_none e hst) (s1 _ _ e))
    have hl16 : ns.length ≤ 16 := by omega
    have nn : Nm ns := ⟨hnd, hnm, hl16⟩
    refine ⟨_, rfl, _, rfl, st, N, ns, rfl, S3, eN, hnd, by omega, fun Bk H4 ys bs hfl hok hun sb4 S4 hB0 eB blks hyl => ?_⟩
    have s4 : Same H H4 := fun b o e => sb4 _ _ (ne_of_none e hst) (s3 _ _ e)
    have eN4 := sb4 _ _ nNs eN
    have nBst : Bk ≠ st := new_ne_st S3 hB0
    have EB : EachIs (fun y b => ∃ t, y = V.ref t ∧ H4 t = some (lstO b)) ys bs := EachIs.mono (fun _ _ ⟨t, e, _, _, k⟩ => ⟨t, e, k⟩) blks
    refine ⟨_, rfl, _, rfl, _, rfl, st, N, Bk, ns, ys, bs, rfl, S4, eN4, hnd, by omega, nBst, eB, EB, hfl, hyl, fun W H5 ws hW0 sb5 S5 RW gw hws => ?_⟩
    have s5 : Same H H5 := fun b o e => sb5 _ _ (ne_of_none e hst) (s4 _ _ e)
    have eN5 := sb5 _ _ nNs eN4
    have eB5 := sb5 _ _ nBst eB
    have EB5 : EachIs (fun y b => ∃ t, y = V.ref t ∧ H5 t = some (lstO b)) ys bs := EachIs.mono (fun _ _ ⟨t, e, k⟩ => ⟨t, e, sb5 _ _ (ne_st S4 k) k⟩) EB
    have gg : ∀ a ∈ ns, GRow ns a (ws a) := fun a ha => gw a (hfl.mem_iff.mpr ha)
    have hon : bs.flatten.Nodup := hfl.nodup_iff.mpr hnd
    have hol : bs.flatten.length ≤ 16 := by rw [hfl.length_eq]; exact hl16
    refine ⟨_, rfl, N, _, rfl, .inl ⟨SqL.of eN5, fun Tp hTp => ?_⟩⟩
    have s6 : Same H5 (upd H5 Tp (.tup (ns.map V.str))) := Same.new hTp
    have eTp : (upd H5 Tp (.tup (ns.map V.str))) Tp = some (.tup (ns.map V.str)) := upd_same
    generalize upd H5 Tp (.tup (ns.map V.str)) = H6 at s6 eTp
    refine ⟨_, rfl, W, bs.flatten, ws, rfl, RW.same s6, hon, by omega, fun Wc H7 _ s7 RWc => ?_⟩
    refine fun p dx hp hdx hne => ?_
    have sP : Same H7 (upd (upd H7 dx (.own p)) p (.ins C dx [])) := fun b o e => by
      rw [upd_ne (ne_of_none e hp), upd_ne (ne_of_none e hdx)]
      exact e
    have hpp : (upd (upd H7 dx (.own p)) p (.ins C dx [])) p = some (.ins C dx []) := upd_same
    generalize (upd (upd H7 dx (.own p)) p (.ins C dx [])) = H8 at sP hpp
    refine gmake hpp (sP _ _ (s7 _ _ eTp)) ⟨hnd, hnm, hl16⟩ (RWc.same sP) hfl gg fun H9 sbp hG => ⟨rfl, ?_⟩
    have s59 : Same H5 H9 := fun b o e => sbp _ _ (ne_of_none (s7 _ _ (s6 _ _ e)) hp) (sP _ _ (s7 _ _ (s6 _ _ e)))
    refine ⟨_, rfl, _, rfl, N, W, ns, bs.flatten, ws, rfl, s59 _ _ eN5, RW.same s59, hnd, by omega, fun a ha => ⟨hfl.mem_iff.mpr ha, by have := (gg a ha).len; omega, fun b hb => hfl.mem_iff.mpr ((gg a ha).2 b hb).1⟩, fun M H10 s10 RM => ?_⟩
    have GM0 : GM C H10 p M ns ws := ⟨hG.same s10, RM, nn, gg⟩
    have s510 := s59.trans s10
    have eB10 := s510 _ _ eB5
    have EB10 : EachIs (fun y b => ∃ t, y = V.ref t ∧ H10 t = some (lstO b)) ys bs := EachIs.mono (fun _ _ ⟨t, e, k⟩ => ⟨t, e, s510 _ _ k⟩) EB5
    have sa10 := (s5.trans s510).seq hsa
    refine ⟨_, _, rfl, by decide, fun X hX => lc_it (walk_range (lo := 1) (n := 5)) (fun i H' => Same H10 H' ∧ ∃ vs, H' X = some (.lst vs) ∧ vs.length = i ∧ ∀ x ∈ vs, MdV H' ns ws x) ⟨Same.new hX, [], upd_same, rfl, fun _ h => by cases h⟩ (fun _ _ _ _ => trivial) ?_ ?_⟩
    · rintro i x Hx H11 hi ⟨s11, vs, eX, hvl, hvs⟩ ⟨rfl, hx⟩
      have e1 : (1 + (i : Int)) = ((1 + i : Nat) : Int) := by omega
      obtain rfl : x = V.int ((1 + i : Nat) : Int) := hx.trans (by show V.int (1 + (i : Int)) = _; rw [e1])
      refine ⟨rfl, lcTurn ⟨_, rfl, _, rfl, sa, nums, 1 + i, rfl, by omega, s11.seq sa10, hl, fun st2 n2 z2 hs2 a1 a2 a3 => ?_⟩⟩
      have S12 : StAt (upd H11 st2 (.lst [.int n2, .int z2])) st2 := ⟨n2, z2, upd_same, a1, a2, a3⟩
      have s12 : Same H11 (upd H11 st2 (.lst [.int n2, .int z2])) := Same.new hs2
      generalize upd H11 st2 (.lst [.int n2, .int z2]) = H12 at S12 s12
      have s1012 := s11.trans s12
      have eB12 := s1012 _ _ eB10
      have EB12 : EachIs (fun y b => ∃ t, y = V.ref t ∧ H12 t = some (lstO b)) ys bs := EachIs.mono (fun _ _ ⟨t, e, k⟩ => ⟨t, e, s1012 _ _ k⟩) EB10
      have nB2 : Bk ≠ st2 := fun e => by
        rw [← e, s11 _ _ eB10] at hs2
        cases hs2
      refine ⟨_, rfl, st2, Bk, ns, ys, bs, rfl, S12, nB2, eB12, EB12, hfl, nn, hok, hyl, fun D H13 zs g sb13 hD eD hz hpb => ?_⟩
      have s13 : Same H11 H13 := fun b o e => sb13 _ _ (ne_of_none e hs2) (s12 _ _ e)
      have eX13 := s13 _ _ eX
      have cg := blocks_calm gg hfl hnd hok hun hws hpb
      have nXX : ∀ {d : Addr} {q : List (Key × V)}, H13 d = some (.dK q) → d ≠ X := fun e c => by
        rw [c, eX13] at e
        cases e
      refine ⟨vs, eX13, by rw [hvl, esz]; omega, same_put (s11.trans s13) hX, vs ++ [.ref D], upd_same, by rw [List.length_append, hvl]; rfl, fun y hy => ?_⟩
      rcases List.mem_append.mp hy with hy | hy
      · obtain ⟨d', z', f', rfl, m⟩ := hvs y hy
        have m2 := m.same s13
        exact ⟨d', z', f', rfl, by rw [upd_ne (nXX m2.e)]; exact m2.e, m2.p, m2.c⟩
      · rw [List.mem_singleton.mp hy]
        exact ⟨D, zs, g, rfl, by rw [upd_ne (nXX eD)]; exact eD, hz, cg⟩
    · rintro H11 ⟨s11, vs, eX, hvl, hvs⟩
      match vs, hvl, eX, hvs with
      | [x0, x1, x2, x3, x4], _, eX, hvs =>
        obtain ⟨d0, z0, g0, rfl, m0⟩ := hvs x0 (by simp)
        obtain ⟨d1, z1, g1, rfl, m1⟩ := hvs x1 (by simp)
        obtain ⟨d2, z2, g2, rfl, m2⟩ := hvs x2 (by simp)
        obtain ⟨d3, z3, g3, rfl, m3⟩ := hvs x3 (by simp)
        obtain ⟨d4, z4, g4, rfl, m4⟩ := hvs x4 (by simp)
        exact q7 H11 _ _ _ _ _ p M X d0 d1 d2 d3 d4 ns ws z0 z1 z2 z3 z4 g0 g1 g2 g3 g4 (GM0.same s11) eX m0 m1 m2 m3 m4
end
end Qp
namespace Qp
open PySem L2
section
variable {K : PySem.W.Frag} {mg : Str → Option Value} {h : Heap}
/-- a def of the text and the name that tells it -/
structure FnAt (K : PySem.W.Frag) (mg : Str → Option Value) (x qual : Str) (st : Stmt) : Prop where
  ex : ∃ f fd, Fun K x qual st f fd ∧ mg x = some (.ref f)
theorem fnAt (X : K.In h) (G : h.Ns mainGlobals mg) {x qual : Str} {st : Stmt} {f : Addr} {oc kV doc pm cdv ct : Value} {od an : Option Addr} {osl : Array (Option Value)}
    (a : PySem.W.nsIn K mainGlobals x = some (some (.ref f))) (l : K.lookup f = some ⟨oc, od, .func (PySem.W.fnOf x qual (defArgs st) (defBody st) (defScope st) .none kV doc pm an cdv ct), osl⟩) (c : PySem.W.codeIn K cdv qual = true) (k : PySem.W.keepIn K (.ref f) = true) :
    FnAt K mg x qual st := ⟨f, _, fun_mk (st := st) l c k, PySem.W.mg_of X G a⟩
theorem FnAt.cf {P : Program} {w : World} {base : Heap} {CX : CXT} {k : Nat} {ps : List Str} {sp : Sp} {x qual : Str} {st : Stmt} (A : FnAt K mg x qual st) (ok : ∀ f fd, Fun K x qual st f fd → FnOk P w K mg base CX k f fd ps sp)
    (b : ∀ (kV doc pm : Value) (an : Option Addr) (cdv ct : Value) (us : List Value), us.length = ps.length → bindArgs (PySem.W.fnOf x qual (defArgs st) (defBody st) (defScope st) .none kV doc pm an cdv ct) ⟨us, []⟩ = pure (ps.zip us)) : CF P w K mg base CX k x ps sp := by
  obtain ⟨f, fd, F, hm⟩ := A.ex
  exact ⟨f, fd, ok f fd F, hm, F.kp, F.binds b⟩
theorem exm_own {S : Addr} (h1 : PySem.W.subIn K (.ref S) (.type "BaseException") = some true) (h2 : (PySem.W.clsIn K S).isSome = true) (h3 : PySem.W.typeIn K (.ref S) = some (.type "type")) (h4 : PySem.W.subIn K (.ref S) (.ref S) = some true) :
    PySem.W.exmOne K (.ref S) (.ref S) = some true := by
  unfold PySem.W.exmOne PySem.W.kitCls
  simp [h1, h2, h3, h4]
open PySem.W PySem.Calls PyProof.Rows PySem.HandSPX in
theorem ownAt {P : Program} (X : K.In h) (G : h.Ns mainGlobals mg) {cn f qual : Str} {C fI cq : Addr} {nm q : Str} {N : Addr} {bs : List Value} {sn : List Str} {sub : List Value} {ab : Bool} {col : Option Bool} {dd : Option Addr} {m0 m1 m2 m3 m5 : Option Value}
    {t : Str} {kk : Nat} {oc : Value} {od : Option Addr} {doc pm : Value} {an : Option Addr} {cda cc : Addr} {ct : Value} {osl : Array (Option Value)} {p1 p2 q1 q2 q3 q4 q5 q6 q7 q8 q9 q10 : Pos}
    {ccl : Value} {cdd : Option Addr} {ccs : Array (Option Value)} {nm' q' : Str} {N' : Addr} {bs' : List Value} {sn' : List Str} {sub' : List Value} {ab' : Bool} {col' : Option Bool} {dd' : Option Addr} {k0' k1' k2' k3' k5' : Option Value} {fvs : Array Value} {file : Str} {tf : Tok} {cl : Value} {cld : Option Addr} {csl : Array (Option Value)}
    (gC : PySem.W.nsIn K mainGlobals cn = some (some (.ref C))) (gS : PySem.W.nsIn K mainGlobals "super" = some none)
    (xL : K.lookup C = some (excClassObj nm q C N bs [.ref cq, .type "ValueError", .type "Exception", .type "BaseException", .type "object"] true sn sub ab col dd m0 m1 m2 m3 m5 "ValueError.__new__"))
    (qL : K.lookup cq = some (excClassObj nm' q' cq N' bs' [.type "ValueError", .type "Exception", .type "BaseException", .type "object"] true sn' sub' ab' col' dd' k0' k1' k2' k3' k5' "ValueError.__new__"))
    (qI : PySem.W.findIn K (.ref cq) "__init__" = some (some (.builtin "ValueError.__init__")))
    (sa : PySem.W.findIn K (.ref C) "__setattr__" = some (some (.builtin "object.__setattr__"))) (ga : PySem.W.findIn K (.ref C) "__getattribute__" = some (some (.builtin "BaseException.__getattribute__"))) (gg : PySem.W.findIn K (.ref C) "__getattr__" = some none) (noN : PySem.W.findIn K (.ref C) f = some none)
    (iC : PySem.W.findIn K (.ref C) "__init__" = some (some (.ref fI))) (tC : PySem.W.typeIn K (.ref fI) = some (.type "function")) (kC : PySem.W.keepIn K (.ref C) = true)
    (exC : PySem.W.subIn K (.ref C) (.type "BaseException") = some true) (veC : PySem.W.subIn K (.ref C) (.type "ValueError") = some true) (slC : mroIn K C (.ref C) = some true) (tyC : PySem.W.typeIn K (.ref C) = some (.type "type")) (hdC : PySem.W.hasDictIn K C = true)
    (cC : (PySem.W.clsIn K C).isSome = true) (sC : PySem.W.subIn K (.ref C) (.ref C) = some true) (op : PySem.W.nsIn K cStatics "thirdparty.any" = some none) (top : (P.main.scope.names.lookup ("super" : Str)).isSome = false)
    (lk : K.lookup fI = some ⟨oc, od, .func (ksFn "__init__" qual (PySem.QX.iA f p1 p2) (PySem.QX.iB f t kk q1 q2 q3 q4 q5 q6 q7 q8 q9 q10) (PySem.QX.iS f) .none .none doc pm an (.ref cda) ct cc), osl⟩) (cd : PySem.W.codeIn K (.ref cda) qual = true) (hl : (q3.endLine == q5.line) = true)
    (lc : K.lookup cda = some ⟨ccl, cdd, .fields fvs, ccs⟩) (lf : fvs[2]? = some (.str file tf)) (hf : ((P.main.file : Str) == file) = true) (lcc : K.lookup cc = some ⟨cl, cld, .cell (some (.ref C)), csl⟩)
    (sc1 : (PySem.QX.iS f).names.lookup f = some .local) (sc2 : (PySem.QX.iS f).names.lookup ("super" : Str) = some .globalImplicit) (sc3 : (PySem.QX.iS f).names.lookup ("__class__" : Str) = some .free) (sc4 : (PySem.QX.iS f).names.lookup ("self" : Str) = some .local)
    (dbg : (f == ("__debug__" : Str)) = false)
    (bnd : ∀ (qual : Str) (p1 p2 : Pos) (b : List Stmt) (doc pm : Value) (an : Option Addr) (cdv ct : Value) (cc : Addr) (s : Shared) (u v : Value), BindsTo s (ksFn "__init__" qual (PySem.QX.iA f p1 p2) b (PySem.QX.iS f) .none .none doc pm an cdv ct cc) ⟨[u, v], []⟩ [("self", u), (f, v)])
    (lk1 : ∀ (u v : Value), ([("self", u), (f, v)] : List (Str × Value)).reverse.lookup ("self" : Str) = some u) (lk2 : ∀ (u v : Value), ([("self", u), (f, v)] : List (Str × Value)).reverse.lookup f = some v) :
    PySem.QX.OwnTxt P K mg cn f C fI :=
  have al : alongIn K "__init__" [.ref cq, .type "ValueError", .type "Exception", .type "BaseException", .type "object"] = some (some (.builtin "ValueError.__init__")) := by
    have e := qI
    unfold findIn at e
    dsimp only at e
    rw [qL] at e
    exact e
  { gC := PySem.W.mg_of X G gC, gS := PySem.W.mg_none_of X G gS, cls := ⟨_, _, _, _, _, _, _, _, _, _, _, _, _, _, _, xL, rfl, al⟩, sa := sa, ga := ga, gg := gg, noN := noN, iC := iC, tC := tC, kC := kC, exC := exC, veC := veC, slC := slC, tyC := tyC, hdC := hdC,
    te := exm_own exC cC tyC sC, op := op, top := top, fn := ⟨_, _, _, _, _, _, _, _, _, _, _, _, _, _, _, _, _, _, _, _, _, _, _, _, lk, cd, hl, ⟨_, _, _, _, _, _, lc, lf, hf⟩, ⟨_, _, _, lcc⟩⟩,
    sc1 := sc1, sc2 := sc2, sc3 := sc3, sc4 := sc4, dbg := dbg, bnd := bnd, lk1 := lk1, lk2 := lk2 }
theorem gAt (X : K.In h) (G : h.Ns mainGlobals mg) {C : Addr} (aC : PySem.W.nsIn K mainGlobals "Group" = some (some (.ref C)))
    (pg : PySem.W.plainGet K C Str.empty = true) (hd : PySem.W.hasDictIn K C = true) (po : PySem.W.plainOver K C = true) (sa : PySem.W.findIn K (.ref C) "__setattr__" = some (some (.builtin "object.__setattr__")))
    (n1 : PySem.W.findIn K (.ref C) "_people" = some none) (n2 : PySem.W.findIn K (.ref C) "_wishes" = some none) (n3 : PySem.W.findIn K (.ref C) "_opens" = some none) (n4 : PySem.W.findIn K (.ref C) "_ranks" = some none) : GTxt K mg C :=
  ⟨⟨pg, hd, po, sa⟩, n1, n2, n3, n4, PySem.W.mg_of X G aC⟩
/-- a method of the text -/
structure MAt (K : PySem.W.Frag) (C : Addr) (m qual : Str) (st : Stmt) : Prop where
  ex : ∃ f fd, Fun K m qual st f fd ∧ Meth K C m f
theorem mAt {C : Addr} {m qual : Str} {st : Stmt} {f : Addr} {oc kV doc pm cdv ct : Value} {od an : Option Addr} {osl : Array (Option Value)}
    (a : PySem.W.findIn K (.ref C) m = some (some (.ref f))) (i : PySem.W.isFn K (.ref f) = true) (l : K.lookup f = some ⟨oc, od, .func (PySem.W.fnOf m qual (defArgs st) (defBody st) (defScope st) .none kV doc pm an cdv ct), osl⟩) (c : PySem.W.codeIn K cdv qual = true) (k : PySem.W.keepIn K (.ref f) = true) :
    MAt K C m qual st := ⟨f, _, fun_mk (st := st) l c k, ⟨a, i, k⟩⟩
theorem MAt.mf {P : Program} {w : World} {base : Heap} {k : Nat} {C : Addr} {ps : List Str} {sp : Sp} {m qual : Str} {st : Stmt} (A : MAt K C m qual st) (ok : ∀ f fd, Fun K m qual st f fd → FnOk P w K mg base CX0 k f fd ps sp)
    (b : ∀ (kV doc pm : Value) (an : Option Addr) (cdv ct : Value) (us : List Value), us.length = ps.length → bindArgs (PySem.W.fnOf m qual (defArgs st) (defBody st) (defScope st) .none kV doc pm an cdv ct) ⟨us, []⟩ = pure (ps.zip us)) : MF P w K mg base k C m ps sp := by
  obtain ⟨f, fd, F, M⟩ := A.ex
  exact ⟨f, fd, ok f fd F, M, F.binds b⟩
theorem exm_no {S T : Addr} (h1 : PySem.W.subIn K (.ref S) (.type "BaseException") = some true) (h2 : (PySem.W.clsIn K S).isSome = true) (h3 : PySem.W.typeIn K (.ref S) = some (.type "type")) (h4 : PySem.W.subIn K (.ref T) (.ref S) = some false) :
    PySem.W.exmOne K (.ref T) (.ref S) = some false := by
  unfold PySem.W.exmOne PySem.W.kitCls
  simp [h1, h2, h3, h4]
theorem all_mk {l : PySem.W.OpenLaw} {w : World} {fa C fG C_NotCalm f_NotCalm C_BadPeople f_BadPeople C_BadWishes f_BadWishes  : Addr} {fdG : FuncData} {tk0 : Tok} (X : K.In h) (G : h.Ns mainGlobals mg) (hfa : mg "law" = some (.ref fa))
    (a0 : FnAt K mg "_law_cell" "_law_cell" sLcell)
    (a1 : FnAt K mg "_law_take" "_law_take" sLtake)
    (a2 : FnAt K mg "_law_many" "_law_many" sLmany)
    (a3 : FnAt K mg "_law_name" "_law_name" sLname)
    (a4 : FnAt K mg "_law_names" "_law_names" sLnames)
    (a5 : FnAt K mg "_law_mixed" "_law_mixed" sLmixed)
    (a6 : FnAt K mg "_law_blocks" "_law_blocks" sLblocks)
    (a7 : FnAt K mg "_law_others" "_law_others" sLothers)
    (a8 : FnAt K mg "_law_block_lists" "_law_block_lists" sLblocklists)
    (a9 : FnAt K mg "_law_copy" "_law_copy" sLcopy)
    (a10 : FnAt K mg "_law_mutual" "_law_mutual" sLmutual)
    (a11 : FnAt K mg "_law_turned" "_law_turned" sLturned)
    (a12 : FnAt K mg "_law_one_of_all" "_law_one_of_all" sLoneofall)
    (a13 : FnAt K mg "has_keys" "has_keys" shaskeys)
    (a14 : FnAt K mg "_fits" "_fits" sfits)
    (a15 : FnAt K mg "is_dealing" "is_dealing" sisdealing)
    (a16 : FnAt K mg "check_dealing" "check_dealing" scheckdealing)
    (a17 : FnAt K mg "_above" "_above" sabove)
    (a18 : FnAt K mg "quarrels" "quarrels" squarrels)
    (a19 : FnAt K mg "is_calm" "is_calm" siscalm)
    (a20 : FnAt K mg "middle" "middle" smiddle)
    (a21 : FnAt K mg "_law_is_dealing" "_law_is_dealing" sLisdealing)
    (a22 : FnAt K mg "_law_pairs" "_law_pairs" sLpairs)
    (a23 : FnAt K mg "_law_rather" "_law_rather" sLrather)
    (a24 : FnAt K mg "_law_quarrels" "_law_quarrels" sLquarrels)
    (a25 : FnAt K mg "_law_is_calm" "_law_is_calm" sLiscalm)
    (a26 : FnAt K mg "_law_middle_fits" "_law_middle_fits" sLmiddlefits)
    (a27 : FnAt K mg "_law_same" "_law_same" sLsame)
    (a28 : FnAt K mg "is_name" "is_name" sisname)
    (a29 : FnAt K mg "bad_index" "bad_index" sbadindex)
    (a30 : FnAt K mg "_check_people" "_check_people" scheckpeople)
    (a31 : FnAt K mg "is_lot" "is_lot" sislot)
    (a32 : FnAt K mg "_check_wishes" "_check_wishes" scheckwishes)
    (a33 : FnAt K mg "_open_rows" "_open_rows" sopenrows)
    (a34 : FnAt K mg "_rank_rows" "_rank_rows" srankrows)
    (a35 : FnAt K mg "law" "law" slaw)
    (B : Bl mg) (t_NotCalm : PySem.QX.OwnTxt l.prog K mg "NotCalm" "index" C_NotCalm f_NotCalm) (t_BadPeople : PySem.QX.OwnTxt l.prog K mg "BadPeople" "index" C_BadPeople f_BadPeople) (t_BadWishes : PySem.QX.OwnTxt l.prog K mg "BadWishes" "person" C_BadWishes f_BadWishes)  (h_MOST_PEOPLE : mg "MOST_PEOPLE" = some (.int 16 tk0)) (g : GTxt K mg C) (mk : Mk K C fG) (FG : Fun K "__init__" "Group.__init__" sGroupinit fG fdG)
    (m0 : MAt K C "_has" "Group._has" sGrouphas)
    (m1 : MAt K C "__contains__" "Group.__contains__" sGroupcontains)
    (m2 : MAt K C "people" "Group.people" sGrouppeople)
    (m3 : MAt K C "__iter__" "Group.__iter__" sGroupiter)
    (m4 : MAt K C "_check_person" "Group._check_person" sGroupcheckperson)
    (m5 : MAt K C "open_to" "Group.open_to" sGroupopento)
    (m6 : MAt K C "_check_open" "Group._check_open" sGroupcheckopen)
    (m7 : MAt K C "rank" "Group.rank" sGrouprank)
    (m8 : MAt K C "pairs" "Group.pairs" sGrouppairs)
       :
    ∃ fd : FuncData, (∀ (s : Shared) (v : Value), BindsTo s fd ⟨[v], []⟩ [("_law_script", v)]) ∧ ∀ base : Heap, K.In base → base.Ns mainGlobals mg → FnOk l.prog w K mg base CX0 10 fa fd ["_law_script"] (spLaw K) := by
  obtain ⟨f, fd, F, hm⟩ := a35.ex
  have e := hfa.symm.trans hm
  cases e
  have F' := F
  obtain ⟨oc, od, kV, doc, pm, an, cdv, ct, osl, rfl, lk, hcd⟩ := F'.ex
  refine ⟨PySem.W.fnOf "law" "law" (defArgs slaw) (defBody slaw) (defScope slaw) .none kV doc pm an cdv ct, fun s v => .of_eq rfl, fun base _ _ => ?_⟩
  have h__law_cell_spCellK := a0.cf (P := l.prog) (w := w) (base := base) (fun f fd F => ok_cellK F B) (fun _ _ _ _ _ _ us hl => match us, hl with | [_, _], _ => rfl)
  have h__law_take_spTake := a1.cf (P := l.prog) (w := w) (base := base) (fun f fd F => ok_take F B) (fun _ _ _ _ _ _ us hl => match us, hl with | [_, _], _ => rfl)
  have h__law_many_spMany := a2.cf (P := l.prog) (w := w) (base := base) (fun f fd F => ok_many F B h__law_take_spTake) (fun _ _ _ _ _ _ us hl => match us, hl with | [_, _], _ => rfl)
  have h__law_name_spName := a3.cf (P := l.prog) (w := w) (base := base) (fun f fd F => ok_name F B h__law_take_spTake) (fun _ _ _ _ _ _ us hl => match us, hl with | [_, _], _ => rfl)
  have h__law_names_spNames := a4.cf (P := l.prog) (w := w) (base := base) (fun f fd F => ok_names F B h__law_name_spName) (fun _ _ _ _ _ _ us hl => match us, hl with | [_, _], _ => rfl)
  have h__law_mixed_spMixed := a5.cf (P := l.prog) (w := w) (base := base) (fun f fd F => ok_mixed F B h__law_take_spTake) (fun _ _ _ _ _ _ us hl => match us, hl with | [_, _], _ => rfl)
  have h__law_blocks_spBlk := a6.cf (P := l.prog) (w := w) (base := base) (fun f fd F => ok_blk F B h__law_take_spTake h__law_mixed_spMixed) (fun _ _ _ _ _ _ us hl => match us, hl with | [_, _], _ => rfl)
  have h__law_others_spOthers := a7.cf (P := l.prog) (w := w) (base := base) (fun f fd F => ok_others F B) (fun _ _ _ _ _ _ us hl => match us, hl with | [_, _], _ => rfl)
  have h__law_block_lists_spBll := a8.cf (P := l.prog) (w := w) (base := base) (fun f fd F => ok_bll F B h__law_take_spTake h__law_mixed_spMixed h__law_others_spOthers) (fun _ _ _ _ _ _ us hl => match us, hl with | [_, _, _], _ => rfl)
  have h__law_copy_spCopy := a9.cf (P := l.prog) (w := w) (base := base) (fun f fd F => ok_copy F B) (fun _ _ _ _ _ _ us hl => match us, hl with | [_], _ => rfl)
  have h__law_mutual_spMut := a10.cf (P := l.prog) (w := w) (base := base) (fun f fd F => ok_mut F B) (fun _ _ _ _ _ _ us hl => match us, hl with | [_, _], _ => rfl)
  have h__law_turned_spTurn := a11.cf (P := l.prog) (w := w) (base := base) (fun f fd F => ok_turn F B) (fun _ _ _ _ _ _ us hl => match us, hl with | [_], _ => rfl)
  have h__law_one_of_all_spOne := a12.cf (P := l.prog) (w := w) (base := base) (fun f fd F => ok_one F B h__law_take_spTake h__law_turned_spTurn) (fun _ _ _ _ _ _ us hl => match us, hl with | [_, _], _ => rfl)
  have h_has_keys_spHas := a13.cf (P := l.prog) (w := w) (base := base) (fun f fd F => ok_has F B) (fun _ _ _ _ _ _ us hl => match us, hl with | [_, _], _ => rfl)
  have h_Group__has_spHasG := m0.mf (P := l.prog) (w := w) (base := base) (fun f fd F => ok_hasG F B g) (fun _ _ _ _ _ _ us hl => match us, hl with | [_, _], _ => rfl)
  have h_Group___contains___spCon := m1.mf (P := l.prog) (w := w) (base := base) (fun f fd F => ok_con F B g h_Group__has_spHasG) (fun _ _ _ _ _ _ us hl => match us, hl with | [_, _], _ => rfl)
  have h__fits_spFits := a14.cf (P := l.prog) (w := w) (base := base) (fun f fd F => ok_fits F B g h_Group___contains___spCon) (fun _ _ _ _ _ _ us hl => match us, hl with | [_, _, _], _ => rfl)
  have h_Group_people_spPeople := m2.mf (P := l.prog) (w := w) (base := base) (fun f fd F => ok_people F B g) (fun _ _ _ _ _ _ us hl => match us, hl with | [_], _ => rfl)
  obtain ⟨fI, fdI, FI, MI⟩ := m3.ex
  have bI := FI.binds (ps := ["self"]) (fun _ _ _ _ _ _ us hl => match us, hl with | [_], _ => rfl)
  have fiI : ∀ b', K.In b' → b'.Ns mainGlobals mg → FnOk l.prog w K mg b' CX0 1 fI fdI ["self"] (spIter C b'.objs.size) := fun b' _ _ => ok_iter FI B g
  have h_is_dealing_spIsD := a15.cf (P := l.prog) (w := w) (base := base) (fun f fd F => ok_isD F B g h_has_keys_spHas h__fits_spFits h_Group_people_spPeople MI bI fiI) (fun _ _ _ _ _ _ us hl => match us, hl with | [_, _], _ => rfl)
  have h_check_dealing_spCkX := a16.cf (P := l.prog) (w := w) (base := base) (fun f fd F => ok_ckx F B h_is_dealing_spIsD) (fun _ _ _ _ _ _ us hl => match us, hl with | [_, _], _ => rfl)
  have h_Group__check_person_spChk := m4.mf (P := l.prog) (w := w) (base := base) (fun f fd F => ok_chk F B g h_Group__has_spHasG) (fun _ _ _ _ _ _ us hl => match us, hl with | [_, _], _ => rfl)
  have h_Group_open_to_spOpen := m5.mf (P := l.prog) (w := w) (base := base) (fun f fd F => ok_open F B g h_Group__check_person_spChk) (fun _ _ _ _ _ _ us hl => match us, hl with | [_, _], _ => rfl)
  have h_Group__check_open_spChkO := m6.mf (P := l.prog) (w := w) (base := base) (fun f fd F => ok_chkO F B g h_Group__check_person_spChk) (fun _ _ _ _ _ _ us hl => match us, hl with | [_, _, _], _ => rfl)
  have h_Group_rank_spRank := m7.mf (P := l.prog) (w := w) (base := base) (fun f fd F => ok_rank F B g h_Group__check_open_spChkO) (fun _ _ _ _ _ _ us hl => match us, hl with | [_, _, _], _ => rfl)
  have h__above_spAb := a17.cf (P := l.prog) (w := w) (base := base) (fun f fd F => ok_above F B g h_Group_open_to_spOpen h_Group_rank_spRank) (fun _ _ _ _ _ _ us hl => match us, hl with | [_, _, _], _ => rfl)
  have h_Group_pairs_spPairs := m8.mf (P := l.prog) (w := w) (base := base) (fun f fd F => ok_pairs F B g) (fun _ _ _ _ _ _ us hl => match us, hl with | [_], _ => rfl)
  have h_quarrels_spQu := a18.cf (P := l.prog) (w := w) (base := base) (fun f fd F => ok_qu F B g h_check_dealing_spCkX h__above_spAb h_Group_pairs_spPairs MI bI fiI) (fun _ _ _ _ _ _ us hl => match us, hl with | [_, _], _ => rfl)
  have h_is_calm_spIsC := a19.cf (P := l.prog) (w := w) (base := base) (fun f fd F => ok_isC F B h_is_dealing_spIsD h_quarrels_spQu) (fun _ _ _ _ _ _ us hl => match us, hl with | [_, _], _ => rfl)
  have h_middle_spMid := a20.cf (P := l.prog) (w := w) (base := base) (fun f fd F => ok_mid F B g t_NotCalm h_is_calm_spIsC h_Group_rank_spRank h_Group_open_to_spOpen MI bI fiI) (fun _ _ _ _ _ _ us hl => match us, hl with | [_, _, _, _], _ => rfl)
  have h__law_is_dealing_spLD := a21.cf (P := l.prog) (w := w) (base := base) (fun f fd F => ok_ld F B) (fun _ _ _ _ _ _ us hl => match us, hl with | [_, _], _ => rfl)
  have h__law_pairs_spLP := a22.cf (P := l.prog) (w := w) (base := base) (fun f fd F => ok_lp F B) (fun _ _ _ _ _ _ us hl => match us, hl with | [_], _ => rfl)
  have h__law_rather_spRa := a23.cf (P := l.prog) (w := w) (base := base) (fun f fd F => ok_ra F B) (fun _ _ _ _ _ _ us hl => match us, hl with | [_, _, _, _], _ => rfl)
  have h__law_quarrels_spLQ := a24.cf (P := l.prog) (w := w) (base := base) (fun f fd F => ok_lq F B h__law_pairs_spLP h__law_rather_spRa) (fun _ _ _ _ _ _ us hl => match us, hl with | [_, _], _ => rfl)
  have h__law_is_calm_spLC := a25.cf (P := l.prog) (w := w) (base := base) (fun f fd F => ok_lc F B h__law_is_dealing_spLD h__law_quarrels_spLQ) (fun _ _ _ _ _ _ us hl => match us, hl with | [_, _], _ => rfl)
  have h__law_middle_fits_spFit := a26.cf (P := l.prog) (w := w) (base := base) (fun f fd F => ok_fit F B h_middle_spMid h__law_is_calm_spLC) (fun _ _ _ _ _ _ us hl => match us, hl with | [_, _, _], _ => rfl)
  have h__law_same_spSame0 := a27.cf (P := l.prog) (w := w) (base := base) (fun f fd F => ok_same0 F B) (fun _ _ _ _ _ _ us hl => match us, hl with | [_, _], _ => rfl)
  have h__law_same_spSame1 := a27.cf (P := l.prog) (w := w) (base := base) (fun f fd F => ok_same1 F B h__law_same_spSame0) (fun _ _ _ _ _ _ us hl => match us, hl with | [_, _], _ => rfl)
  have h_is_name_spIsName := a28.cf (P := l.prog) (w := w) (base := base) (fun f fd F => ok_isname F B) (fun _ _ _ _ _ _ us hl => match us, hl with | [_], _ => rfl)
  have h_bad_index_spBad := a29.cf (P := l.prog) (w := w) (base := base) (fun f fd F => ok_bad F B) (fun _ _ _ _ _ _ us hl => match us, hl with | [_, _], _ => rfl)
  have h__check_people_spCP := a30.cf (P := l.prog) (w := w) (base := base) (fun f fd F => ok_cp F B t_BadPeople h_MOST_PEOPLE h_is_name_spIsName h_bad_index_spBad) (fun _ _ _ _ _ _ us hl => match us, hl with | [_], _ => rfl)
  have h_is_lot_spLot := a31.cf (P := l.prog) (w := w) (base := base) (fun f fd F => ok_lot F B h_bad_index_spBad) (fun _ _ _ _ _ _ us hl => match us, hl with | [_, _], _ => rfl)
  have h__check_wishes_spCW := a32.cf (P := l.prog) (w := w) (base := base) (fun f fd F => ok_cw F B t_BadWishes h_has_keys_spHas h_is_lot_spLot) (fun _ _ _ _ _ _ us hl => match us, hl with | [_, _], _ => rfl)
  have h__open_rows_spOR := a33.cf (P := l.prog) (w := w) (base := base) (fun f fd F => ok_or F) (fun _ _ _ _ _ _ us hl => match us, hl with | [_], _ => rfl)
  have h__rank_rows_spRR := a34.cf (P := l.prog) (w := w) (base := base) (fun f fd F => ok_rr F B) (fun _ _ _ _ _ _ us hl => match us, hl with | [_], _ => rfl)
  have bG := FG.binds (ps := ["self", "people", "wishes"]) (fun _ _ _ _ _ _ us hl => match us, hl with | [_, _, _], _ => rfl)
  have gi := ok_gi (P := l.prog) (w := w) (base := base) FG B g h__check_people_spCP h__check_wishes_spCW h__open_rows_spOR h__rank_rows_spRR
  exact ok_law F B ⟨h__law_cell_spCellK, h__law_many_spMany, h__law_names_spNames, h__law_blocks_spBlk, h__law_block_lists_spBll, h__law_copy_spCopy, h__law_mutual_spMut, h__law_one_of_all_spOne, h__law_middle_fits_spFit, h__law_same_spSame1, g, mk, ⟨_, gi, bG⟩⟩
end
theorem walk {l : PySem.W.OpenLaw} {q : Program} {loose : List Str} {XP : (Str → Option Value) → Heap → Prop} {YP : World → Heap → Prop} {d : DefRec} {K : Params → PySem.W.Frag} (hn : l.most = some 63) (hdf : d.params.defaults = [])
    (hY : ∀ (w : World) (h : Heap), YP w h → (K w.params).In h)
    (F : ∀ (w : World) (mg : Str → Option Value) (fa : Addr) (h : Heap), (K w.params).In h → h.Ns mainGlobals mg → mg d.name = some (.ref fa) →
      ∃ fd : FuncData, (∀ (s : Shared) (u : Value), BindsTo s fd ⟨[u], []⟩ [("_law_script", u)]) ∧ ∀ base : Heap, (K w.params).In base → base.Ns mainGlobals mg → FnOk l.prog w (K w.params) mg base CX0 10 fa fd ["_law_script"] (spLaw (K w.params))) :
    PySem.W.WalkO q loose XP YP l.row.toRowW d [] (fun f vs => PySem.call f vs) :=
  L2.walk_of (n := 63) (k := 10) (x := "_law_script") (CX := fun _ => CX0) (sp := fun w => spLaw (K w.params)) hn (by decide) hdf ⟨rfl, by decide, by decide⟩ hY F (fun _ _ a ns hl _ hS => ⟨a, ns, rfl, hS, hl, fun _ => rfl⟩) fun _ _ _ _ _ z => z
end Qp
open PySem PySem.W PyProof.Rows
set_option maxRecDepth 100000 in
set_option maxHeartbeats 0 in
theorem PySem.Challenge.cw_quietpairs_k60_whole_middle_algebra_holds : PySem.Challenge.rw_quietpairs_k60_whole_middle_algebra.Holds := by
  w_on; o_law; k_head; (case hw => w_witness2)
  k_fill
  refine Qp.walk (l := PySem.Challenge.rw_quietpairs_k60_whole_middle_algebra) rfl rfl (fun w h Y => PySem.W.kIn_of Y) ?F
  case F =>
    intro w mg fa h KX G hmg
    refine' Qp.all_mk KX G hmg (Qp.fnAt KX G ?a0 ?l0 ?c0 ?k0) (Qp.fnAt KX G ?a1 ?l1 ?c1 ?k1) (Qp.fnAt KX G ?a2 ?l2 ?c2 ?k2) (Qp.fnAt KX G ?a3 ?l3 ?c3 ?k3) (Qp.fnAt KX G ?a4 ?l4 ?c4 ?k4) (Qp.fnAt KX G ?a5 ?l5 ?c5 ?k5) (Qp.fnAt KX G ?a6 ?l6 ?c6 ?k6) (Qp.fnAt KX G ?a7 ?l7 ?c7 ?k7) (Qp.fnAt KX G ?a8 ?l8 ?c8 ?k8) (Qp.fnAt KX G ?a9 ?l9 ?c9 ?k9) (Qp.fnAt KX G ?a10 ?l10 ?c10 ?k10) (Qp.fnAt KX G ?a11 ?l11 ?c11 ?k11) (Qp.fnAt KX G ?a12 ?l12 ?c12 ?k12) (Qp.fnAt KX G ?a13 ?l13 ?c13 ?k13) (Qp.fnAt KX G ?a14 ?l14 ?c14 ?k14) (Qp.fnAt KX G ?a15 ?l15 ?c15 ?k15) (Qp.fnAt KX G ?a16 ?l16 ?c16 ?k16) (Qp.fnAt KX G ?a17 ?l17 ?c17 ?k17) (Qp.fnAt KX G ?a18 ?l18 ?c18 ?k18) (Qp.fnAt KX G ?a19 ?l19 ?c19 ?k19) (Qp.fnAt KX G ?a20 ?l20 ?c20 ?k20) (Qp.fnAt KX G ?a21 ?l21 ?c21 ?k21) (Qp.fnAt KX G ?a22 ?l22 ?c22 ?k22) (Qp.fnAt KX G ?a23 ?l23 ?c23 ?k23) (Qp.fnAt KX G ?a24 ?l24 ?c24 ?k24) (Qp.fnAt KX G ?a25 ?l25 ?c25 ?k25) (Qp.fnAt KX G ?a26 ?l26 ?c26 ?k26) (Qp.fnAt KX G ?a27 ?l27 ?c27 ?k27) (Qp.fnAt KX G ?a28 ?l28 ?c28 ?k28) (Qp.fnAt KX G ?a29 ?l29 ?c29 ?k29) (Qp.fnAt KX G ?a30 ?l30 ?c30 ?k30) (Qp.fnAt KX G ?a31 ?l31 ?c31 ?k31) (Qp.fnAt KX G ?a32 ?l32 ?c32 ?k32) (Qp.fnAt KX G ?a33 ?l33 ?c33 ?k33) (Qp.fnAt KX G ?a34 ?l34 ?c34 ?k34) (Qp.fnAt KX G ?a35 ?l35 ?c35 ?k35) ⟨mg_none_of KX G ?z0, mg_none_of KX G ?z1, mg_none_of KX G ?z2, mg_none_of KX G ?z3, mg_none_of KX G ?z4, mg_none_of KX G ?z5, mg_none_of KX G ?z6, mg_none_of KX G ?z7, mg_none_of KX G ?z8, mg_none_of KX G ?z9, mg_none_of KX G ?z10, mg_none_of KX G ?z11, mg_none_of KX G ?z12, mg_none_of KX G ?z13, mg_none_of KX G ?z14, mg_none_of KX G ?z15, mg_none_of KX G ?z16, mg_none_of KX G ?z17⟩ (Qp.ownAt KX G ?eNotCalmgC ?eNotCalmgS ?eNotCalmxL ?eNotCalmqL ?eNotCalmqI ?eNotCalmsa ?eNotCalmga ?eNotCalmgg ?eNotCalmnoN ?eNotCalmiC ?eNotCalmtC ?eNotCalmkC ?eNotCalmexC ?eNotCalmveC ?eNotCalmslC ?eNotCalmtyC ?eNotCalmhdC ?eNotCalmcC ?eNotCalmsC ?eNotCalmop ?eNotCalmtop ?eNotCalmlk ?eNotCalmcd ?eNotCalmhl ?eNotCalmlc ?eNotCalmlf ?eNotCalmhf ?eNotCalmlcc rfl rfl rfl rfl rfl (fun _ _ _ _ _ _ _ _ _ _ _ _ _ => .of_eq rfl) (fun _ _ => rfl) (fun _ _ => rfl)) (Qp.ownAt KX G ?eBadPeoplegC ?eBadPeoplegS ?eBadPeoplexL ?eBadPeopleqL ?eBadPeopleqI ?eBadPeoplesa ?eBadPeoplega ?eBadPeoplegg ?eBadPeoplenoN ?eBadPeopleiC ?eBadPeopletC ?eBadPeoplekC ?eBadPeopleexC ?eBadPeopleveC ?eBadPeopleslC ?eBadPeopletyC ?eBadPeoplehdC ?eBadPeoplecC ?eBadPeoplesC ?eBadPeopleop ?eBadPeopletop ?eBadPeoplelk ?eBadPeoplecd ?eBadPeoplehl ?eBadPeoplelc ?eBadPeoplelf ?eBadPeoplehf ?eBadPeoplelcc rfl rfl rfl rfl rfl (fun _ _ _ _ _ _ _ _ _ _ _ _ _ => .of_eq rfl) (fun _ _ => rfl) (fun _ _ => rfl)) (Qp.ownAt KX G ?eBadWishesgC ?eBadWishesgS ?eBadWishesxL ?eBadWishesqL ?eBadWishesqI ?eBadWishessa ?eBadWishesga ?eBadWishesgg ?eBadWishesnoN ?eBadWishesiC ?eBadWishestC ?eBadWisheskC ?eBadWishesexC ?eBadWishesveC ?eBadWishesslC ?eBadWishestyC ?eBadWisheshdC ?eBadWishescC ?eBadWishessC ?eBadWishesop ?eBadWishestop ?eBadWisheslk ?eBadWishescd ?eBadWisheshl ?eBadWisheslc ?eBadWisheslf ?eBadWisheshf ?eBadWisheslcc rfl rfl rfl rfl rfl (fun _ _ _ _ _ _ _ _ _ _ _ _ _ => .of_eq rfl) (fun _ _ => rfl) (fun _ _ => rfl)) (mg_of KX G ?hC0) (Qp.gAt KX G ?aC ?pg ?hd ?po ?sa ?n1 ?n2 ?n3 ?n4) ⟨?mk, ?i1, ?i2, ?kc⟩ (L2.fun_mk (st := Qp.sGroupinit) ?i3 ?i4 ?i5) (Qp.mAt ?ma0 ?mi0 ?ml0 ?mc0 ?mk0) (Qp.mAt ?ma1 ?mi1 ?ml1 ?mc1 ?mk1) (Qp.mAt ?ma2 ?mi2 ?ml2 ?mc2 ?mk2) (Qp.mAt ?ma3 ?mi3 ?ml3 ?mc3 ?mk3) (Qp.mAt ?ma4 ?mi4 ?ml4 ?mc4 ?mk4) (Qp.mAt ?ma5 ?mi5 ?ml5 ?mc5 ?mk5) (Qp.mAt ?ma6 ?mi6 ?ml6 ?mc6 ?mk6) (Qp.mAt ?ma7 ?mi7 ?ml7 ?mc7 ?mk7) (Qp.mAt ?ma8 ?mi8 ?ml8 ?mc8 ?mk8)
    (case a0 => k_is); (case l0 => k_is); (case c0 => k_is); (case k0 => k_is)
    (case a1 => k_is); (case l1 => k_is); (case c1 => k_is); (case k1 => k_is)
    (case a2 => k_is); (case l2 => k_is); (case c2 => k_is); (case k2 => k_is)
    (case a3 => k_is); (case l3 => k_is); (case c3 => k_is); (case k3 => k_is)
    (case a4 => k_is); (case l4 => k_is); (case c4 => k_is); (case k4 => k_is)
    (case a5 => k_is); (case l5 => k_is); (case c5 => k_is); (case k5 => k_is)
    (case a6 => k_is); (case l6 => k_is); (case c6 => k_is); (case k6 => k_is)
    (case a7 => k_is); (case l7 => k_is); (case c7 => k_is); (case k7 => k_is)
    (case a8 => k_is); (case l8 => k_is); (case c8 => k_is); (case k8 => k_is)
    (case a9 => k_is); (case l9 => k_is); (case c9 => k_is); (case k9 => k_is)
    (case a10 => k_is); (case l10 => k_is); (case c10 => k_is); (case k10 => k_is)
    (case a11 => k_is); (case l11 => k_is); (case c11 => k_is); (case k11 => k_is)
    (case a12 => k_is); (case l12 => k_is); (case c12 => k_is); (case k12 => k_is)
    (case a13 => k_is); (case l13 => k_is); (case c13 => k_is); (case k13 => k_is)
    (case a14 => k_is); (case l14 => k_is); (case c14 => k_is); (case k14 => k_is)
    (case a15 => k_is); (case l15 => k_is); (case c15 => k_is); (case k15 => k_is)
    (case a16 => k_is); (case l16 => k_is); (case c16 => k_is); (case k16 => k_is)
    (case a17 => k_is); (case l17 => k_is); (case c17 => k_is); (case k17 => k_is)
    (case a18 => k_is); (case l18 => k_is); (case c18 => k_is); (case k18 => k_is)
    (case a19 => k_is); (case l19 => k_is); (case c19 => k_is); (case k19 => k_is)
    (case a20 => k_is); (case l20 => k_is); (case c20 => k_is); (case k20 => k_is)
    (case a21 => k_is); (case l21 => k_is); (case c21 => k_is); (case k21 => k_is)
    (case a22 => k_is); (case l22 => k_is); (case c22 => k_is); (case k22 => k_is)
    (case a23 => k_is); (case l23 => k_is); (case c23 => k_is); (case k23 => k_is)
    (case a24 => k_is); (case l24 => k_is); (case c24 => k_is); (case k24 => k_is)
    (case a25 => k_is); (case l25 => k_is); (case c25 => k_is); (case k25 => k_is)
    (case a26 => k_is); (case l26 => k_is); (case c26 => k_is); (case k26 => k_is)
    (case a27 => k_is); (case l27 => k_is); (case c27 => k_is); (case k27 => k_is)
    (case a28 => k_is); (case l28 => k_is); (case c28 => k_is); (case k28 => k_is)
    (case a29 => k_is); (case l29 => k_is); (case c29 => k_is); (case k29 => k_is)
    (case a30 => k_is); (case l30 => k_is); (case c30 => k_is); (case k30 => k_is)
    (case a31 => k_is); (case l31 => k_is); (case c31 => k_is); (case k31 => k_is)
    (case a32 => k_is); (case l32 => k_is); (case c32 => k_is); (case k32 => k_is)
    (case a33 => k_is); (case l33 => k_is); (case c33 => k_is); (case k33 => k_is)
    (case a34 => k_is); (case l34 => k_is); (case c34 => k_is); (case k34 => k_is)
    (case a35 => k_is); (case l35 => k_is); (case c35 => k_is); (case k35 => k_is)
    (case z0 => k_is); (case z1 => k_is); (case z2 => k_is); (case z3 => k_is); (case z4 => k_is); (case z5 => k_is); (case z6 => k_is); (case z7 => k_is); (case z8 => k_is); (case z9 => k_is); (case z10 => k_is); (case z11 => k_is); (case z12 => k_is); (case z13 => k_is); (case z14 => k_is); (case z15 => k_is); (case z16 => k_is); (case z17 => k_is)
    (case eNotCalmgC => k_is)
    (case eNotCalmgS => k_is)
    (case eNotCalmxL => k_is)
    (case eNotCalmqL => k_is)
    (case eNotCalmqI => k_is)
    (case eNotCalmsa => k_is)
    (case eNotCalmga => k_is)
    (case eNotCalmgg => k_is)
    (case eNotCalmnoN => k_is)
    (case eNotCalmiC => k_is)
    (case eNotCalmtC => k_is)
    (case eNotCalmkC => k_is)
    (case eNotCalmexC => k_is)
    (case eNotCalmveC => k_is)
    (case eNotCalmslC => k_is)
    (case eNotCalmtyC => k_is)
    (case eNotCalmhdC => k_is)
    (case eNotCalmcC => first | rfl | k_is)
    (case eNotCalmsC => first | rfl | k_is)
    (case eNotCalmop => k_is)
    (case eNotCalmtop => rfl)
    (case eNotCalmlk => k_is)
    (case eNotCalmcd => k_is)
    (case eNotCalmhl => first | rfl | decide +kernel)
    (case eNotCalmlc => k_is)
    (case eNotCalmlf => first | rfl | k_is)
    (case eNotCalmhf => first | rfl | decide +kernel)
    (case eNotCalmlcc => k_is)
    (case eBadPeoplegC => k_is)
    (case eBadPeoplegS => k_is)
    (case eBadPeoplexL => k_is)
    (case eBadPeopleqL => k_is)
    (case eBadPeopleqI => k_is)
    (case eBadPeoplesa => k_is)
    (case eBadPeoplega => k_is)
    (case eBadPeoplegg => k_is)
    (case eBadPeoplenoN => k_is)
    (case eBadPeopleiC => k_is)
    (case eBadPeopletC => k_is)
    (case eBadPeoplekC => k_is)
    (case eBadPeopleexC => k_is)
    (case eBadPeopleveC => k_is)
    (case eBadPeopleslC => k_is)
    (case eBadPeopletyC => k_is)
    (case eBadPeoplehdC => k_is)
    (case eBadPeoplecC => first | rfl | k_is)
    (case eBadPeoplesC => first | rfl | k_is)
    (case eBadPeopleop => k_is)
    (case eBadPeopletop => rfl)
    (case eBadPeoplelk => k_is)
    (case eBadPeoplecd => k_is)
    (case eBadPeoplehl => first | rfl | decide +kernel)
    (case eBadPeoplelc => k_is)
    (case eBadPeoplelf => first | rfl | k_is)
    (case eBadPeoplehf => first | rfl | decide +kernel)
    (case eBadPeoplelcc => k_is)
    (case eBadWishesgC => k_is)
    (case eBadWishesgS => k_is)
    (case eBadWishesxL => k_is)
    (case eBadWishesqL => k_is)
    (case eBadWishesqI => k_is)
    (case eBadWishessa => k_is)
    (case eBadWishesga => k_is)
    (case eBadWishesgg => k_is)
    (case eBadWishesnoN => k_is)
    (case eBadWishesiC => k_is)
    (case eBadWishestC => k_is)
    (case eBadWisheskC => k_is)
    (case eBadWishesexC => k_is)
    (case eBadWishesveC => k_is)
    (case eBadWishesslC => k_is)
    (case eBadWishestyC => k_is)
    (case eBadWisheshdC => k_is)
    (case eBadWishescC => first | rfl | k_is)
    (case eBadWishessC => first | rfl | k_is)
    (case eBadWishesop => k_is)
    (case eBadWishestop => rfl)
    (case eBadWisheslk => k_is)
    (case eBadWishescd => k_is)
    (case eBadWisheshl => first | rfl | decide +kernel)
    (case eBadWisheslc => k_is)
    (case eBadWisheslf => first | rfl | k_is)
    (case eBadWisheshf => first | rfl | decide +kernel)
    (case eBadWisheslcc => k_is)
    (case hC0 => k_is)
    (case aC => k_is)
    (case pg => k_is)
    (case hd => k_is)
    (case po => k_is)
    (case sa => k_is)
    (case n1 => k_is)
    (case n2 => k_is)
    (case n3 => k_is)
    (case n4 => k_is)
    (case mk => k_is)
    (case i1 => k_is)
    (case i2 => k_is)
    (case kc => k_is)
    (case i3 => k_is)
    (case i4 => k_is)
    (case i5 => k_is)
    (case ma0 => k_is); (case mi0 => k_is); (case ml0 => k_is); (case mc0 => k_is); (case mk0 => k_is)
    (case ma1 => k_is); (case mi1 => k_is); (case ml1 => k_is); (case mc1 => k_is); (case mk1 => k_is)
    (case ma2 => k_is); (case mi2 => k_is); (case ml2 => k_is); (case mc2 => k_is); (case mk2 => k_is)
    (case ma3 => k_is); (case mi3 => k_is); (case ml3 => k_is); (case mc3 => k_is); (case mk3 => k_is)
    (case ma4 => k_is); (case mi4 => k_is); (case ml4 => k_is); (case mc4 => k_is); (case mk4 => k_is)
    (case ma5 => k_is); (case mi5 => k_is); (case ml5 => k_is); (case mc5 => k_is); (case mk5 => k_is)
    (case ma6 => k_is); (case mi6 => k_is); (case ml6 => k_is); (case mc6 => k_is); (case mk6 => k_is)
    (case ma7 => k_is); (case mi7 => k_is); (case ml7 => k_is); (case mc7 => k_is); (case mk7 => k_is)
    (case ma8 => k_is); (case mi8 => k_is); (case ml8 => k_is); (case mc8 => k_is); (case mk8 => k_is)
