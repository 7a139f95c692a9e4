import PyProof.Rows.All
import Wide.All
import OpenK.AllK
import Wide.FinOn
import HandS.ForMost
import HandS.Walk
import HandS.IsInst
import HandS.Conv
import HandS.Strs
import HandS.Style
import HandS.Sort
import HandS.SortRule
import HandS.Wide
import HandS.WideBits
import HandS.TupAny
import KE.GoesMore
import KE.GoesEnum
import KE.GoesNew
import HandS.ForExc
import HandS.ExcInit
import HandS.ExcField
import HandS.ExcIs
import HandS.TupSets
import HandS.Evl
import HandS.Ends
import HandS.RaiseMore
import PyProof.ReprReads
import HandS.Flow
import HandS.More
import KE.KDictList
import HandS.SetFor
import HandS.ExcOwn
import HandS.ExcValue
import KE.SortData
import HandS.Defaults
import HandS.Deep
import PySem.Challenge.RW_lastthrough_k27_previous_states
set_option Elab.async false
set_option linter.all false
set_option maxRecDepth 100000
set_option maxHeartbeats 4000000
/-! rules of our own: powers of any size, enumerate of a tuple, a pair turned by its step, a set made of a list of numbers -/
namespace L2
open PySem PySem.Spec PyProof.Rows
theorem op_powX {X : Cx} : OpR X (binaryOp .Pow) (rI (fun i j => 0 ≤ j ∧ (Builtin.Int.intBits i : Int) * j ≤ 2 ^ 27) fun i j => .int (i ^ j.toNat)) := opI fun _ _ _ _ _ _ _ hc q => pow_int hc.1 hc.2 q

/-! ### enumerate of a tuple: by what its iterator draws (GoesN) -/
def IteT (K : PySem.W.Frag) (a : Addr) : It where
  go i H := ∃ (xs : List V) (x : V), SqT K H a xs ∧ xs[i]? = some x
  yld i H v H' := ∃ T x, v = .ref T ∧ H T = none ∧ H' = upd H T (.tup [.int (i : Nat), x]) ∧ ∀ xs, SqT K H a xs → xs[i]? = some x
  stop i H := ∃ xs : List V, SqT K H a xs ∧ xs.length = i
/-- the three objects differ: their classes do -/
theorem enum_apart {h : Heap} {e it t : Addr} {i : Int} {old : Value} {j : Nat} {items : Array Value} (he : IsEnum h e it i old) (hi : h.IsTupleIter it t j) (ht : h.IsTuple t items) : e ∉ [it, t] ∧ t ≠ it := by
  obtain ⟨o, ho, hc, _⟩ := ht
  obtain ⟨oi, hoi, hci, _⟩ := hi
  have he' : h.get? e = some _ := he
  have n1 : e ≠ t := fun z => by
    rw [z, ho] at he'
    rw [← Option.some.inj he'.symm] at hc
    exact absurd (Value.type.inj hc) (by decide)
  have n2 : t ≠ it := fun z => by
    rw [z, hoi] at ho
    rw [← Option.some.inj ho, hci] at hc
    exact absurd (Value.type.inj hc) (by decide)
  have n3 : e ≠ it := fun z => by
    rw [z, hoi] at he'
    rw [← Option.some.inj he'.symm] at hci
    exact absurd (Value.type.inj hci) (by decide)
  exact ⟨by simp [n1, n3], n2⟩
/-- where the walk stands at its i-th turn -/
def EnT (a e it : Addr) (i : Nat) (h : Heap) : Prop := (∃ old, IsEnum h e it (0 + (i : Int)) old) ∧ h.IsTupleIter it a i ∧ e ≠ it
theorem EnT.lts {a e it : Addr} {i : Nat} {h : Heap} (st : EnT a e it i h) : ∀ b ∈ [e, it], b < h.objs.size := fun b hb => by
  obtain ⟨⟨old, he⟩, ⟨u, hu, _⟩, _⟩ := st
  rcases (List.mem_cons.mp hb : b = e ∨ b ∈ [it]) with z | z
  · exact z ▸ Heap.lt_size he
  · exact (List.mem_singleton.mp z) ▸ Heap.lt_size hu
theorem goesT {prog : Program} {w : World} {A : Around} {elts : List Expr} {kk : Nat} {tpos : Pos} (hh : A.handled = none) {a e it : Addr} {items : Array Value} (ne : e ≠ it) (ap : e ∉ [it, a] ∧ a ≠ it) :
    GoesN prog w A (.Tuple elts kk tpos) e [e, it, a] [e, it] items.size (fun i h0 v h => ∃ T t x, v = .ref T ∧ h0.objs.size ≤ T ∧ items[i]? = some x ∧ h.IsTuple T #[.int (0 + (i : Int)) t, x])
      (fun i h => (∃ old, IsEnum h e it (0 + (i : Int)) old) ∧ h.IsTupleIter it a i ∧ h.IsTuple a items) :=
  GoesN.enumFrom 0 (Draws.tuple (A := A.in1) hh it a ap.2 items) e ne ap.1 (by simp)
theorem turn_enumT {P : Program} {w : World} {K : PySem.W.Frag} {elts : List Expr} {kk : Nat} {tpos : Pos} (a e it : Addr) : Turn P w K (.Tuple elts kk tpos) (IteT K a) [e, it] e (EnT a e it) where
  mem := List.mem_cons_self
  obj := by
    rintro i h ⟨⟨old, he⟩, ⟨u, hu, _, hd⟩, _⟩ b hb
    rcases (List.mem_cons.mp hb : b = e ∨ b ∈ [it]) with rfl | m
    · exact ⟨_, he, by intro v z; cases z⟩
    · rw [List.mem_singleton.mp m]
      exact ⟨u, hu, by intro v z; rw [hd] at z; cases z⟩
  keep := by
    rintro i h h' ⟨⟨old, he⟩, ht, hn⟩ k
    exact ⟨⟨old, k _ List.mem_cons_self _ he⟩, ht.at (k it (List.mem_cons_of_mem _ (List.mem_singleton.mpr rfl))), hn⟩
  item := by
    rintro X rfl rfl rfl calm i pins s σ H E I hf st ⟨xs, x, hq, hx⟩
    have lts := st.lts
    obtain ⟨⟨old, he⟩, ht, hn⟩ := st
    obtain ⟨its, vals, tup, _⟩ := I.tuple hq
    obtain ⟨u, hu, ru⟩ := vals.get hx
    have hu' : its.toArray[i]? = some u := by
      rw [List.getElem?_toArray]
      exact hu
    have len : i < its.toArray.size := (Array.getElem?_eq_some_iff.mp hu').1
    refine (goesT (I.ok.hd calm) hn (enum_apart he ht tup)).goes i s _ _ len ⟨⟨old, he⟩, ht, tup⟩ fun v h' tk hY st' keep _ => ?_
    obtain ⟨T, t, y, rfl, nT, hy, hT⟩ := hY
    cases hu'.symm.trans hy
    have ok : ObjOk X.prog X.w (upd H T (.tup [.int (i : Nat), x])) h' T (.tup [.int (i : Nat), x]) :=
      ⟨by show 2 ≤ sizeLine; decide, [.int (0 + (i : Int)) t, u], .cons ⟨t, by rw [Int.zero_add]⟩ (.cons ru .nil), hT⟩
    refine ⟨.ref T, _, I.turnedNew keep hf nT ok, rfl, ⟨T, x, rfl, I.hok.fresh nT, rfl, fun ys hy => ?_⟩, ⟨st'.1, st'.2.1, hn⟩, fun b hb => ?_⟩
    · rw [I.tuple_inj hy hq]
      exact hx
    · rw [upd_ne (Nat.ne_of_lt (Nat.lt_of_lt_of_le (lts b hb) nT))]
      exact (hf b hb).1
  done := by
    rintro X rfl rfl rfl calm i pins s σ H E I hf ⟨⟨old, he⟩, ht, hn⟩ ⟨xs, hq, rfl⟩
    obtain ⟨its, vals, tup, _⟩ := I.tuple hq
    have sz : its.toArray.size = xs.length := by rw [List.size_toArray, vals.length]
    have g := goesT (prog := X.prog) (w := X.w) (elts := elts) (kk := kk) (tpos := tpos) (items := its.toArray) (I.ok.hd calm) hn (enum_apart he ht tup)
    refine g.stops s _ _ ⟨⟨old, by rw [sz]; exact he⟩, by rw [sz]; exact ht, tup⟩ fun h' tk keep _ => I.turnedL keep hf
  self := by
    rintro A i s Q E ⟨⟨old, he⟩, _⟩ q
    exact wpAny_pyIter_enum he q
/-- the object that enumerate makes over the iterator at i -/
abbrev enumOver (i : Addr) : Obj := { cls := .type "enumerate", data := .fields #[.none, .bool false, .ref i, rawInt 0, .none, .none] }
set_option maxHeartbeats 1200000 in
theorem enum_made {v : Value} {o : Obj} {C : Heap → Prop} (B : Begins v o C) : Meets (Builtin.«enumerate.__new__» ⟨[.type "enumerate", v], []⟩) (fun _ R s =>
    C s.heap ∧ R (.ok (.ret (.ref (s.heap.push o).objs.size))) { s with heap := (s.heap.push o).push (enumOver s.heap.objs.size) }) := by
  refine .of_wp fun prog w A R s ⟨c, h⟩ => ?_
  obtain ⟨hp, gs, dr, tk, os⟩ := s
  have sub := sub_enumerate
  have begun : ∀ {A' : Around} {E Q : Value → Shared → Prop}, Q (.ref hp.objs.size) ⟨hp.push o, gs, dr, tk, os⟩ → wpAny (model prog w) A' (pyIter v) Q E ⟨hp, gs, dr, tk, os⟩ := fun q => B.iter prog w _ _ _ _ c q
  wp_walk using begun
  refine wpAny_stack_any fun _ => ?_
  refine wpAny_pure ?_
  split
  · rename_i k _ _ _ _ _
    cases (k == Value.type "enumerate") <;> (wp_walk using begun; exact ⟨_, rfl, h⟩)
  · wp_walk using begun
    exact ⟨_, rfl, h⟩
theorem enum_call {prog : Program} {w : World} {A : Around} {E : Value → Shared → Prop} {s : Shared} {v : Value} {o : Obj} {C : Heap → Prop} (B : Begins v o C) (c : C s.heap) {Q : Value → Shared → Prop}
    (h : Q (.ref (s.heap.objs.size + 1)) { s with heap := (s.heap.push o).push (enumOver s.heap.objs.size) }) : wpAny (model prog w) A (call (.type "enumerate") [v]) Q E s := by
  have sz : (s.heap.push o).objs.size = s.heap.objs.size + 1 := Heap.size_push ..
  refine callType_new F.called_enumerate (by decide) (F.typeCall_enumerate_1 _) (F.newCall_enumerate_1 _)
    (fun obj => F.args_object_init_2 obj _) F.entry_enumerate_new (enum_made B) ⟨c, ?_⟩
  rw [← sz] at h
  refine ⟨?_, h⟩
  exact ⟨_, Heap.get?_push_size _ rfl, rfl⟩
def iEnumT (K : PySem.W.Frag) (ta : TA) : TI := fun σ H R => ta σ H fun vs H1 => ∃ a xs, vs = [.ref a] ∧ SqT K H1 a xs ∧ R (IteT K a) H1
theorem pi_enumT {X : Cx} {e : Expr} {ta : TA} {p pos tpos : Pos} {elts : List Expr} {kk : Nat} (hg : Gl X "enumerate") (hm : X.mg "enumerate" = none) (ha : PA X [e] ta) (one : starEach [e] X.env = [(false, eval e X.env)] := by rfl) :
    PI X (.Tuple elts kk tpos) (.Call (.Name "enumerate" p) [e] [] pos) (iEnumT X.K ta) := by
  constructor
  intro pins s σ H R I h
  refine Call_ (ld_blt I hg hm boot_enumerate (callWith_type1 (thn (ha.run pos pins s σ H _ I h) ?_) one rfl))
  rintro us s1 ⟨vs, H1, I1, r1, a, xs, rfl, hq, q⟩
  obtain ⟨u, rfl, (ru : u = .ref a)⟩ := vals1 r1
  subst ru
  obtain ⟨its, vals, tup, _⟩ := I1.tuple hq
  refine enum_call (begins_tuple a its.toArray) tup (wpAny_pyIter_enum (i := 0) (old := .none) (it := s1.heap.objs.size) ?_ ?_)
  all_goals have sz : (s1.heap.push { cls := .type "tuple_iterator", data := .fields #[.ref a, .int 0 0] }).objs.size = s1.heap.objs.size + 1 := Heap.size_push ..
  all_goals have get := Heap.get?_push_size (s1.heap.push { cls := .type "tuple_iterator", data := .fields #[.ref a, .int 0 0] }) (o := enumOver s1.heap.objs.size) rfl
  all_goals rw [sz] at get
  · exact get
  · have I2 : Inv X pins σ H1 { s1 with heap := (s1.heap.push { cls := .type "tuple_iterator", data := .fields #[.ref a, .int 0 0] }).push (enumOver s1.heap.objs.size) } :=
      I1.kept (t' := s1.toks) fun b ob k => Heap.get?_push_of_some _ (Heap.get?_push_of_some _ k)
    refine ⟨s1.heap.objs.size + 1, [s1.heap.objs.size + 1, s1.heap.objs.size], _, _, H1, rfl, I2, turn_enumT a _ s1.heap.objs.size, ⟨⟨.none, get⟩, ⟨_, Heap.get?_push_of_some _ (Heap.get?_push_size _ rfl), rfl, rfl⟩, Nat.succ_ne_self _⟩, fun b hb => ?_, q⟩
    have above : s1.heap.objs.size ≤ b := by
      rcases (List.mem_cons.mp hb : b = s1.heap.objs.size + 1 ∨ _) with rfl | m
      · exact Nat.le_succ _
      · exact Nat.le_of_eq (List.mem_singleton.mp m).symm
    exact I1.fpOk above (I1.hok.fresh above)
theorem walk_enumT {K : PySem.W.Frag} {a : Addr} {xs : List V} : Walk (IteT K a) xs.length (fun H => SqT K H a xs) (YPair (fun i => some (.int (i : Nat))) (fun i => xs[i]?)) where
  goes := fun i _ hi q => ⟨xs, _, q, List.getElem?_eq_getElem hi⟩
  stops := fun _ q => ⟨xs, q, rfl⟩
  yields := by
    rintro i H v H' _ q ⟨T, x, e1, e2, e3, e4⟩
    exact ⟨T, _, x, e1, e2, e3, rfl, e4 xs q⟩

/-! ### a pair turned by its step: t[::k], k one or minus one -/
section
variable {prog : Program} {w : World} {A : Around} {s : Shared} {E : Value → Shared → Prop}
/-- the slice object [::k] applied to n items -/
theorem applied_stp {sl : Addr} {vs : Value} {k : Int} {n : Nat} {Q : Int × Int × Nat → Shared → Prop} (hs : s.heap.IsSliceOf sl .none .none vs) (ps : IsPart vs (some k)) (h0 : ¬ (k == 0) = true)
    (h : Q ((Builtin.Slice.sliceAdjust none none k (n : Int)).1, k, Builtin.Slice.slicePlaces (Builtin.Slice.sliceAdjust none none k (n : Int)).1 (Builtin.Slice.sliceAdjust none none k (n : Int)).2 k) s) : wpAny (model prog w) A (Builtin.Slice.sliceApplied (.ref sl) (pure (n : Int))) Q E s := by
  obtain ⟨so, hso, _, dso⟩ := id hs
  delta Builtin.Slice.sliceApplied Builtin.Slice.sliceFields
  have read : ∀ {j : Nat} {y : Value} {α : Type} {f : Value → Sem α} {R : α → Shared → Prop}, #[Value.none, Value.none, vs][j]? = some y → wpAny (model prog w) A (f y) R E s → wpAny (model prog w) A (field (.ref sl) j >>= f) R E s := fun e q => wpAny_bind (wpAny_field hso dso e q)
  refine wpAny_bind (read rfl (read rfl (read rfl (wpAny_pure ?_))))
  refine wpAny_bind (HT.slicePart_ ps ?_)
  show wpAny _ _ (if (k == 0) = true then _ else _) _ _ s
  rw [if_neg h0]
  exact wpAny_bind (HT.slicePart_ .none (wpAny_bind (HT.slicePart_ .none (wpAny_bind (wpAny_pure (wpAny_pure h))))))
theorem pair_stp {t sl : Addr} {x y : Value} {vs : Value} {k : Int} {Q : Value → Shared → Prop} (ht : IsTup s.heap t #[x, y]) (hs : s.heap.IsSliceOf sl .none .none vs) (ps : IsPart vs (some k))
    (h : (k = 1 ∧ Q (.ref t) s) ∨ (k = -1 ∧ Q (.ref s.heap.objs.size) { s with heap := s.heap.push { cls := .type "tuple", data := .seq #[y, x] } })) : wpAny (model prog w) A (getItem (.ref t) (.ref sl)) Q E s := by
  have isS : s.TypeIs (.ref sl) "slice" := let ⟨so, a, b, _⟩ := id hs; ⟨so, a, b⟩
  unfold getItem
  refine wpAny_holding (wpAny_bind (wpAny_sequenceKey ht.typeIs (by decide) (wpAny_bind ?_)))
  refine wpAny_callSpecial?_slot (name := Str.ofString "__getitem__") ht.typeIs slot_tuple_getitem ?_
  refine wpAny_call_entry slot_tuple_getitem ht.typeIs entry_tuple_getitem ?_ (args_tuple_getitem _ _)
  show wpAny _ _ (Builtin.Tuple.tupleItemsOf _ >>= _) _ _ s
  refine wpAny_bind (tupleItemsOf_ ht (wpAny_bind (wpAny_typeOf isS ?_)))
  rw [if_pos (by decide)]
  rcases h with ⟨rfl, h⟩ | ⟨rfl, h⟩ <;> refine wpAny_bind (applied_stp (n := 2) hs ps (by decide) ?_)
  · show wpAny _ _ (if (((0 : Int) == 0 && (1 : Int) == 1 && (2 : Nat) == 2) = true) then _ else _) _ _ s
    rw [if_pos (by decide)]
    have whole : wpAny (model prog w) A.in1 (Builtin.Tuple.tupleIsExact (.ref t)) (fun b s' => b = true ∧ s' = s) (fun _ _ => False) s := by
      show wpAny _ _ (typeOf (.ref t) >>= _) _ _ s
      exact wpAny_bind (wpAny_typeOf ht.typeIs (wpAny_pure ⟨by decide, rfl⟩))
    refine wpAny_bind (wpAny_mono whole ?_ fun _ _ z => z.elim)
    rintro b s' ⟨rfl, rfl⟩
    rw [if_pos rfl]
    first | exact wpAny_bind (wpAny_rule (wpAny_pure ⟨_, rfl, wpAny_pure h⟩)) | exact wpAny_bind (wpAny_rule (wpAny_bind (wpAny_pure (wpAny_pure ⟨_, rfl, wpAny_pure h⟩))))
  · show wpAny _ _ (if (((1 : Int) == 0 && (-1 : Int) == 1 && (2 : Nat) == 2) = true) then _ else _) _ _ s
    rw [if_neg (by decide)]
    have sz : sizeOk (.seq #[y, x]) := by show 2 ≤ sizeLine; decide
    first
      | exact wpAny_bind (m := Builtin.Tuple.tupleExact #[y, x]) (wpAny_newObj_type (wpAny_pure ⟨_, rfl, wpAny_pure h⟩) sz)
      | exact wpAny_bind (m := Builtin.Tuple.tupleExact #[y, x]) (wpAny_newObj_type (wpAny_bind (wpAny_pure (wpAny_pure ⟨_, rfl, wpAny_pure h⟩))) sz)
      | exact wpAny_bind (wpAny_bind (m := Builtin.Tuple.tupleExact #[y, x]) (wpAny_newObj_type (wpAny_pure (wpAny_pure ⟨_, rfl, wpAny_pure h⟩)) sz))
      | exact wpAny_bind (wpAny_bind (m := Builtin.Tuple.tupleExact #[y, x]) (wpAny_newObj_type (wpAny_pure ⟨_, rfl, wpAny_pure h⟩) sz))
end
def tStp (K : PySem.W.Frag) (te tk : TE) : TE := fun σ H Q => te σ H fun x H1 => tk σ H1 fun z H2 => ∃ a u v, x = .ref a ∧ SqT K H2 a [u, v] ∧ ((z = .int 1 ∧ Q (.ref a) H2) ∨ (z = .int (-1) ∧ ∀ p, H2 p = none → Q (.ref p) (upd H2 p (.tup [v, u]))))
theorem no_part {X : Cx} {pins : List (Addr × Obj)} {σ : St} {H : Hp} {s : Shared} {Q : Value → Shared → Prop} (I : Inv X pins σ H s) (h : Q .none s) : wpAny (model X.prog X.w) X.A (evalPart none X.env) Q X.xe s := by
  rw [evalPart_none]
  exact wpAny_pure h
theorem pe_stp {X : Cx} {e st : Expr} {te tk : TE} {p3 pos : Pos} (he : PE X e te) (hk : PE X st tk) (hp : ∀ o i, subscripted (.Slice none none (some st) p3) false o i = operate [o, i] (getItem o i) := by intro _ _; rfl) : PE X (.Subscript e (.Slice none none (some st) p3) pos) (tStp X.K te tk) := by
  constructor
  intro pins s σ H Q I h
  refine Subscript_ (thn (he.run pins s σ H _ I h) ?_)
  rintro v s1 ⟨x, H1, I1, r1, q1⟩
  refine wpAny_Slice (no_part I1 (no_part I1 ?_))
  rw [evalPart_some]
  refine thn (hk.run pins s1 σ H1 _ I1 q1) ?_
  rintro vs s2 ⟨z, H2, I2, rz, a, y1, y2, rfl, hx, q⟩
  obtain rfl : v = .ref a := r1
  have I3 : Inv X pins σ H2 { s2 with heap := s2.heap.push { cls := .type "slice", data := .fields #[.none, .none, vs] } } := I2.kept (t' := s2.toks) fun b ob k => Heap.get?_push_of_some _ k
  obtain ⟨its, r, ht, _⟩ := I3.tuple hx
  obtain ⟨w1, w2, rfl, rw1, rw2⟩ := vals2 r
  have isS := Heap.IsSliceOf.new s2.heap .none .none vs
  have isT : Shared.TypeIs { s2 with heap := s2.heap.push { cls := .type "slice", data := .fields #[.none, .none, vs] } } (.ref a) "tuple" := ht.typeIs
  rcases q with ⟨rfl, q⟩ | ⟨rfl, q⟩ <;> obtain ⟨t, rfl⟩ := rz
  · exact tail_any isT slot_tuple_getitem.lookup (pair_stp ht isS (.int 1 t) (.inl ⟨rfl, .ref a, H2, I3, rfl, q⟩)) (hp _ _)
  · have laid := I3.laid (t' := s2.toks) (o := .tup [y2, y1]) (fun b ob k => Heap.get?_push_of_some { cls := .type "tuple", data := .seq #[w2, w1] } k) (Nat.le_refl _) ⟨by show 2 ≤ sizeLine; decide, [w2, w1], .cons rw2 (.cons rw1 .nil), IsTup.new _ _⟩
    exact tail_any isT slot_tuple_getitem.lookup (pair_stp ht isS (.int (-1) t) (.inr ⟨rfl, .ref _, _, laid, rfl, q _ (I3.hok.fresh (Nat.le_refl _))⟩)) (hp _ _)

/-! ### set(list of ints), k not in it -/
def rSetI (K : PySem.W.Frag) : List V → Hp → VK → Prop := fun xs H Q => ∃ (a : Addr) (ns : List Int), xs = [.ref a] ∧ SqL K H a (ns.map V.int) ∧ ns.length + 1 < scanBound ∧ ∀ p S n, H p = none → (∀ k, S k = decide (k ∈ ns)) → Q (.ref p) (upd H p (.set S n))
theorem getD_any (k : Int) : ∀ ns : List Int, (((List.range ns.length).map fun i => ns.getD i 0).any (· == k)) = decide (k ∈ ns) := by
  intro ns
  have e : ((List.range ns.length).map fun i => ns.getD i 0) = ns := by
    apply List.ext_getElem?
    intro i
    rw [List.getElem?_map]
    by_cases h : i < ns.length
    · rw [List.getElem?_range h, List.getElem?_eq_getElem h]
      simp [List.getD_eq_getElem?_getD, List.getElem?_eq_getElem h]
    · rw [List.getElem?_eq_none (by simpa using Nat.le_of_not_lt h), List.getElem?_eq_none (Nat.le_of_not_lt h)]
      rfl
  rw [e]
  by_cases h : k ∈ ns
  · rw [decide_eq_true h]
    exact List.any_eq_true.mpr ⟨k, h, beq_self_eq_true k⟩
  · rw [decide_eq_false h]
    refine List.any_eq_false.mpr fun x hx hb => h ?_
    rw [← eq_of_beq hb]
    exact hx
theorem cr_setI {X : Cx} (hc : X.calm = true) : CallR X (.type "set") (rSetI X.K) := by
  rintro pins s σ H xs us Q I r ⟨a, ns, rfl, hs, hn, q⟩
  obtain ⟨u, rfl, (ru : u = .ref a)⟩ := vals1 r
  subst ru
  obtain ⟨its, rv, hl, few⟩ := I.list hs
  have len : its.length = ns.length := by rw [← rv.length, List.length_map]
  refine call_set_list (I.ok.hd hc) hl.isList (intsAre_of rv) (by rw [List.size_toArray, len]; exact hn) fun h' tk hS hk => ?_
  have laid := I.laid (t' := tk) (o := .set _ _) (fun b o e => hk b o (Heap.lt_size e) e) (Nat.le_refl _) hS
  refine ⟨.ref _, _, laid, rfl, q _ _ _ (I.hok.fresh (Nat.le_refl _)) fun k => ?_⟩
  rw [firstMet_any, List.size_toArray, len]
  exact getD_any k ns
def rSNotI : V → V → Hp → VK → Prop := fun x y H Q => ∃ k a S n, x = V.int k ∧ y = V.ref a ∧ H a = some (.set S n) ∧ Q (.bl (!S k)) H
theorem op_notset {X : Cx} : OpR X (compareOp .NotIn) rSNotI := by
  rintro pins s σ H x y v u Q I rx ry ⟨k, a, S, n, rfl, rfl, ha, q⟩
  obtain ⟨tk, rfl⟩ := rx
  obtain rfl : u = .ref a := ry
  have at_a : s.heap.SetOf (intKind X.prog X.w) a S n := I.hok a _ ha
  exact wpAny_notInSet_of (intKind_is _ _ _ _) rfl at_a ⟨.bl (!S k), H, I.tok _, rfl, q⟩

/-! a def that the top holds; what a caller uses of it -/
def Def (K : PySem.W.Frag) (mg : Str → Option Value) (x : Str) (st : Stmt) : Prop := ∃ (f : Addr) (fd : FuncData), Fun K x x st f fd ∧ mg x = some (.ref f)
def Cal (P : Program) (w : World) (K : PySem.W.Frag) (mg : Str → Option Value) (base : Heap) (x : Str) (ps : List Str) (k : Nat) (sp : Sp) : Prop :=
  ∃ (f : Addr) (fd : FuncData), mg x = some (.ref f) ∧ PySem.W.keepIn K (.ref f) = true ∧ Binds K fd ps [] ∧ FnOk P w K mg base CX0 k f fd ps sp
theorem Def.ok {P : Program} {w : World} {K : PySem.W.Frag} {mg : Str → Option Value} {base : Heap} {x : Str} {st : Stmt} {N ps : List Str} {k : Nat} {sp : Sp} (D : Def K mg x st) (S : FnScope N ps (defScope st))
    (hb : ∀ (kV doc pm : Value) (an : Option Addr) (cdv ct : Value) (us : List Value), us.length = ps.length → bindArgs (PySem.W.fnOf x x (defArgs st) (defBody st) (defScope st) .none kV doc pm an cdv ct) ⟨us, []⟩ = pure (ps.zip us))
    (ar : ∀ vs H Q E, sp vs H Q E → vs.length = ps.length)
    (hbody : ∀ (f : Addr) (cdv : Value) (A : Around) (outer : List Env) (s : Shared) (H : Hp) (vs : List V) (Q : VK) (E : XK), Room k (A.deeper (envOfC x (defScope st) s.heap.objs.size f cdv)) → sp vs H Q E →
      ∃ t, PSs (cxOf CX0 P w K mg base N x (defScope st) f cdv A outer s H E).nox (defBody st) t ∧ t { nx := fun _ H' => Q .non H', rt := Q } (start N vs) H) : Cal P w K mg base x ps (k + 1) sp := by
  obtain ⟨f, fd, F, m⟩ := D
  exact ⟨f, fd, m, F.kp, F.binds hb, F.ok S ar fun cdv A outer s H vs Q E hr h => hbody f cdv A outer s H vs Q E hr h⟩

/-! heaps -/
/-- all but what stands at a is as it was -/
def But (a : Addr) (H H' : Hp) : Prop := ∀ b o, b ≠ a → H b = some o → H' b = some o
theorem Same.but {a : Addr} {H H' : Hp} (s : Same H H') : But a H H' := fun b o _ e => s b o e
theorem But.trans {a : Addr} {H H1 H2 : Hp} (x : But a H H1) (y : But a H1 H2) : But a H H2 := fun b o n e => y b o n (x b o n e)
theorem Same.upd {H : Hp} {p : Addr} {o : HO} (h : H p = none) : Same H (upd H p o) := fun b x e => by
  rw [upd_ne (ne_of_none e h)]
  exact e
theorem But.upd {a : Addr} {H H' : Hp} (x : But a H H') (o : HO) : But a H (upd H' a o) := fun b u n e => by
  rw [upd_ne n]
  exact x b u n e
/-- what is new at p may change: all that stood in H stands -/
theorem Same.at {H H' : Hp} {p : Addr} {o : HO} (s : Same H H') (h : H p = none) : Same H (L2.upd H' p o) := fun b x e => by
  rw [upd_ne (ne_of_none e h)]
  exact s b x e
theorem But.same {a : Addr} {H0 H H' : Hp} (s : Same H0 H) (n : H0 a = none) (b : But a H H') : Same H0 H' := fun c o e => b c o (ne_of_none e n) (s c o e)
theorem Same.tup {K : PySem.W.Frag} {H H' : Hp} {a : Addr} {xs : List V} (e : Same H H') (h : SqT K H a xs) : SqT K H' a xs := by
  rcases h with (z | ⟨o, z⟩) | z
  · exact .inl (.inl (e _ _ z))
  · exact .inl (.inr ⟨o, e a _ z⟩)
  · exact .inr z
theorem But.tup {K : PySem.W.Frag} {H H' : Hp} {g a : Addr} {xs ys : List V} (e : But g H H') (hg : H g = some (.lst ys)) (h : SqT K H a xs) : SqT K H' a xs := by
  rcases h with (z | ⟨o, z⟩) | z
  · exact .inl (.inl (e _ _ (ne_of z hg (by intro q; cases q)) z))
  · exact .inl (.inr ⟨o, e _ _ (ne_of z hg (by intro q; cases q)) z⟩)
  · exact .inr z
theorem ref_same {H H' : Hp} {a : Addr} {o : HO} (s : Same H H') (h : H a = some o) : H' a = some o := s _ _ h
end L2

/-! own rules: an error that a clause has caught and a local keeps behind the clause; its fields, isinstance of it by its own class -/
namespace L2
open PySem PySem.Spec PyProof.Rows
/-- a caught error, kept: its class, its own dict's address -/
def exk (a : Addr) (cls : Value) (d : Option Addr) : HO :=
  .ext fun g => ∃ ob fs, g.get? a = some ob ∧ Zc cls d ob ∧ ob.data = Data.fields fs
theorem exk_ok {P : Program} {w : World} {H : Hp} {g : Heap} {a : Addr} {cls : Value} {d : Option Addr} {ob : Obj} {fs : Array Value} (e : g.get? a = some ob) (z : Zc cls d ob) (f : ob.data = Data.fields fs) : ObjOk P w H g a (exk a cls d) := by
  refine ⟨⟨ob, fs, e, z, f⟩, ⟨ob, e⟩, ?_⟩
  rintro g1 g2 ⟨ob1, fs1, e1, z1, f1⟩ st
  exact ⟨ob1, fs1, st ob1 e1, z1, f1⟩
theorem exk_at {P : Program} {w : World} {H : Hp} {g : Heap} {a : Addr} {cls : Value} {d : Option Addr} (ok : HOk P w H g) (e : H a = some (exk a cls d)) : ∃ ob fs, g.get? a = some ob ∧ Zc cls d ob ∧ ob.data = Data.fields fs := by
  have z : ObjOk P w H g a (.ext _) := ok a _ e
  exact z.1
section
variable {X : Cx} {H : Hp} {s : Shared} {pins : List (Addr × Obj)} {σ : St}
/-- behind the clause the error is an object of the heap as any other -/
theorem Inv.regain {a : Addr} {cls : Value} {d : Option Addr} {ob : Obj} {fs : Array Value} (I : Inv X pins σ H s) (e : s.heap.get? a = some ob) (z : Zc cls d ob) (f : ob.data = Data.fields fs) (n0 : X.s_0.heap.get? a = none)
    (nl : a ≠ X.env.locals) (np : ∀ p ∈ X.pn ++ pins, p.1 ≠ a) (na : H a = none) : Inv X pins σ (upd H a (exk a cls d)) s where
  ok := I.ok
  os := I.os
  bare := I.bare
  base :=
    { keep := I.base.keep
      slot := I.base.slot
      free := fun b o q n x => by
        have ne : b ≠ a := fun y => by rw [y, n0] at q; cases q
        rw [upd_ne ne]
        exact I.base.free b o q n x
      there := I.base.there
      tups := fun b xs q => by
        have q1 := I.base.tups b xs q
        rw [upd_ne (ne_of_none q1 na)]
        exact q1
      frzs := fun b o u q => by
        have q1 := I.base.frzs b o u q
        rw [upd_ne (ne_of_none q1 na)]
        exact q1
      tbls := fun b ps q => by
        obtain ⟨m, q1⟩ := I.base.tbls b ps q
        rw [upd_ne (ne_of_none q1 na)]
        exact ⟨m, q1⟩ }
  loc := I.loc
  cell := I.cell
  free := by
    rw [upd_ne (Ne.symm nl)]
    exact I.free
  freeC := fun x c q => by
    have ne : c ≠ a := fun y => by
      obtain ⟨v, o, q1, q2⟩ := I.cell x c q
      rw [y, e] at q1
      cases q1
      rw [f] at q2
      exact nomatch q2
    rw [upd_ne ne]
    exact I.freeC x c q
  pin := fun p hp => by
    obtain ⟨q1, q2, q3⟩ := I.pin p hp
    rw [upd_ne (np p hp)]
    exact ⟨q1, q2, q3⟩
  hok := fun b o q => by
    by_cases y : b = a
    · subst y
      rw [upd_same] at q
      cases q
      exact exk_ok e z f
    · rw [upd_ne y] at q
      refine (I.hok b o q).stay (fun _ _ _ r => r) (fun c r => ?_) fun c xs r => ?_
      · rw [upd_ne (ne_of_none r na)]
        exact r
      · rw [upd_ne (ne_of_none r na)]
        exact r
  len := I.len
/-- the wish of the clause 'except x as n', the error kept -/
def wKeep (K : PySem.W.Frag) (c : Value) (i : Nat) (ts : Addr → Value → Option Addr → TS) (Wout : WX) (D : Ends) : WX := fun cls d σ H =>
  ∃ y, PySem.W.exmOne K cls c = some y ∧ (y = false → Wout cls d σ H) ∧ (y = true → ∀ a, H a = none →
    ts a cls d ⟨fun σ1 H1 => D.nx (σ1.set i none) (upd H1 a (exk a cls d)), fun v H1 => D.rt v (upd H1 a (exk a cls d)), fun σ1 H1 => D.bk (σ1.set i none) (upd H1 a (exk a cls d)), fun σ1 H1 => D.ct (σ1.set i none) (upd H1 a (exk a cls d))⟩ (σ.set i (some (.ref a))) H)

variable {x n : Str} {c : Value} {i : Nat} {work suite : List Stmt} {st0 : Stmt} {np q1 q2 : Pos} {tw : WX → TS} {ts : Addr → Value → Option Addr → TS} {Wout : WX}
/-- try: work / except x as n: suite, the error kept behind it -/
theorem ps_try_keep (e1 : X.stack = X.env :: X.outer) (e2 : X.env.frame = some X.env.locals) (e3 : X.ex = []) (nd : X.N.Nodup) (ni : X.N[i]? = some n) (nk : X.env.kindOf n = some .local) (nm : Names X x c) (tk : Takes X Wout)
    (W1 : ∀ (W : WX) (pn : List (Addr × Obj)) (xe : Value → Shared → Prop), Takes (X.tr pn xe) W → PassesOwn (model X.prog X.w) X.A X.env xe → PSs (X.tr pn xe) work (tw W))
    (W2 : ∀ (a : Addr) (ob : Obj) (cls : Value) (d : Option Addr) (pn : List (Addr × Obj)), Zc cls d ob → (∃ fs, ob.data = .fields fs) → PSs (X.suite a ((a, ob) :: pn)) (st0 :: suite) (ts a cls d)) :
    PS X (.Try work [.ExceptHandler (some (.Name x np)) (some n) (st0 :: suite) q1] [] [] q2) (fun D σ H => tw (wKeep X.K c i ts Wout D) D σ H) := by
  constructor
  intro pins s σ H D I h
  have ok := I.ok
  have frm : X.A.frames = some (X.env :: X.outer) := ok.frames.trans (congrArg some e1)
  apply wpAny_Try_except
  have caught : ∀ (xe0 : Value → Shared → Prop) (er : Value) (s9 : Shared), XE (X.tr (X.pn ++ pins) xe0) (wKeep X.K c i ts Wout D) er s9 →
      wpAny (model X.prog X.w) X.A (noteFrame er X.env) (fun _ s₂ => wpAny (model X.prog X.w) X.A (setFlight er none) (fun _ s₃ =>
        wpAny (model X.prog X.w) X.A (handleBy er X.env [.ExceptHandler (some (.Name x np)) (some n) (st0 :: suite) q1]) (SP X pins D) X.xe s₃) X.xe s₂) X.xe s9 := by
    rintro xe0 er s9 ⟨a, B, sI, pins1, σ1, H1, cls, d, rfl, J0, nb, up, sky, na, os, ag, y, ey, no, yes⟩
    have J1 : Inv X pins σ1 H1 sI := J0.ofTry ok
    have sky1 : Sky B (X.env :: X.outer) a (Zc cls d) X.env.locals s9.heap := e1 ▸ sky
    refine Sky.land Zc.steady frm e2 sky1 fun g3 fl3 up3 => ?_
    have J3 : Inv X pins σ1 H1 { s9 with heap := g3 } := J1.landed nb fl3.1 (up.trans up3) os ag
    obtain ⟨ob3, fs3, at3, z3, d3⟩ := fl3.there
    have off : ∀ {g : Heap} {ob : Obj} {fs : Array Value}, g.FunFrames B (X.env :: X.outer) → g.get? a = some ob → ob.data = Data.fields fs → a ∉ frs (X.env :: X.outer) := by
      intro g ob fs ff q r m
      obtain ⟨_, o1, r1, r2⟩ := ff.mem m
      rw [q] at r1
      cases r1
      exact r2 _ r
    have n1 := off fl3.2.2.1 at3 d3
    have nL : a ≠ X.env.locals := by
      intro y
      refine n1 (List.mem_filterMap.mpr ⟨X.env, List.mem_cons_self, ?_⟩)
      rw [e2, y]
    have nF : a ∉ X.fs := by
      intro m
      obtain ⟨v, m1, m2⟩ := List.mem_filterMap.mp m
      exact n1 (List.mem_filterMap.mpr ⟨v, List.mem_cons_of_mem _ m1, m2⟩)
    -- the error is new: it stood neither in the state at the raise nor at the def's start
    have nI : sI.heap.get? a = none := by
      cases q : sI.heap.get? a with
      | none => rfl
      | some o =>
        have r := nb a o q (by rw [e1]; exact n1)
        rw [fl3.2.1] at r
        cases r
    have unborn : X.s_0.heap.get? a = none := by
      cases q : X.s_0.heap.get? a with
      | none => rfl
      | some o =>
        obtain ⟨o1, r⟩ := J1.base.there a o q (by rw [e3]; simp)
        rw [nI] at r
        cases r
    have nP : ∀ p ∈ X.pn ++ pins, p.1 ≠ a := by
      intro p m y
      obtain ⟨r, _⟩ := J1.pin p m
      rw [y, nI] at r
      cases r
    have S3 := J3.suite at3 d3 na nL nF
    refine wpAny_handleBy_cons (codeAny_handlers_test ?_) (fun q => by cases q)
    have lt : PySem.W.Looks (model X.prog X.w) g3 (typeOf (.ref a)) cls := by
      intro A Q E sx k q
      refine wpAny_typeOf_ref (k _ _ at3) ?_
      rw [z3.1]
      exact q
    have lm := PySem.W.exm_one (M := model X.prog X.w) J3.kIn lt ey
    have named : ∀ {Q : Value → Shared → Prop} {E : Value → Shared → Prop}, Q c { s9 with heap := g3 } → wpAny (model X.prog X.w) (X.A.mark (some (.ref a))) (eval (.Name x np) X.env) Q E { s9 with heap := g3 } := by
      intro Q E q
      obtain ⟨m1, m2, m3⟩ := nm
      rcases m3 with m3 | ⟨m3, m4, m5⟩
      · exact ld_glob (X := X.suite a ((a, ob3) :: (X.pn ++ pins))) S3 m1 m3 q m2
      · exact ld_blt (X := X.suite a ((a, ob3) :: (X.pn ++ pins))) S3 m1 m3 m4 q m5 m2
    apply named
    apply lm.here
    cases y with
    | true =>
      apply codeAny_handlers_suite_as
      refine HandSPX.lands_againZ fl3 fun g4 fl4 up4 => ?_
      have J4 : Inv X pins σ1 H1 { s9 with heap := g4 } := J1.landed nb fl4.1 ((up.trans up3).trans up4) os ag
      obtain ⟨ob4, fs4, at4, z4, d4⟩ := fl4.there
      have S4 := J4.suite at4 d4 na nL nF
      refine store_ok (X := X.suite a ((a, ob4) :: (X.pn ++ pins))) (v := .ref a) S4 nd ni (.inl nk) rfl (fun s5 S5 => ?_) (.inr nk)
      refine wpAny_mono ((W2 a ob4 cls d (X.pn ++ pins) z4 ⟨_, d4⟩).run [] s5 _ H1 _ S5 (yes rfl a na)) (fun f s6 sp6 => ?_) (fun _ _ z => z.elim)
      have past : ∀ {σ6 : St} {H6 : Hp} {G : Shared → Prop}, Inv (X.suite a ((a, ob4) :: (X.pn ++ pins))) [] σ6 H6 s6 → (∀ s7, Inv X pins (σ6.set i none) (upd H6 a (exk a cls d)) s7 → G s7) →
          wpAny (model X.prog X.w) X.A (do bindName X.env n .none; unbindBehindTheSuite X.env n q1) (fun _ s7 => G s7) X.xe s6 := by
        intro σ6 H6 G S6 g
        obtain ⟨p1, p2, _⟩ := S6.pin (a, ob4) (List.mem_append_left _ List.mem_cons_self)
        exact gone_ok ((S6.unsuite ok).regain p1 z4 d4 unborn nL nP p2) nd ni nk g
      cases f with
      | next =>
        obtain ⟨σ6, H6, S6, r⟩ := sp6
        exact past S6 fun s7 J7 => ⟨_, _, J7, r⟩
      | brk =>
        obtain ⟨σ6, H6, S6, r⟩ := sp6
        exact past S6 fun s7 J7 => ⟨_, _, J7, r⟩
      | cont =>
        obtain ⟨σ6, H6, S6, r⟩ := sp6
        exact past S6 fun s7 J7 => ⟨_, _, J7, r⟩
      | ret u =>
        obtain ⟨v6, σ6, H6, S6, rr, r⟩ := sp6
        exact past S6 fun s7 J7 => ⟨_, _, _, J7, rr, r⟩
    | false =>
      change wpAny _ X.A (handleBy (.ref a) X.env []) _ _ _
      apply wpAny_handleBy_nil
      obtain ⟨_, _, _, ob, fs, T, oT, ts', at_e, z_e, d_e, f_e, r_e⟩ := id fl3
      unfold PySem.passOn
      refine wpAny_bind (wpAny_field at_e d_e f_e ?_)
      rw [if_neg (by simp)]
      have onward : wpAny (model X.prog X.w) X.A (setFlight (.ref a) X.env.frame) (fun _ s4 => wpAny (model X.prog X.w) X.A (throw (.ref a) : Sem Flow) (SP X pins D) X.xe s4) X.xe { s9 with heap := g3 } := by
        rw [e2]
        refine HandSPX.setFlight_upZ fl3 fun g4 hh4 up4 => wpAny_throw (tk _ _ ⟨a, B, sI, pins, σ1, H1, cls, d, rfl, J1, nb, (up.trans up3).trans up4, .inr (.inr ?_), na, os, ag, no rfl⟩)
        rw [e1]
        exact hh4
      first
        | exact wpAny_bind (wpAny_pure (wpAny_bind onward))
        | exact wpAny_bind onward
  refine wpAny_mono ((W1 (wKeep X.K c i ts Wout D) (X.pn ++ pins) _ (fun u s9 xx => caught _ u s9 xx) PassesOwn.looking).run [] s σ H D (I.toTry _) h) (fun f s9 sp => ?_) (fun e s9 he => he)
  cases f with
  | next =>
    obtain ⟨σ1, H1, J1, q⟩ := sp
    exact wpAny_execs_nil ⟨σ1, H1, J1.ofTry ok, q⟩
  | brk =>
    obtain ⟨σ1, H1, J1, q⟩ := sp
    exact ⟨σ1, H1, J1.ofTry ok, q⟩
  | cont =>
    obtain ⟨σ1, H1, J1, q⟩ := sp
    exact ⟨σ1, H1, J1.ofTry ok, q⟩
  | ret u =>
    obtain ⟨v, σ1, H1, J1, r, q⟩ := sp
    exact ⟨v, σ1, H1, J1.ofTry ok, r, q⟩

/-- err.f, err a kept error of the class at C -/
def tKf (C : Addr) (f : Str) (te : TE) : TE := fun σ H Q => te σ H fun v H1 => ∃ (a d : Addr) (fs : List (Str × V)) (y : V), v = .ref a ∧ H1 a = some (exk a (.ref C) (some d)) ∧ H1 d = some (.xd fs) ∧ fs.lookup f = some y ∧ Q y H1
theorem pe_kf {C : Addr} {e : Expr} {te : TE} {pos : Pos} {f : Str} (T : XfC X.K C) (no : PySem.W.findIn X.K (.ref C) f = some none) (he : PE X e te) (hb : attributeBase e f X.env (eval e X.env) = eval e X.env := by rfl) : PE X (.Attribute e f pos) (tKf C f te) := by
  constructor
  intro pins s σ H Q I h
  refine attr_of hb (thn (he.run pins s σ H _ I h) ?_)
  rintro u s1 ⟨v, H1, I1, rv, a, d, fs, y, rfl, ha, hd, l, q⟩
  obtain rfl : u = Value.ref a := rv
  obtain ⟨ob, vs, g1, z, g2⟩ := exk_at I1.hok ha
  have od1 : ObjOk X.prog X.w H1 s1.heap d (.xd fs) := I1.hok d _ hd
  obtain ⟨m, ns, rl⟩ := od1
  obtain ⟨od, o1, o2⟩ := lookIn_ns ns
  have rl' := rl f
  rw [l] at rl'
  obtain ⟨u, hu, ru⟩ := RelO.some_of (v := y) (o := m f) rl'
  have J : PySem.W.InstAt s1.heap a ob C (some od) := by
    refine ⟨g1, z.1, ?_, ?_⟩
    · unfold PySem.W.notCls
      rw [g2] <;> rfl
    · rw [z.2]
      exact o1
  refine HandSPX.exc_get I1.kIn J T.ga T.gg T.exC (PySem.W.findObj_own T.hdC no rfl ?_) (handed_of ru) ⟨y, H1, I1.tok _, ru, q⟩
  rw [o2, hu]

/-- isinstance(err, C), err of just that class -/
def rIsK (C : Addr) : List V → Hp → VK → Prop := fun xs H Q => ∃ (a : Addr) (d : Option Addr), xs = [.ref a, .ref C] ∧ H a = some (exk a (.ref C) d) ∧ Q (.bl true) H
theorem answers_self {a : Addr} {c : Value} : Answers (fun s => ∃ ob, s.heap.get? a = some ob ∧ ob.cls = c) (.ref a) c true := by
  intro dep tk prog w A R s hs
  obtain ⟨g, g2, d, tt, os⟩ := s
  obtain ⟨⟨ob, e, z⟩, q⟩ := hs
  have lt : PySem.W.Looks (model prog w) g (typeOf (.ref a)) c := by
    intro A Q E sx k q
    refine wpAny_typeOf_ref (k _ _ e) ?_
    rw [z]
    exact q
  (unfold Builtin.«isinstance.nested»)
  refine wpAny_bind (lt.at ?_)
  rw [if_pos (beq_self_eq_true c)]
  first
    | exact wpAny_bind (wpAny_rule (q tt))
    | exact wpAny_bind (wpAny_rule (wpAny_pure (q tt)))
    | exact wpAny_pure (q tt)
theorem call_isK {C : Addr} : CallR X (.builtin "isinstance") (rIsK C) := by
  rintro pins s σ H xs us Q I r ⟨a, d, rfl, e, q⟩
  obtain ⟨y1, y2, rfl, ry1, ry2⟩ := vals2 r
  obtain rfl : y1 = Value.ref a := ry1
  obtain rfl : y2 = Value.ref C := ry2
  obtain ⟨ob, vs, g1, z, g2⟩ := exk_at I.hok e
  exact call_isinstance (S := fun _ R s => (∃ ob, s.heap.get? a = some ob ∧ ob.cls = .ref C) ∧ ∀ tk, R (.ok (.ret (.bool true))) { s with toks := tk })
    (fun prog w A R s hs => isinstance_outer (answers_self 0 _ prog w A R s hs) (fun z => nomatch z)) ⟨⟨ob, g1, z.1⟩, fun tk => ⟨.bl true, H, I.tok tk, rfl, q⟩⟩
end
end L2

/-! own rules: defs that are called while nothing is being shown (no guard stands), so that repr of nested data is its text -/
namespace L2
open PySem PySem.Spec PyProof.Rows
/-- a def's promise, told where no guard stands -/
structure FnG (P : Program) (w : World) (K : PySem.W.Frag) (mg : Str → Option Value) (base : Heap) (k : Nat) (f : Addr) (fd : FuncData) (ps : List Str) (sp : Sp) : Prop where
  ar : ∀ vs H Q E, sp vs H Q E → vs.length = ps.length
  go : ∀ (A : Around) (outer : List Env) (s : Shared) (H : Hp) (args : Args) (us : List Value) (vs : List V) (Q : VK) (E : XK), Room k A → A.guards = some [] → Env0 P w K mg base A outer s H → BindsTo s fd args (ps.zip us) → Vals vs us → sp vs H Q E →
    codeAny (model P w) A (.call (.ref f) args) (CR CX0 outer P w H s Q E) s
section
variable {P : Program} {w : World} {K : PySem.W.Frag}
      {mg : Str → Option Value} {base : Heap}
theorem Fun.okG {x qual : Str} {st : Stmt} {f : Addr} {fd : FuncData} {N ps : List Str} {k : Nat} {sp : Sp} (F : Fun K x qual st f fd) (S : FnScope N ps (defScope st)) (ar : ∀ vs H Q E, sp vs H Q E → vs.length = ps.length)
    (body : ∀ (cdv : Value) (A : Around) (outer : List Env) (s : Shared) (H : Hp) (vs : List V) (Q : VK) (E : XK), Room k (A.deeper (envOfC qual (defScope st) s.heap.objs.size f cdv)) → (A.deeper (envOfC qual (defScope st) s.heap.objs.size f cdv)).guards = some [] → sp vs H Q E →
      ∃ t, PSs (cxOf CX0 P w K mg base N qual (defScope st) f cdv A outer s H E).nox (defBody st) t ∧ t { nx := fun _ H' => Q .non H', rt := Q } (start N vs) H) : FnG P w K mg base (k + 1) f fd ps sp := by
  obtain ⟨oc, od, kV, doc, pm, an, cdv, ct, osl, rfl, at_f, code⟩ := F.ex
  refine ⟨ar, fun A outer s H args us vs Q E room quiet e0 bind rel h => ?_⟩
  have inK : K.In s.heap := e0.mod.kin.keeps fun b o e => (e0.bs b o e).1
  have noLim : s.heap.NoLimit := e0.mod.nolimit.keeps fun b o e => (e0.bs b o e).1
  have arity := ar _ _ _ _ h
  have kinds : ∀ y ∈ ps.zip us, (defScope st).names.lookup y.1 = some .local ∨ ((defScope st).names.lookup y.1 = some .cell ∧ ((cellsFrom (s.heap.objs.size + 1) (defScope st).names []).lookup y.1).isSome = true) := by
    rintro ⟨n, v⟩ hy
    rcases S.par n (List.of_mem_zip
          hy).1 with q | q
    · exact .inl q
    · exact .inr ⟨q, PySem.W.cellsFrom_some
          _ _ _ (.inl q)⟩
  refine codeAny_call_function room.depth (inK _ _ at_f) rfl S.co S.gen rfl (PySem.W.codeRec_of inK code) (bind _ _ _ _ ?_)
  refine wpAny_newFunctionEnv_cells S.kind kinds fun env same s1 made => ?_
  subst same
  refine ⟨noLim.keeps made.toInCall.keep, codeAny_func ?_⟩
  obtain ⟨t, der, rd⟩ := body cdv A outer s H vs Q E (room.deeper _) quiet h
  have I : Inv (cxOf CX0 P w K mg base N qual (defScope st) f cdv A outer s H E) [] (start N vs) H s1 := inv_start S room.hd e0 arity rel made
  refine wpAny_mono (der.nox.run [] s1 (start N vs) H _ I rd) (fun fl s2 z => ?_) fun _ _ z => z
  cases fl with
  | ret u =>
    obtain ⟨v, σ2, H2, J, rv, q⟩ := z
    exact ⟨v, H2, J.os, J.bare, J.base, J.hok, rv, q⟩
  | next =>
    obtain ⟨σ2, H2, J, q⟩ := z
    exact ⟨.non, H2, J.os, J.bare, J.base, J.hok, rfl, q⟩
  | brk =>
    obtain ⟨_, _, _, q⟩ := z
    exact q.elim
  | cont =>
    obtain ⟨_, _, _, q⟩ := z
    exact q.elim
/-- a call of such a def -/
theorem pe_callG {X : Cx} {k : Nat} {f : Addr} {fd : FuncData} {ps : List Str} {sp : Sp} {x : Str} {p pos : Pos} {e : Expr} {es : List Expr} {t : TA} (F : FnG X.prog X.w X.K X.mg X.base k f fd ps sp) (hr : Room k X.A) (hq : X.A.guards = some []) (hg : Gl X x) (hm : X.mg x = some (.ref f)) (hk : PySem.W.keepIn X.K (.ref f) = true)
    (hb : Binds X.K fd ps []) (ha : PA X (e :: es) t) (hdb : (x == ("__debug__" : Str)) = false := by decide) (he : starEach (e :: es) X.env = (false, eval e X.env) :: starEach es X.env := by rfl) (hpl : (backTo pos (starEach es X.env)).any (·.1) = false := by rfl) :
    PE X (.Call (.Name x p) (e :: es) [] pos) (tCall sp [] E0 t) := by
  constructor
  intro pins s σ H Q I h
  refine wpAny_Call_Name_kw
        (ld_glob I hg hm ?_ hdb)
  refine PySem.W.callWith_K (h₀ := X.base) I.ok.mod.kin hk (thn (ha.run pos pins s σ H _ I h) ?_) he hpl
  rintro us s1 ⟨vs, H1, I1, r, q⟩
  refine ⟨I1.kIn, ?_⟩
  have q' : sp vs H1 Q E0 := by
    have z : sp (vs ++ []) H1 Q E0 := q
    rwa [List.append_nil] at z
  have n : us.length = ps.length := by rw [← r.length]; exact F.ar _ _ _ _ q'
  have b := hb s1 us I1.kIn (by rw [List.append_nil]; exact n)
  rw [List.append_nil] at b
  refine wpAny_call (codeAny_mono (F.go X.A X.stack s1 H1 ⟨us, []⟩ us vs Q E0 hr hq I1.env0 b r q') fun res s2 z => ?_)
  cases res with
  | error er => exact (show False from z).elim
  | ok fl =>
    cases fl with
    | ret u => exact I1.after z
    | next => exact (show False from z).elim
    | brk => exact (show False from z).elim
    | cont => exact (show False from z).elim
/-- repr of nested data -/
def rRepD (K : PySem.W.Frag) : List V → Hp → VK → Prop := fun xs H Q => ∃ (a : Addr) (d : PyData), xs = [.ref a] ∧ Dp K H (.ref a) d ∧ d.showable = true ∧ d.hasDict = false ∧ d.depth ≤ 20 ∧ d.shown.length ≤ sizeLine ∧ Q (.str d.shown) H
theorem call_reprD {X : Cx} (hq : X.A.guards = some []) (hu : X.A.units + 64 < cLine) : CallR X (.builtin "repr") (rRepD X.K) := by
  rintro pins s σ H xs us Q I r ⟨a, d, rfl, dp, sh, nd, dep, sz, q⟩
  obtain ⟨u, rfl, (ru : u = .ref a)⟩ := vals1 r
  subst ru
  obtain ⟨as, rd⟩ := Dp.reads I d _ _ dp rfl
  refine repr_of_reads' rd sh (fun z => by rw [nd] at z; cases z) hq (by omega) (fun _ _ e => e) (fun h' u tk k => ?_) sz
  exact ⟨.str d.shown, H, I.kept k, ⟨u, rfl⟩, q⟩
/-- the law's own call -/
theorem law_callG {mb : Str → Option Value} {k : Nat} {fa a : Addr} {fd : FuncData} {x : Str} {sp : Sp} {s₁ : Shared} {vs : List Value} {ns : List Int} (inK : K.In s₁.heap) (glob : s₁.heap.Ns mainGlobals mg) (bi : s₁.heap.Ns builtinsNs mb) (bb : ∀ y : Str, y ≠ "__name__" → mb y = bootBuiltins y)
    (noLim : s₁.heap.NoLimit) (noGen : s₁.gens = #[]) (list : s₁.heap.get? a = some { cls := .type "list", data := .seq vs.toArray }) (wholes : IntsAre vs ns) (size : ns.length ≤ sizeLine) (room : Room k callerA)
    (F : ∀ base : Heap, K.In base → base.Ns mainGlobals mg → FnG P w K mg base k fa fd [x] sp) (bind : ∀ (s : Shared) (u : Value), BindsTo s fd ⟨[u], []⟩ [(x, u)]) (h : ∀ H : Hp, Only H → SqL K H a (ns.map V.int) → sp [.ref a] H (fun v _ => v = .bl true) fun _ _ _ => False) :
    codeAny (model P w) callerA (.call (.ref fa) ⟨[.ref a], []⟩) (fun r s' => r = .ok (.ret
          (.bool true)) ∧ OldK s₁.heap s'.heap ∧ s'.os = s₁.os ∧ AllBare s'.gens) s₁ := by
  have items := vals_ints wholes
  have few := wholes.length
  have main : ∀ H : Hp, Only H → SqL K H a (ns.map V.int) → HOk P w H s₁.heap → (∀ b u, H b = some u → b = a ∧ K.lookup a = none) →
      codeAny (model P w) callerA (.call (.ref fa) ⟨[.ref a], []⟩) (fun r s' => r = .ok (.ret
            (.bool true)) ∧ OldK s₁.heap s'.heap ∧ s'.os = s₁.os ∧ AllBare s'.gens) s₁ := by
    intro H only seq ok just
    have under : ∀ {b : Addr} {o : Obj}, s₁.heap.get? b = some o → H b = none → (hidT s₁.heap H).get? b = some o := fun e n => hidT_get e n
    have nsp : ∀ {b : Addr} {m : Str → Option Value}, s₁.heap.Ns b m → (hidT s₁.heap H).Ns b m := by
      rintro b m ⟨o, es, ep, e, d, r⟩
      refine ⟨o, es, ep, under e ?_, d, r⟩
      cases q : H b with
      | none => rfl
      | some u =>
        obtain ⟨rfl, _⟩ := just b u q
        rw [list] at e
        cases e
        exact nomatch (show Data.seq vs.toArray _ = Data.dict es ep from d)
    have inB : K.In (hidT s₁.heap H) := by
      intro b o e
      refine under (inK b o e) ?_
      cases q : H b with
      | none => rfl
      | some u =>
        obtain ⟨rfl, z⟩ := just b u q
        rw [z] at e
        cases e
    have modu : Mod K mg (hidT s₁.heap H) := by
      obtain ⟨mc, l1, l2⟩ := noLim
      exact ⟨inB, nsp glob, ⟨mb, nsp bi, bb⟩, ⟨mc, nsp l1, l2⟩⟩
    have e0 : Env0 P w K mg (hidT s₁.heap H) callerA [] s₁ H := ⟨rfl, modu, fun b o e => of_hidT e, Nat.le_of_eq (hidT_size _ _), trivial, fun b hb => absurd (show b ∈ ([] : List Addr) from hb) List.not_mem_nil, ok, .of_eq noGen⟩
    refine codeAny_mono ((F _ inB (nsp glob)).go callerA [] s₁ H ⟨[.ref a], []⟩ [.ref a] [.ref a] _ _ room rfl e0 (bind s₁ (.ref a)) (.cons rfl .nil) (h H only seq)) fun r s2 z => ?_
    cases r with
    | error e => exact (show False from z).elim
    | ok fl =>
      cases fl with
      | next => exact (show False from z).elim
      | brk => exact (show False from z).elim
      | cont => exact (show False from z).elim
      | ret u =>
        obtain ⟨v, H2, os, bare, un, ok2, rv, (q : v = .bl true)⟩ := z
        subst q
        obtain rfl : u = Value.bool true := rv
        refine ⟨rfl, OldK.of_keep fun
              b o e => ?_, os, bare⟩
        cases q : H b with
        | none => exact un.keep b o e q (by simp [frs]) (by simp)
        | some u =>
          rcases only b with y | ⟨ob, xs, y⟩
          · rw [q] at y
            cases y
          · have y2 := un.frzs b ob _ y
            obtain ⟨e1, _⟩ := ok b _ y
            obtain ⟨e2, _⟩ := ok2 b _ y2
            rw [e] at e1
            cases e1
            exact e2
  cases hk : K.lookup a with
  | some o =>
    have e := inK a o hk
    rw [list] at e
    cases e
    refine main (fun _ => none) (fun _ => .inl rfl) (.inr ⟨_, vs.toArray, _, hk, rfl, rfl, rfl, ?_, by simpa using items⟩) (fun b u z => nomatch (show (none : Option HO) = some u from z)) (fun b u z => nomatch (show (none : Option HO) = some u from z))
    rw [List.size_toArray, few]
    exact size
  | none =>
    have one : ∀ b u, (if b = a then some (HO.frz { cls := .type "list", data := .seq vs.toArray } (.lst (ns.map V.int))) else none) = some u → b = a ∧ u = HO.frz { cls := .type "list", data := .seq vs.toArray } (.lst (ns.map V.int)) := by
      intro b u z
      by_cases y : b = a
      · rw [if_pos y] at z
        exact ⟨y, (Option.some.inj z).symm⟩
      · rw [if_neg y] at z
        cases z
    refine main (fun b => if b = a then some (.frz { cls := .type "list", data := .seq vs.toArray } (.lst (ns.map V.int))) else none) (fun b => ?_) (.inl (.inr ⟨_, if_pos rfl⟩)) (fun b u z => ?_) (fun b u z => ⟨(one b u z).1, hk⟩)
    · by_cases y : b = a
      · exact .inr ⟨_, _, if_pos y⟩
      · exact .inl (if_neg y)
    · obtain ⟨rfl, rfl⟩ := one b u z
      exact ⟨list, by rw [List.length_map]; exact size, vs, _, items, list⟩
end
/-- the head's goal from such a promise -/
theorem walk_ofG {l : PySem.W.OpenLaw} {n k : Nat} {q : Program} {loose : List Str} {XP : (Str → Option Value) → Heap → Prop} {YP : World → Heap → Prop} {d : DefRec} {K : Params → PySem.W.Frag} {sp : World → Sp} {x : Str} (most : l.most = some n) (fits : n ≤ sizeLine) (noDef : d.params.defaults = []) (room : Room k callerA)
    (inK : ∀ (w : World) (h : Heap), YP w h → (K w.params).In h)
    (F : ∀ (w : World) (mg : Str → Option Value) (fa : Addr) (h : Heap), (K
          w.params).In h → h.Ns mainGlobals mg → mg d.name = some (.ref fa) →
      ∃ fd : FuncData, (∀ (s : Shared) (u : Value), BindsTo s fd ⟨[u], []⟩ [(x, u)]) ∧ ∀ base : Heap, (K w.params).In base → base.Ns mainGlobals mg → FnG l.prog w (K w.params) mg base k fa fd [x] (sp w))
    (h : ∀ (w : World) (H : Hp) (a : Addr) (ns : List Int), ns.length ≤ n → Only H → SqL (K w.params) H a (ns.map V.int) → sp w [.ref a] H (fun v _ => v = .bl true) fun _ _ _ => False) :
    PySem.W.WalkO q loose XP YP l.row.toRowW
          d [] (fun f vs => PySem.call f vs) := by
  refine Att.attach_call most noDef fun w s₀ s₁ mg mb fa o pm cd doc a vs ns G Y _ _ _ name list wholes len gens => ?_
  have KX := inK w _ Y
  obtain ⟨fd, bind, made⟩ := F w mg fa _ KX G.T.g name
  exact law_callG KX G.T.g G.T.b G.T.builtins G.T.nolimit gens list wholes (Nat.le_trans len fits) room made bind fun H only seq => h w H a ns len only seq
end L2

/-! trees: the mathematics -/
namespace K5
/-- doors es, each (parent, child), children all different; a bridge each; all connected -/
structure Tr0 (n : Nat) (es : List (Nat × Nat)) : Prop where
  len : es.length + 1 = n
  lt : ∀ e ∈ es, e.1 < n ∧ e.2 < n
  nd : (es.map Prod.snd).Nodup
  side : ∃ side : Nat → Nat → Bool, (∀ e ∈ es, side e.2 e.1 ≠ side e.2 e.2) ∧ ∀ e ∈ es, ∀ f ∈ es, e.2 ≠ f.2 → side e.2 f.1 = side e.2 f.2
  conn : ∀ S : Nat → Prop, (∀ e ∈ es, S e.1 ↔ S e.2) → ∀ x y, x < n → y < n → S x → S y
theorem Tr0.one : Tr0 1 [] where
  len := rfl
  lt := fun _ h => nomatch h
  nd := List.nodup_nil
  side := ⟨fun _ _ => true, fun _ h => (nomatch h), fun _ h => (nomatch h)⟩
  conn := fun S _ x y hx hy h => (show x = y by omega) ▸ h
theorem Tr0.grow {n : Nat} {es : List (Nat × Nat)} (T : Tr0 n es) (o : Nat) (ho : o < n) : Tr0 (n + 1) (es ++ [(o, n)]) := by
  obtain ⟨len, lt, nd, ⟨side, s1, s2⟩, conn⟩ := T
  have hn : ∀ e ∈ es, e.2 ≠ n := fun e h => by have := (lt e h).2; omega
  have hn1 : ∀ e ∈ es, e.1 ≠ n := fun e h => by have := (lt e h).1; omega
  refine ⟨by simp; omega, fun e h => ?_, ?_, ⟨fun c x => if c = n then decide (x = n) else if x = n then side c o else side c x, fun e h => ?_, fun e h f hf hne => ?_⟩, fun S hS x y hx hy h => ?_⟩
  · rcases List.mem_append.mp h with h | h
    · have := lt e h; omega
    · rw [List.mem_singleton.mp h]; exact ⟨Nat.lt_succ_of_lt ho, Nat.lt_succ_self _⟩
  · rw [List.map_append]
    refine List.nodup_append.mpr ⟨nd, by simp, fun a ha b hb => ?_⟩
    obtain ⟨e, he, rfl⟩ := List.mem_map.mp ha
    simp at hb
    rw [hb]
    exact hn e he
  · rcases List.mem_append.mp h with h | h
    · simp only [if_neg (hn e h), if_neg (hn1 e h)]
      exact s1 e h
    · rw [List.mem_singleton.mp h]
      simp only [if_pos rfl]
      rw [decide_eq_false (show ¬ o = n by omega)]
      simp
  · rcases List.mem_append.mp h with h | h
    · simp only [if_neg (hn e h)]
      rcases List.mem_append.mp hf with hf | hf
      · simp only [if_neg (hn f hf), if_neg (hn1 f hf)]
        exact s2 e h f hf hne
      · rw [List.mem_singleton.mp hf]
        simp only [if_neg (show ¬ o = n by omega), if_true]
    · rcases List.mem_append.mp hf with hf | hf
      · rw [List.mem_singleton.mp h]
        simp only [if_true]
        rw [decide_eq_false (hn f hf), decide_eq_false (hn1 f hf)]
      · rw [List.mem_singleton.mp h, List.mem_singleton.mp hf] at hne
        exact absurd rfl hne
  · have h0 : ∀ e ∈ es, S e.1 ↔ S e.2 := fun e he => hS e (List.mem_append.mpr (.inl he))
    have h1 : S o ↔ S n := hS (o, n) (List.mem_append.mpr (.inr (List.mem_singleton.mpr rfl)))
    by_cases ex : x = n
    · subst ex
      have so : S o := h1.mpr h
      by_cases ey : y = x
      · exact ey ▸ h
      · exact conn S h0 o y ho (by omega) so
    · have sx : S o := conn S h0 x o (by omega) ho h
      by_cases ey : y = n
      · exact ey ▸ h1.mp sx
      · exact conn S h0 x y (by omega) (by omega) h
theorem Tr0.perm {n : Nat} {es fs : List (Nat × Nat)} (T : Tr0 n es) (p : fs.Perm es) : Tr0 n fs := by
  obtain ⟨len, lt, nd, ⟨side, s1, s2⟩, conn⟩ := T
  exact ⟨by rw [p.length_eq]; exact len, fun e h => lt e (p.mem_iff.mp h), (p.map Prod.snd).nodup_iff.mpr nd,
    ⟨side, fun e h => s1 e (p.mem_iff.mp h), fun e h f hf => s2 e (p.mem_iff.mp h) f (p.mem_iff.mp hf)⟩,
    fun S hS => conn S fun e h => hS e (p.mem_iff.mpr h)⟩
/-- renamed by a list of names that is a rearrangement of 0 .. n - 1 -/
theorem Tr0.names {n : Nat} {es : List (Nat × Nat)} (T : Tr0 n es) (f g : Nat → Nat) (h1 : ∀ x, x < n → f x < n) (h2 : ∀ x, x < n → g (f x) = x) (h3 : ∀ y, y < n → g y < n ∧ f (g y) = y) :
    Tr0 n (es.map fun e => (f e.1, f e.2)) := by
  obtain ⟨len, lt, nd, ⟨side, s1, s2⟩, conn⟩ := T
  refine ⟨by rw [List.length_map]; exact len, fun e h => ?_, ?_, ⟨fun c x => side (g c) (g x), fun e h => ?_, fun e h e' h' hne => ?_⟩, fun S hS x y hx hy h => ?_⟩
  · obtain ⟨a, ha, rfl⟩ := List.mem_map.mp h
    exact ⟨h1 _ (lt a ha).1, h1 _ (lt a ha).2⟩
  · rw [List.map_map]
    have q : ∀ l : List (Nat × Nat), (∀ e ∈ l, e.2 < n) → (l.map Prod.snd).Nodup → (l.map (Prod.snd ∘ fun e => (f e.1, f e.2))).Nodup := by
      intro l
      induction l with
      | nil => intro _ _; exact List.nodup_nil
      | cons a r ih =>
        intro hl hd
        rw [List.map_cons] at hd ⊢
        obtain ⟨d1, d2⟩ := List.nodup_cons.mp hd
        refine List.nodup_cons.mpr ⟨fun m => d1 ?_, ih (fun e he => hl e (List.mem_cons_of_mem _ he)) d2⟩
        obtain ⟨b, hb, e⟩ := List.mem_map.mp m
        have e' : f b.2 = f a.2 := e
        have : b.2 = a.2 := by rw [← h2 b.2 (hl b (List.mem_cons_of_mem _ hb)), e', h2 a.2 (hl a List.mem_cons_self)]
        exact List.mem_map.mpr ⟨b, hb, this⟩
    exact q es (fun e he => (lt e he).2) nd
  · obtain ⟨a, ha, rfl⟩ := List.mem_map.mp h
    show side (g (f a.2)) (g (f a.1)) ≠ side (g (f a.2)) (g (f a.2))
    rw [h2 _ (lt a ha).1, h2 _ (lt a ha).2]
    exact s1 a ha
  · obtain ⟨a, ha, rfl⟩ := List.mem_map.mp h
    obtain ⟨b, hb, rfl⟩ := List.mem_map.mp h'
    show side (g (f a.2)) (g (f b.1)) = side (g (f a.2)) (g (f b.2))
    rw [h2 _ (lt a ha).2, h2 _ (lt b hb).1, h2 _ (lt b hb).2]
    exact s2 a ha b hb fun e => hne (by show f a.2 = f b.2; rw [e])
  · have q := conn (fun z => S (f z)) (fun e he => hS _ (List.mem_map.mpr ⟨e, he, rfl⟩)) (g x) (g y) (h3 x hx).1 (h3 y hy).1 (by show S (f (g x)); rw [(h3 x hx).2]; exact h)
    have q' : S (f (g y)) := q
    rw [(h3 y hy).2] at q'
    exact q'

/-- a house of n rooms that is a tree, its doors by their numbers, the ends in either order -/
structure Tree (n : Nat) (ds : List (Nat × Nat)) : Prop where
  len : ds.length + 1 = n
  lt : ∀ e ∈ ds, e.1 < n ∧ e.2 < n
  side : ∃ side : Nat → Nat → Bool, (∀ d e, ds[d]? = some e → side d e.1 ≠ side d e.2) ∧ ∀ c d e, ds[d]? = some e → c ≠ d → side c e.1 = side c e.2
  conn : ∀ S : Nat → Prop, (∀ e ∈ ds, S e.1 ↔ S e.2) → ∀ x y, x < n → y < n → S x → S y
/-- pointwise the same up to the order of the ends -/
inductive Flip : List (Nat × Nat) → List (Nat × Nat) → Prop
  | nil : Flip [] []
  | same {e es fs} (h : Flip es fs) : Flip (e :: es) (e :: fs)
  | turn {a b es fs} (h : Flip es fs) : Flip ((a, b) :: es) ((b, a) :: fs)
theorem Flip.len : ∀ {es fs}, Flip es fs → es.length = fs.length
  | _, _, .nil => rfl
  | _, _, .same h => by rw [List.length_cons, List.length_cons, h.len]
  | _, _, .turn h => by rw [List.length_cons, List.length_cons, h.len]
theorem Flip.get : ∀ {es fs}, Flip es fs → ∀ {d : Nat} {f : Nat × Nat}, fs[d]? = some f → ∃ e, es[d]? = some e ∧ (f = e ∨ f = (e.2, e.1))
  | _, _, .nil, d, f, h => by simp at h
  | _, _, .same h, 0, f, e => ⟨_, rfl, .inl (Option.some.inj e).symm⟩
  | _, _, .turn h, 0, f, e => ⟨_, rfl, .inr (Option.some.inj e).symm⟩
  | _, _, .same h, d + 1, f, e => h.get (d := d) e
  | _, _, .turn h, d + 1, f, e => h.get (d := d) e
theorem Flip.get' : ∀ {es fs}, Flip es fs → ∀ {d : Nat} {e : Nat × Nat}, es[d]? = some e → ∃ f, fs[d]? = some f ∧ (f = e ∨ f = (e.2, e.1))
  | _, _, .nil, d, f, h => by simp at h
  | _, _, .same h, 0, f, e => ⟨_, rfl, .inl (Option.some.inj e)⟩
  | _, _, .turn h, 0, f, e => ⟨_, rfl, .inr (by rw [← Option.some.inj e])⟩
  | _, _, .same h, d + 1, f, e => h.get' (d := d) e
  | _, _, .turn h, d + 1, f, e => h.get' (d := d) e
theorem Flip.snoc : ∀ {es fs} (e : Nat × Nat), Flip es fs → Flip (es ++ [e]) (fs ++ [e])
  | _, _, _, .nil => .same .nil
  | _, _, e, .same h => .same (h.snoc e)
  | _, _, e, .turn h => .turn (h.snoc e)
theorem Flip.snocT : ∀ {es fs} (a b : Nat), Flip es fs → Flip (es ++ [(a, b)]) (fs ++ [(b, a)])
  | _, _, _, _, .nil => .turn .nil
  | _, _, a, b, .same h => .same (h.snocT a b)
  | _, _, a, b, .turn h => .turn (h.snocT a b)
theorem Flip.refl : ∀ es, Flip es es
  | [] => .nil
  | _ :: r => .same (Flip.refl r)
theorem Tr0.tree {n : Nat} {es ds : List (Nat × Nat)} (T : Tr0 n es) (F : Flip es ds) : Tree n ds := by
  obtain ⟨len, lt, nd, ⟨side, s1, s2⟩, conn⟩ := T
  refine ⟨by rw [← F.len]; exact len, fun f h => ?_, ⟨fun d x => match es[d]? with | some e => side e.2 x | none => true, fun d f h => ?_, fun c d f h hne => ?_⟩, fun S hS => conn S fun e he => ?_⟩
  · obtain ⟨d, hd⟩ := List.mem_iff_getElem?.mp h
    obtain ⟨e, he, q⟩ := F.get hd
    have := lt e (List.mem_of_getElem? he)
    rcases q with q | q <;> subst q
    · exact this
    · exact ⟨this.2, this.1⟩
  · obtain ⟨e, he, q⟩ := F.get h
    have := s1 e (List.mem_of_getElem? he)
    simp only [he]
    rcases q with q | q <;> subst q
    · exact this
    · exact this.symm
  · obtain ⟨e, he, q⟩ := F.get h
    cases hc : es[c]? with
    | none => simp only [hc]
    | some e' =>
      simp only [hc]
      have hne2 : e'.2 ≠ e.2 := fun z => by
        apply hne
        obtain ⟨hd, hed⟩ := List.getElem?_eq_some_iff.mp he
        obtain ⟨hc', hec⟩ := List.getElem?_eq_some_iff.mp hc
        exact (List.getElem_inj (xs := es.map Prod.snd) (h₀ := by simpa using hc') (h₁ := by simpa using hd) nd).mp (by simp [hed, hec, z])
      have := s2 e' (List.mem_of_getElem? hc) e (List.mem_of_getElem? he) hne2
      rcases q with q | q <;> subst q
      · exact this
      · exact this.symm
  · obtain ⟨d, hd⟩ := List.mem_iff_getElem?.mp he
    obtain ⟨f, hf, q⟩ := F.get' hd
    have := hS f (List.mem_of_getElem? hf)
    rcases q with q | q <;> subst q
    · exact this
    · exact this.symm

/-- door d joins x and y -/
def Joins (ds : List (Nat × Nat)) (d x y : Nat) : Prop := ds[d]? = some (x, y) ∨ ds[d]? = some (y, x)
theorem Joins.symm {ds d x y} (j : Joins ds d x y) : Joins ds d y x := Or.symm j
theorem Joins.other {ds d x y z} (j : Joins ds d x y) (k : Joins ds d x z) (hxy : x ≠ y) : y = z := by
  rcases j with j | j <;> rcases k with k | k <;> rw [j] at k <;> cases k
  · rfl
  · exact absurd rfl hxy
  · exact absurd rfl hxy
  · rfl
/-- a way by the doors of the list -/
inductive Walk (ds : List (Nat × Nat)) : Nat → List Nat → Nat → Prop
  | nil (a) : Walk ds a [] a
  | cons {a c b d p} (j : Joins ds d a c) (w : Walk ds c p b) : Walk ds a (d :: p) b
theorem Walk.snoc {ds a p b d c} (w : Walk ds a p b) (j : Joins ds d b c) : Walk ds a (p ++ [d]) c := by
  induction w with
  | nil a => exact .cons j (.nil _)
  | cons j' w ih => exact .cons j' (ih j)
theorem Walk.app {ds a p b q c} (w : Walk ds a p b) (v : Walk ds b q c) : Walk ds a (p ++ q) c := by
  induction w with
  | nil a => exact v
  | cons j' w ih => exact .cons j' (ih v)
theorem Walk.rev {ds a p b} (w : Walk ds a p b) : Walk ds b p.reverse a := by
  induction w with
  | nil a => exact .nil _
  | cons j w ih =>
    rw [List.reverse_cons]
    exact ih.snoc j.symm
theorem Walk.split {ds} {e : Nat} : ∀ {a p b}, Walk ds a p b → e ∈ p → ∃ p1 p2 x y, p = p1 ++ e :: p2 ∧ Walk ds a p1 x ∧ Joins ds e x y ∧ Walk ds y p2 b
  | _, _, _, .nil a, h => by cases h
  | a, d :: p, b, .cons j w, h => by
    by_cases q : e = d
    · subst q
      exact ⟨[], p, a, _, rfl, .nil _, j, w⟩
    · have h' : e ∈ p := (List.mem_cons.mp h).resolve_left q
      obtain ⟨p1, p2, x, y, e1, w1, j1, w2⟩ := Walk.split w h'
      exact ⟨d :: p1, p2, x, y, by rw [e1]; rfl, .cons j w1, j1, w2⟩
section
variable {n : Nat} {ds : List (Nat × Nat)}
theorem side_join {side : Nat → Nat → Bool} (s1 : ∀ d e, ds[d]? = some e → side d e.1 ≠ side d e.2) {d x y : Nat} (j : Joins ds d x y) : side d x ≠ side d y := by
  rcases j with j | j
  · exact s1 _ _ j
  · exact (s1 _ _ j).symm
theorem side_other {side : Nat → Nat → Bool} (s2 : ∀ c d e, ds[d]? = some e → c ≠ d → side c e.1 = side c e.2) {c d x y : Nat} (j : Joins ds d x y) (h : c ≠ d) : side c x = side c y := by
  rcases j with j | j
  · exact s2 _ _ _ j h
  · exact (s2 _ _ _ j h).symm
theorem side_walk {side : Nat → Nat → Bool} (s2 : ∀ c d e, ds[d]? = some e → c ≠ d → side c e.1 = side c e.2) {c : Nat} : ∀ {a p b}, Walk ds a p b → c ∉ p → side c a = side c b
  | _, _, _, .nil a, _ => rfl
  | _, _, _, .cons j w, h => by
    rw [side_other s2 j fun e => h (by rw [e]; exact List.mem_cons_self)]
    exact side_walk s2 w fun m => h (List.mem_cons_of_mem _ m)
theorem side_use {side : Nat → Nat → Bool} (s1 : ∀ d e, ds[d]? = some e → side d e.1 ≠ side d e.2) (s2 : ∀ c d e, ds[d]? = some e → c ≠ d → side c e.1 = side c e.2) {c : Nat} {a p b} (w : Walk ds a p b) (nd : p.Nodup) (h : c ∈ p) : side c a ≠ side c b := by
  obtain ⟨p1, p2, x, y, rfl, w1, j, w2⟩ := w.split h
  obtain ⟨n1, n2, n3⟩ := List.nodup_append.mp nd
  have c1 : c ∉ p1 := fun m => n3 c m c List.mem_cons_self rfl
  have c2 : c ∉ p2 := (List.nodup_cons.mp n2).1
  rw [side_walk s2 w1 c1, ← side_walk s2 w2 c2]
  exact side_join s1 j
theorem way_unique (T : Tree n ds) : ∀ {p q a b}, Walk ds a p b → Walk ds a q b → p.Nodup → q.Nodup → p = q := by
  obtain ⟨side, s1, s2⟩ := T.side
  intro p
  induction p with
  | nil =>
    intro q a b w v np nq
    cases w
    cases v with
    | nil => rfl
    | cons j v => exact absurd rfl (side_use s1 s2 (.cons j v) nq List.mem_cons_self)
  | cons d p ih =>
    intro q a b w v np nq
    have hd := side_use s1 s2 w np List.mem_cons_self
    cases w with
    | @cons _ c _ _ _ j w =>
    cases v with
    | nil => exact absurd rfl hd
    | @cons _ c' _ e q j' v =>
      by_cases hde : d = e
      · subst hde
        have hac : a ≠ c := fun z => side_join s1 j (by rw [z])
        have := j.other j' hac
        subst this
        rw [ih w v (List.nodup_cons.mp np).2 (List.nodup_cons.mp nq).2]
      · exfalso
        have he := side_use s1 s2 (.cons j' v) nq List.mem_cons_self
        have hep : e ∈ p := by
          refine Classical.byContradiction fun hn => he ?_
          rw [side_other s2 j (Ne.symm hde)]
          exact side_walk s2 w hn
        obtain ⟨p1, p2, x, y, rfl, w1, j1, w2⟩ := w.split hep
        have n0 := List.nodup_cons.mp np
        obtain ⟨n1, n2, n3⟩ := List.nodup_append.mp n0.2
        have c1 : e ∉ p1 := fun m => n3 e m e List.mem_cons_self rfl
        have hx : side e x = side e a := by
          rw [← side_walk s2 w1 c1, ← side_other s2 j (Ne.symm hde)]
        have hxa : x = a := by
          rcases j1 with k | k <;> rcases j' with k' | k' <;> rw [k] at k' <;> cases k'
          · rfl
          · exact absurd hx.symm (s1 _ _ k).symm
          · exact absurd hx.symm (s1 _ _ k)
          · rfl
        subst hxa
        have c2 : d ∉ p1 := fun m => n0.1 (List.mem_append.mpr (.inl m))
        exact side_join s1 j (side_walk s2 w1 c2).symm
theorem way_uses (T : Tree n ds) {side : Nat → Nat → Bool} (s1 : ∀ d e, ds[d]? = some e → side d e.1 ≠ side d e.2) (s2 : ∀ c d e, ds[d]? = some e → c ≠ d → side c e.1 = side c e.2) {a p b d} (w : Walk ds a p b) (np : p.Nodup) : d ∈ p ↔ side d a ≠ side d b :=
  ⟨side_use s1 s2 w np, fun h => Classical.byContradiction fun hn => h (side_walk s2 w hn)⟩
theorem Joins.lt (T : Tree n ds) {d x y} (j : Joins ds d x y) : x < n ∧ y < n ∧ d + 1 < n ∧ x ≠ y := by
  obtain ⟨side, s1, s2⟩ := T.side
  have ne : x ≠ y := fun z => side_join s1 j (by rw [z])
  have hl := T.len
  rcases j with j | j
  · have := T.lt _ (List.mem_of_getElem? j)
    have h := (List.getElem?_eq_some_iff.mp j).1
    exact ⟨this.1, this.2, by omega, ne⟩
  · have := T.lt _ (List.mem_of_getElem? j)
    have h := (List.getElem?_eq_some_iff.mp j).1
    exact ⟨this.2, this.1, by omega, ne⟩
end
end K5

namespace K5
structure Uf (n : Nat) (L : List Nat) (rank : Nat → Nat) (R : Nat → Nat → Prop) : Prop where
  len : L.length = n
  at_ : ∀ x y, L[x]? = some y → y < n ∧ R x y ∧ (y ≠ x → rank y < rank x)
theorem get_lt {α : Type} {L : List α} {x : Nat} {y : α} (h : L[x]? = some y) : x < L.length := (List.getElem?_eq_some_iff.mp h).1
theorem get_set {α : Type} {L : List α} {x w : Nat} {z v : α} (h : (L.set x z)[w]? = some v) : (w = x ∧ v = z) ∨ (w ≠ x ∧ L[w]? = some v) := by
  rw [List.getElem?_set] at h
  by_cases e : x = w
  · rw [if_pos e] at h
    split at h
    · exact .inl ⟨e.symm, (Option.some.inj h).symm⟩
    · cases h
  · rw [if_neg e] at h
    exact .inr ⟨fun q => e q.symm, h⟩
theorem Uf.half {n L rank R} (u : Uf n L rank R) (tr : ∀ a b c, R a b → R b c → R a c) {x y z : Nat} (hx : L[x]? = some y) (hy : L[y]? = some z) : Uf n (L.set x z) rank R := by
  refine ⟨by rw [List.length_set]; exact u.len, fun w v h => ?_⟩
  rcases get_set h with ⟨rfl, rfl⟩ | ⟨_, h⟩
  · obtain ⟨a1, a2, a3⟩ := u.at_ _ _ hx
    obtain ⟨b1, b2, b3⟩ := u.at_ _ _ hy
    refine ⟨b1, tr _ _ _ a2 b2, fun ne => ?_⟩
    by_cases e : y = w
    · subst e
      rw [hx] at hy
      exact absurd (Option.some.inj hy).symm ne
    · have := a3 e
      by_cases e2 : v = y
      · subst e2; exact this
      · exact Nat.lt_trans (b3 e2) this
  · exact u.at_ _ _ h
theorem Uf.less {n L rank R} (u : Uf n L rank R) {x y z : Nat} (hx : L[x]? = some y) (hy : L[y]? = some z) (ne : y ≠ x) : rank z < rank x := by
  have h1 := (u.at_ _ _ hx).2.2 ne
  by_cases e : z = y
  · subst e; exact h1
  · exact Nat.lt_trans ((u.at_ _ _ hy).2.2 e) h1
theorem Uf.range (n : Nat) (R : Nat → Nat → Prop) (rf : ∀ a, R a a) : Uf n (List.range n) (fun _ => 0) R := by
  refine ⟨List.length_range, fun x y h => ?_⟩
  have hx : x < n := by simpa using get_lt h
  rw [List.getElem?_range hx] at h
  have e : x = y := Option.some.inj h
  subst e
  exact ⟨hx, rf _, fun z => absurd rfl z⟩
/-- alike for all doors from k on -/
def Rk (side : Nat → Nat → Bool) (k : Nat) (x y : Nat) : Prop := ∀ d, k ≤ d → side d x = side d y
theorem Rk.tr {side k} : ∀ a b c, Rk side k a b → Rk side k b c → Rk side k a c := fun a b c h1 h2 d hd => (h1 d hd).trans (h2 d hd)
theorem Rk.rf {side k} : ∀ a, Rk side k a a := fun a d _ => rfl
theorem Uf.union {n L rank side k} {ds : List (Nat × Nat)} (u : Uf n L rank (Rk side k)) (s1 : ∀ d e, ds[d]? = some e → side d e.1 ≠ side d e.2) (s2 : ∀ c d e, ds[d]? = some e → c ≠ d → side c e.1 = side c e.2)
    {x y ra rb : Nat} (hd : ds[k]? = some (x, y)) (ha : Rk side k x ra) (hb : Rk side k y rb) (hra : L[ra]? = some ra) (hrb : L[rb]? = some rb) :
    Uf n (L.set ra rb) (fun z => rank z + if side k z = side k x then rank rb + 1 else 0) (Rk side (k + 1)) := by
  refine ⟨by rw [List.length_set]; exact u.len, fun w v h => ?_⟩
  have hne : side k x ≠ side k y := s1 _ _ hd
  rcases get_set h with ⟨rfl, rfl⟩ | ⟨_, h⟩
  · refine ⟨(u.at_ _ _ hrb).1, fun d hd' => ?_, fun _ => ?_⟩
    · rw [← ha d (by omega), ← hb d (by omega)]
      exact s2 d k _ hd (by omega)
    · have e1 : side k w = side k x := (ha k (Nat.le_refl _)).symm
      have e2 : ¬ side k v = side k x := fun z => hne (z.symm.trans (hb k (Nat.le_refl _)).symm)
      simp only [e1, if_true, if_neg e2]
      omega
  · obtain ⟨b1, b2, b3⟩ := u.at_ _ _ h
    refine ⟨b1, fun d hd' => b2 d (by omega), fun ne => ?_⟩
    have := b3 ne
    have e : side k w = side k v := b2 k (Nat.le_refl _)
    rw [e]
    omega
theorem ring_no {side : Nat → Nat → Bool} {k} {ds : List (Nat × Nat)} (s1 : ∀ d e, ds[d]? = some e → side d e.1 ≠ side d e.2) {x y r : Nat} (hd : ds[k]? = some (x, y)) (ha : Rk side k x r) (hb : Rk side k y r) : False :=
  s1 _ _ hd ((ha k (Nat.le_refl _)).trans (hb k (Nat.le_refl _)).symm)
end K5

namespace K5
theorem nodup_le : ∀ (n : Nat) (l : List Nat), l.Nodup → (∀ x ∈ l, x < n) → l.length ≤ n
  | 0, [], _, _ => Nat.le_refl _
  | 0, a :: r, _, h => absurd (h a List.mem_cons_self) (Nat.not_lt_zero _)
  | n + 1, l, nd, h => by
    by_cases m : n ∈ l
    · have h1 := nodup_le n (l.erase n) (nd.erase n) fun x hx => by
        have q := (List.Nodup.mem_erase_iff nd).mp hx
        have := h x q.2
        have := q.1
        omega
      rw [List.length_erase_of_mem m] at h1
      have : 0 < l.length := List.length_pos_of_mem m
      omega
    · have h1 := nodup_le n l nd fun x hx => by
        have := h x hx
        have : x ≠ n := fun e => m (e ▸ hx)
        omega
      omega
/-- a search: kl the rooms found, ws those that wait -/
structure Dfs (n : Nat) (ds : List (Nat × Nat)) (shut kl ws : List Nat) : Prop where
  nd : kl.Nodup
  lt : ∀ x ∈ kl, x < n
  sub : ∀ x ∈ ws, x ∈ kl
  cl : ∀ x ∈ kl, x ∉ ws → ∀ d y, Joins ds d x y → d ∉ shut → y ∈ kl
structure DfsIn (n : Nat) (ds : List (Nat × Nat)) (shut kl ws : List Nat) (here : Nat) (don : List (Nat × Nat)) : Prop where
  nd : kl.Nodup
  lt : ∀ x ∈ kl, x < n
  sub : ∀ x ∈ ws, x ∈ kl
  cl : ∀ x ∈ kl, x ∉ ws → x ≠ here → ∀ d y, Joins ds d x y → d ∉ shut → y ∈ kl
  he : here ∈ kl
  dn : ∀ d y, (d, y) ∈ don → d ∉ shut → y ∈ kl
section
variable {n : Nat} {ds : List (Nat × Nat)} {shut kl ws : List Nat} {here : Nat} {don : List (Nat × Nat)}
theorem Dfs.start {x : Nat} (h : x < n) : Dfs n ds shut [x] [x] :=
  ⟨by simp, fun y hy => by rw [List.mem_singleton.mp hy]; exact h, fun y hy => hy, fun y hy hn => absurd hy hn⟩
theorem Dfs.pop (h : Dfs n ds shut kl (ws ++ [here])) : DfsIn n ds shut kl ws here [] :=
  ⟨h.nd, h.lt, fun x m => h.sub x (List.mem_append.mpr (.inl m)), fun x m nw ne d y j ns => h.cl x m (fun q => by
    rcases List.mem_append.mp q with q | q
    · exact nw q
    · exact ne (List.mem_singleton.mp q)) d y j ns, h.sub here (List.mem_append.mpr (.inr (List.mem_singleton.mpr rfl))), fun d y m => nomatch m⟩
theorem DfsIn.skip (h : DfsIn n ds shut kl ws here don) {d y : Nat} (q : d ∈ shut ∨ y ∈ kl) : DfsIn n ds shut kl ws here (don ++ [(d, y)]) :=
  ⟨h.nd, h.lt, h.sub, h.cl, h.he, fun d' y' m ns => by
    rcases List.mem_append.mp m with m | m
    · exact h.dn d' y' m ns
    · cases List.mem_singleton.mp m
      exact q.resolve_left ns⟩
theorem DfsIn.add (h : DfsIn n ds shut kl ws here don) {d y : Nat} (hy : y < n) (nk : y ∉ kl) : DfsIn n ds shut (kl ++ [y]) (ws ++ [y]) here (don ++ [(d, y)]) where
  nd := List.nodup_append.mpr ⟨h.nd, by simp, fun a ha b hb e => by
    rw [List.mem_singleton.mp hb] at e
    exact nk (e ▸ ha)⟩
  lt := fun x m => by
    rcases List.mem_append.mp m with m | m
    · exact h.lt x m
    · rw [List.mem_singleton.mp m]; exact hy
  sub := fun x m => by
    rcases List.mem_append.mp m with m | m
    · exact List.mem_append.mpr (.inl (h.sub x m))
    · exact List.mem_append.mpr (.inr m)
  cl := fun x m nw ne d' y' j ns => by
    rcases List.mem_append.mp m with m | m
    · exact List.mem_append.mpr (.inl (h.cl x m (fun q => nw (List.mem_append.mpr (.inl q))) ne d' y' j ns))
    · exact absurd (List.mem_append.mpr (.inr m)) nw
  he := List.mem_append.mpr (.inl h.he)
  dn := fun d' y' m ns => by
    rcases List.mem_append.mp m with m | m
    · exact List.mem_append.mpr (.inl (h.dn d' y' m ns))
    · cases List.mem_singleton.mp m
      exact List.mem_append.mpr (.inr (List.mem_singleton.mpr rfl))
theorem DfsIn.done (h : DfsIn n ds shut kl ws here don) (all : ∀ d y, Joins ds d here y → (d, y) ∈ don) : Dfs n ds shut kl ws :=
  ⟨h.nd, h.lt, h.sub, fun x m nw d y j ns => by
    by_cases e : x = here
    · subst e
      exact h.dn d y (all d y j) ns
    · exact h.cl x m nw e d y j ns⟩
theorem Dfs.le (h : Dfs n ds shut kl ws) : kl.length ≤ n := nodup_le n kl h.nd h.lt
theorem DfsIn.le (h : DfsIn n ds shut kl ws here don) : kl.length ≤ n := nodup_le n kl h.nd h.lt
/-- in the end: a closed set of rooms; without shut doors it is all -/
theorem Dfs.all (T : Tree n ds) (h : Dfs n ds [] kl []) {x : Nat} (hx : x ∈ kl) : ∀ y, y < n → y ∈ kl := by
  intro y hy
  refine T.conn (fun z => z ∈ kl) (fun e he => ?_) x y (h.lt x hx) hy hx
  obtain ⟨d, hd⟩ := List.mem_iff_getElem?.mp he
  exact ⟨fun m => h.cl _ m (by simp) d _ (.inl hd) (by simp), fun m => h.cl _ m (by simp) d _ (.inr hd) (by simp)⟩
theorem Dfs.walk (h : Dfs n ds shut kl []) : ∀ {x p y}, Walk ds x p y → (∀ d ∈ p, d ∉ shut) → x ∈ kl → y ∈ kl := by
  intro x p y w
  induction w with
  | nil a => intro _ m; exact m
  | cons j w ih => intro ns m; exact ih (fun d hd => ns d (List.mem_cons_of_mem _ hd)) (h.cl _ m (by simp) _ _ j (ns _ List.mem_cons_self))
end
/-- steps towards the beginning -/
structure Ptr (ds : List (Nat × Nat)) (shut : List Nat) (room : Nat) (ks : List (Nat × Option (Nat × Nat))) : Prop where
  st : ∀ x d y, (x, some (d, y)) ∈ ks → Joins ds d x y ∧ d ∉ shut ∧ y ∈ ks.map Prod.fst ∧ (ks.map Prod.fst).idxOf y < (ks.map Prod.fst).idxOf x
  fin : ∀ x, (x, none) ∈ ks → x = room
theorem Ptr.start {ds shut room} : Ptr ds shut room [(room, none)] :=
  ⟨fun x d y m => (by cases List.mem_singleton.mp m), fun x m => (by cases List.mem_singleton.mp m; rfl)⟩
theorem Ptr.add {ds shut room ks} (P : Ptr ds shut room ks) {x d y : Nat} (j : Joins ds d x y) (ns : d ∉ shut) (hy : y ∈ ks.map Prod.fst) (hx : x ∉ ks.map Prod.fst) : Ptr ds shut room (ks ++ [(x, some (d, y))]) := by
  refine ⟨fun x' d' y' m => ?_, fun x' m => ?_⟩
  · rw [List.map_append]
    rcases List.mem_append.mp m with m | m
    · obtain ⟨a, b, c, e⟩ := P.st x' d' y' m
      have hx' : x' ∈ ks.map Prod.fst := List.mem_map.mpr ⟨_, m, rfl⟩
      refine ⟨a, b, List.mem_append.mpr (.inl c), ?_⟩
      rw [List.idxOf_append, if_pos c, List.idxOf_append, if_pos hx']
      exact e
    · cases List.mem_singleton.mp m
      refine ⟨j, ns, List.mem_append.mpr (.inl hy), ?_⟩
      rw [List.idxOf_append, if_pos hy, List.idxOf_append, if_neg hx]
      have := List.idxOf_lt_length_iff.mpr hy
      omega
  · rcases List.mem_append.mp m with m | m
    · exact P.fin x' m
    · cases List.mem_singleton.mp m
/-- the way made so far from a to here along the steps -/
structure Made (ds : List (Nat × Nat)) (kl : List Nat) (a : Nat) (p : List Nat) (here : Nat) : Prop where
  w : Walk ds a p here
  nd : p.Nodup
  up : ∀ d ∈ p, ∀ x y, Joins ds d x y → kl.idxOf here ≤ kl.idxOf x ∧ kl.idxOf here ≤ kl.idxOf y
theorem Made.start {ds kl a} : Made ds kl a [] a := ⟨.nil _, List.nodup_nil, fun _ h => nomatch h⟩
theorem Made.step {ds shut room ks a p here d y} (T : ∃ n, Tree n ds) (M : Made ds (ks.map Prod.fst) a p here) (P : Ptr ds shut room ks) (h : (here, some (d, y)) ∈ ks) : Made ds (ks.map Prod.fst) a (p ++ [d]) y := by
  obtain ⟨j, ns, hy, lt⟩ := P.st here d y h
  refine ⟨M.w.snoc j, ?_, fun d' m x z k => ?_⟩
  · refine List.nodup_append.mpr ⟨M.nd, by simp, fun c hc b hb e => ?_⟩
    rw [List.mem_singleton.mp hb] at e
    subst e
    have := (M.up _ hc here y j).2
    omega
  · rcases List.mem_append.mp m with m | m
    · have := M.up d' m x z k
      omega
    · cases List.mem_singleton.mp m
      obtain ⟨n, T⟩ := T
      rcases j with j | j <;> rcases k with k | k <;> rw [j] at k <;> cases k
      · exact ⟨Nat.le_of_lt lt, Nat.le_refl _⟩
      · exact ⟨Nat.le_refl _, Nat.le_of_lt lt⟩
      · exact ⟨Nat.le_refl _, Nat.le_of_lt lt⟩
      · exact ⟨Nat.le_of_lt lt, Nat.le_refl _⟩
/-- the ways that the law makes: kl with the way to each -/
def Pth (ds : List (Nat × Nat)) (a : Nat) (ks : List (Nat × List Nat)) : Prop :=
  ∀ x p, (x, p) ∈ ks → Walk ds a p x ∧ p.Nodup ∧ ∀ d ∈ p, ∀ u v, Joins ds d u v → u ∈ ks.map Prod.fst ∧ v ∈ ks.map Prod.fst
theorem Pth.start {ds a} : Pth ds a [(a, [])] := fun x p m => by
  cases List.mem_singleton.mp m
  exact ⟨.nil _, List.nodup_nil, fun _ h => nomatch h⟩
theorem Pth.add {ds a ks x y p d} (P : Pth ds a ks) (h : (x, p) ∈ ks) (j : Joins ds d x y) (hy : y ∉ ks.map Prod.fst) : Pth ds a (ks ++ [(y, p ++ [d])]) := by
  intro x' p' m
  rw [List.map_append]
  rcases List.mem_append.mp m with m | m
  · obtain ⟨a, b, c⟩ := P x' p' m
    exact ⟨a, b, fun d hd u v k => ⟨List.mem_append.mpr (.inl (c d hd u v k).1), List.mem_append.mpr (.inl (c d hd u v k).2)⟩⟩
  · cases List.mem_singleton.mp m
    obtain ⟨a, b, c⟩ := P x p h
    have hx : x ∈ ks.map Prod.fst := List.mem_map.mpr ⟨_, h, rfl⟩
    refine ⟨a.snoc j, List.nodup_append.mpr ⟨b, by simp, fun c' hc b' hb e => ?_⟩, fun d' hd u v k => ?_⟩
    · rw [List.mem_singleton.mp hb] at e
      subst e
      exact hy (c _ hc x y j).2
    · rcases List.mem_append.mp hd with hd | hd
      · exact ⟨List.mem_append.mpr (.inl (c d' hd u v k).1), List.mem_append.mpr (.inl (c d' hd u v k).2)⟩
      · cases List.mem_singleton.mp hd
        have e1 := List.mem_append.mpr (.inl hx : x ∈ ks.map Prod.fst ∨ x ∈ [y])
        have e2 : y ∈ ks.map Prod.fst ++ [y] := List.mem_append.mpr (.inr (List.mem_singleton.mpr rfl))
        rcases j with j | j <;> rcases k with k | k <;> rw [j] at k <;> cases k
        · exact ⟨e1, e2⟩
        · exact ⟨e2, e1⟩
        · exact ⟨e2, e1⟩
        · exact ⟨e1, e2⟩
end K5

namespace K5
theorem perm_of_map {α β : Type} (f : α → β) : ∀ (l : List α) (ys : List β), ys.Perm (l.map f) → ∃ l' : List α, ys = l'.map f ∧ l'.Perm l
  | [], ys, h => ⟨[], h.eq_nil, List.Perm.refl _⟩
  | a :: r, ys, h => by
    have ha : f a ∈ ys := h.mem_iff.mpr List.mem_cons_self
    obtain ⟨s, t, rfl⟩ := List.append_of_mem ha
    have h2 : (s ++ t).Perm (r.map f) := (List.perm_middle.symm.trans h).cons_inv
    obtain ⟨r', e, p⟩ := perm_of_map f r _ h2
    refine ⟨r'.take s.length ++ a :: r'.drop s.length, ?_, ?_⟩
    · rw [List.map_append, List.map_cons, List.map_take, List.map_drop, ← e, List.take_left, List.drop_left]
    · have : (r'.take s.length ++ a :: r'.drop s.length).Perm (a :: r') := by
        have q := @List.perm_middle _ a (r'.take s.length) (r'.drop s.length)
        rw [List.take_append_drop] at q
        exact q
      exact this.trans (p.cons a)
theorem Tr0.nv {n : Nat} {es : List (Nat × Nat)} (T : Tr0 n es) {L : List Nat} (p : L.Perm (List.range n)) : Tr0 n (es.map fun e => (L.getD e.1 0, L.getD e.2 0)) := by
  have nd : L.Nodup := p.symm.nodup List.nodup_range
  have hl : L.length = n := by rw [p.length_eq, List.length_range]
  have hm : ∀ y, y ∈ L ↔ y < n := fun y => by rw [p.mem_iff, List.mem_range]
  have gd : ∀ x (h : x < n), L.getD x 0 = L[x]'(by omega) := fun x h => by
    rw [List.getD_eq_getElem?_getD, List.getElem?_eq_getElem (by omega)]
    rfl
  refine T.names (fun x => L.getD x 0) (fun y => L.idxOf y) (fun x h => ?_) (fun x h => ?_) (fun y h => ?_)
  · show L.getD x 0 < n
    rw [gd x h]
    exact (hm _).mp (List.getElem_mem _)
  · show L.idxOf (L.getD x 0) = x
    rw [gd x h]
    exact nd.idxOf_getElem x (by omega)
  · have hy := (hm y).mpr h
    have hi := List.idxOf_lt_length_iff.mpr hy
    refine ⟨by show L.idxOf y < n; omega, ?_⟩
    show L.getD (L.idxOf y) 0 = y
    rw [gd _ (by omega)]
    exact List.getElem_idxOf hi
end K5

/-! groups: rooms joined by doors, the mathematics -/
namespace K5
/-- a walk through doors of a set -/
def Con (ds : List (Nat × Nat)) (J : Nat → Prop) (x y : Nat) : Prop := ∃ u, Walk ds x u y ∧ ∀ e ∈ u, J e
section
variable {n : Nat} {ds : List (Nat × Nat)} {J J' : Nat → Prop}
theorem Con.refl (x : Nat) : Con ds J x x := ⟨[], .nil _, fun _ h => nomatch h⟩
theorem Con.symm {x y : Nat} (h : Con ds J x y) : Con ds J y x := by
  obtain ⟨u, w, hu⟩ := h
  exact ⟨u.reverse, w.rev, fun e he => hu e (List.mem_reverse.mp he)⟩
theorem Con.trans {x y z : Nat} (h : Con ds J x y) (k : Con ds J y z) : Con ds J x z := by
  obtain ⟨u, w, hu⟩ := h
  obtain ⟨v, w', hv⟩ := k
  refine ⟨u ++ v, w.app w', fun e he => ?_⟩
  rcases List.mem_append.mp he with he | he
  · exact hu e he
  · exact hv e he
theorem Con.door {d x y : Nat} (j : Joins ds d x y) (h : J d) : Con ds J x y := ⟨[d], .cons j (.nil _), fun e he => by
  rw [List.mem_singleton] at he
  rw [he]
  exact h⟩
theorem Con.mono (f : ∀ e, J e → J' e) {x y : Nat} (h : Con ds J x y) : Con ds J' x y := by
  obtain ⟨u, w, hu⟩ := h
  exact ⟨u, w, fun e he => f e (hu e he)⟩
/-- a mark that both ends of each such door share, is shared along -/
theorem Con.eq {β : Type} {f : Nat → β} (hf : ∀ d x y, J d → Joins ds d x y → f x = f y) : ∀ {x : Nat} {u : List Nat} {y : Nat}, Walk ds x u y → (∀ e ∈ u, J e) → f x = f y
  | _, _, _, .nil _, _ => rfl
  | _, _, _, .cons j w, h => (hf _ _ _ (h _ List.mem_cons_self) j).trans (Con.eq hf w fun e he => h e (List.mem_cons_of_mem _ he))
end
/-- the explained doors: the least set -/
inductive Ex (ds : List (Nat × Nat)) (S : List Nat × List Nat) : Nat → Prop
  | mk {d p r x y : Nat} {u : List Nat} : S.2[d]? = some p → S.1[p]? = some r → Joins ds d x y → Walk ds r u x → (∀ e ∈ u, Ex ds S e) → Ex ds S d
/-- marks of the rooms, the doors of J joined so far -/
structure Mk (n : Nat) (ds : List (Nat × Nat)) (S : List Nat × List Nat) (M : List Nat) (J : List Nat) : Prop where
  len : M.length = n
  nd : J.Nodup
  ex : ∀ d ∈ J, Ex ds S d
  lt : ∀ d ∈ J, d < ds.length
  le : ∀ x m, M[x]? = some m → m ≤ x ∧ Con ds (· ∈ J) x m
  eq : ∀ d x y, d ∈ J → Joins ds d x y → M.getD x 0 = M.getD y 0
section
variable {n : Nat} {ds : List (Nat × Nat)} {S : List Nat × List Nat} {M J : List Nat}
theorem Mk.start (n : Nat) : Mk n ds S (List.range n) [] where
  len := List.length_range
  nd := List.nodup_nil
  ex := fun _ h => nomatch h
  lt := fun _ h => nomatch h
  le := fun x m h => by
    have hx : x < n := by have := get_lt h; rwa [List.length_range] at this
    rw [List.getElem?_range hx] at h
    cases h
    exact ⟨Nat.le_refl _, Con.refl _⟩
  eq := fun _ _ _ h => nomatch h
theorem Mk.get (h : Mk n ds S M J) {x : Nat} (hx : x < n) : M[x]? = some (M.getD x 0) := by
  have hl : x < M.length := by rw [h.len]; exact hx
  rw [List.getD_eq_getElem?_getD, List.getElem?_eq_getElem hl]
  rfl
theorem Mk.con (h : Mk n ds S M J) {x y : Nat} (c : Con ds (· ∈ J) x y) : M.getD x 0 = M.getD y 0 := by
  obtain ⟨u, w, hu⟩ := c
  exact Con.eq (J := (· ∈ J)) (f := fun x => M.getD x 0) (fun d x y hd j => h.eq d x y hd j) w hu
theorem Mk.iff (h : Mk n ds S M J) {x y : Nat} (hx : x < n) (hy : y < n) : M.getD x 0 = M.getD y 0 ↔ Con ds (· ∈ J) x y := by
  refine ⟨fun e => ?_, h.con⟩
  have c1 := (h.le x _ (h.get hx)).2
  have c2 := (h.le y _ (h.get hy)).2
  rw [e] at c1
  exact c1.trans c2.symm
theorem Mk.lo (h : Mk n ds S M J) {x : Nat} (hx : x < n) : M.getD x 0 ≤ x := (h.le x _ (h.get hx)).1
/-- marks after a door is joined -/
def join (M : List Nat) (lo hi : Nat) : List Nat := M.map fun m => if m = hi then lo else m
theorem join_get {lo hi x : Nat} (hx : x < M.length) : (join M lo hi).getD x 0 = if M.getD x 0 = hi then lo else M.getD x 0 := by
  unfold join
  rw [List.getD_eq_getElem?_getD, List.getElem?_map, List.getElem?_eq_getElem hx, List.getD_eq_getElem?_getD, List.getElem?_eq_getElem hx]
  rfl
theorem Mk.step (T : Tree n ds) (h : Mk n ds S M J) {d a b p r : Nat} (hd : ds[d]? = some (a, b)) (ne : M.getD a 0 ≠ M.getD b 0) (hp : S.2[d]? = some p) (hr : S.1[p]? = some r) (hrn : r < n) (near : M.getD r 0 = M.getD a 0 ∨ M.getD r 0 = M.getD b 0) :
    Mk n ds S (join M (min (M.getD a 0) (M.getD b 0)) (max (M.getD a 0) (M.getD b 0))) (d :: J) := by
  have j : Joins ds d a b := .inl hd
  obtain ⟨la, lb, _, _⟩ := j.lt T
  have dJ : d ∉ J := fun z => ne (h.eq d a b z j)
  have exd : Ex ds S d := by
    rcases near with e | e
    · obtain ⟨u, w, hu⟩ := (h.iff hrn la).mp e
      exact .mk hp hr j w fun e he => h.ex e (hu e he)
    · obtain ⟨u, w, hu⟩ := (h.iff hrn lb).mp e
      exact .mk hp hr j.symm w fun e he => h.ex e (hu e he)
  generalize ea : M.getD a 0 = ma at ne near
  generalize eb : M.getD b 0 = mb at ne near
  have hmn : ∀ x, x < n → x < M.length := fun x hx => by rw [h.len]; exact hx
  have sub : ∀ e, e ∈ J → e ∈ d :: J := fun e he => List.mem_cons_of_mem _ he
  have cab : Con ds (· ∈ d :: J) a b := Con.door j List.mem_cons_self
  have ca : Con ds (· ∈ d :: J) a ma := ea ▸ ((h.le a _ (h.get la)).2.mono sub)
  have cb : Con ds (· ∈ d :: J) b mb := eb ▸ ((h.le b _ (h.get lb)).2.mono sub)
  have chl : Con ds (· ∈ d :: J) (max ma mb) (min ma mb) := by
    by_cases c : ma ≤ mb
    · rw [Nat.max_eq_right c, Nat.min_eq_left c]
      exact cb.symm.trans (cab.symm.trans ca)
    · rw [Nat.max_eq_left (by omega), Nat.min_eq_right (by omega)]
      exact ca.symm.trans (cab.trans cb)
  refine ⟨by unfold join; rw [List.length_map]; exact h.len, List.nodup_cons.mpr ⟨dJ, h.nd⟩, fun e he => ?_, fun e he => ?_, fun x m hm => ?_, fun e x y he jo => ?_⟩
  · rcases List.mem_cons.mp he with rfl | he
    · exact exd
    · exact h.ex e he
  · rcases List.mem_cons.mp he with rfl | he
    · exact get_lt hd
    · exact h.lt e he
  · have hx : x < n := by
      have := get_lt hm
      unfold join at this
      rwa [List.length_map, h.len] at this
    have e1 : m = (join M (min ma mb) (max ma mb)).getD x 0 := by rw [List.getD_eq_getElem?_getD, hm]; rfl
    rw [join_get (hmn x hx)] at e1
    have l1 := h.lo hx
    have c1 := (h.le x _ (h.get hx)).2.mono sub
    by_cases c : M.getD x 0 = max ma mb
    · rw [if_pos c] at e1
      rw [c] at c1
      refine ⟨by omega, ?_⟩
      rw [e1]
      exact c1.trans chl
    · rw [if_neg c] at e1
      rw [e1]
      exact ⟨l1, c1⟩
  · obtain ⟨lx, ly, _, _⟩ := jo.lt T
    rw [join_get (hmn x lx), join_get (hmn y ly)]
    rcases List.mem_cons.mp he with rfl | he
    · have key : ∀ z, z = a ∨ z = b → (if M.getD z 0 = max ma mb then min ma mb else M.getD z 0) = min ma mb := by
        rintro z (rfl | rfl)
        · rw [ea]
          by_cases c : ma = max ma mb
          · rw [if_pos c]
          · rw [if_neg c]
            omega
        · rw [eb]
          by_cases c : mb = max ma mb
          · rw [if_pos c]
          · rw [if_neg c]
            omega
      have ex : x = a ∨ x = b := by
        rcases jo with q | q <;> (rw [hd] at q; cases q; simp)
      have ey : y = a ∨ y = b := by
        rcases jo with q | q <;> (rw [hd] at q; cases q; simp)
      rw [key x ex, key y ey]
    · rw [h.eq e x y he jo]
theorem Mk.few (h : Mk n ds S M J) : J.length ≤ ds.length := nodup_le ds.length J h.nd h.lt
/-- nothing left to join -/
def Closed (ds : List (Nat × Nat)) (S : List Nat × List Nat) (M : List Nat) (d : Nat) : Prop :=
  ∀ a b p r, ds[d]? = some (a, b) → S.2[d]? = some p → S.1[p]? = some r → M.getD a 0 = M.getD b 0 ∨ (M.getD r 0 ≠ M.getD a 0 ∧ M.getD r 0 ≠ M.getD b 0)
theorem Mk.done (T : Tree n ds) (h : Mk n ds S M J) (cl : ∀ d, d < ds.length → Closed ds S M d) : ∀ d, Ex ds S d → ∀ x y, Joins ds d x y → M.getD x 0 = M.getD y 0 := by
  intro d hd
  induction hd with
  | @mk d p r x y u hp hr j w hu ih =>
    intro x' y' j'
    have er : M.getD r 0 = M.getD x 0 := Con.eq (J := (· ∈ u)) (f := fun x => M.getD x 0) (fun e a b he jo => ih e he a b jo) w fun e he => he
    have hdl : d < ds.length := by rcases j with q | q <;> exact get_lt q
    have fin : ∀ a b, ds[d]? = some (a, b) → M.getD a 0 = M.getD b 0 := by
      intro a b hab
      rcases cl d hdl a b p r hab hp hr with e | ⟨e1, e2⟩
      · exact e
      · rcases j with q | q
        · rw [hab] at q
          cases q
          exact absurd er e1
        · rw [hab] at q
          cases q
          exact absurd er e2
    rcases j' with q | q
    · exact fin _ _ q
    · exact (fin _ _ q).symm
/-- in the end: the joined doors are the explained ones -/
theorem Mk.all (T : Tree n ds) (h : Mk n ds S M J) (cl : ∀ d, d < ds.length → Closed ds S M d) {d x y : Nat} (j : Joins ds d x y) : M.getD x 0 = M.getD y 0 ↔ Ex ds S d := by
  refine ⟨fun e => ?_, fun e => h.done T cl d e x y j⟩
  obtain ⟨lx, ly, _, _⟩ := j.lt T
  obtain ⟨u, w, hu⟩ := (h.iff lx ly).mp e
  obtain ⟨side, s1, s2⟩ := T.side
  have : d ∈ u := Classical.byContradiction fun z => side_join s1 j (side_walk s2 w z)
  exact h.ex d (hu d this)
theorem Mk.con_ex (T : Tree n ds) (h : Mk n ds S M J) (cl : ∀ d, d < ds.length → Closed ds S M d) {x y : Nat} (hx : x < n) (hy : y < n) : M.getD x 0 = M.getD y 0 ↔ Con ds (Ex ds S) x y := by
  refine ⟨fun e => ((h.iff hx hy).mp e).mono h.ex, fun c => ?_⟩
  obtain ⟨u, w, hu⟩ := c
  exact Con.eq (J := Ex ds S) (f := fun x => M.getD x 0) (fun d a b hd jo => h.done T cl d hd a b jo) w hu
/-- two such lists of marks are one -/
theorem Mk.unique (T : Tree n ds) {M' J' : List Nat} (h : Mk n ds S M J) (cl : ∀ d, d < ds.length → Closed ds S M d) (h' : Mk n ds S M' J') (cl' : ∀ d, d < ds.length → Closed ds S M' d) : M = M' := by
  apply List.ext_getElem?
  intro x
  by_cases hx : x < n
  · rw [h.get hx, h'.get hx]
    congr 1
    have root : ∀ {M J : List Nat}, Mk n ds S M J → (∀ d, d < ds.length → Closed ds S M d) → ∀ y, y < n → Con ds (Ex ds S) x y → M.getD x 0 ≤ y := fun hm hc y hy c => by
      rw [(hm.con_ex T hc hx hy).mpr c]
      exact hm.lo hy
    have a1 := (h.le x _ (h.get hx)).2.mono h.ex
    have a2 := (h'.le x _ (h'.get hx)).2.mono h'.ex
    have l1 := h.lo hx
    have l2 := h'.lo hx
    have b1 := root h cl _ (by omega) a2
    have b2 := root h' cl' _ (by omega) a1
    omega
  · rw [List.getElem?_eq_none (by rw [h.len]; omega), List.getElem?_eq_none (by rw [h'.len]; omega)]
end
end K5

namespace K5
open PySem PySem.Spec PyProof.Rows L2
def top (i : Nat) : Stmt := PySem.Challenge.pw_lastthrough_k27_previous_states.main.body.getD i (.Pass ⟨0, 0, 0, 0⟩)
abbrev s_is_whole : Stmt := top 6
abbrev N_is_whole : List Str := ["value"]
theorem sc_is_whole : FnScope N_is_whole ["value"] (defScope s_is_whole) := ⟨rfl, rfl, rfl, by decide +kernel, rfl, by decide +kernel, by decide +kernel⟩
abbrev s_is_index : Stmt := top 7
abbrev N_is_index : List Str := ["value", "count"]
theorem sc_is_index : FnScope N_is_index ["value", "count"] (defScope s_is_index) := ⟨rfl, rfl, rfl, by decide +kernel, rfl, by decide +kernel, by decide +kernel⟩
abbrev s_is_door : Stmt := top 8
abbrev N_is_door : List Str := ["value", "count", "a", "b"]
theorem sc_is_door : FnScope N_is_door ["value", "count"] (defScope s_is_door) := ⟨rfl, rfl, rfl, by decide +kernel, rfl, by decide +kernel, by decide +kernel⟩
abbrev s_check_house : Stmt := top 9
abbrev N_check_house : List Str := ["value", "door", "ends", "ring"]
theorem sc_check_house : FnScope N_check_house ["value"] (defScope s_check_house) := ⟨rfl, rfl, rfl, by decide +kernel, rfl, by decide +kernel, by decide +kernel⟩
abbrev s_first_ring : Stmt := top 10
abbrev N_first_ring : List Str := ["doors", "links", "door", "a", "b", "a_root", "b_root"]
theorem sc_first_ring : FnScope N_first_ring ["doors"] (defScope s_first_ring) := ⟨rfl, rfl, rfl, by decide +kernel, rfl, by decide +kernel, by decide +kernel⟩
abbrev s_find_root : Stmt := top 11
abbrev N_find_root : List Str := ["links", "room"]
theorem sc_find_root : FnScope N_find_root ["links", "room"] (defScope s_find_root) := ⟨rfl, rfl, rfl, by decide +kernel, rfl, by decide +kernel, by decide +kernel⟩
abbrev s_need_house : Stmt := top 12
abbrev N_need_house : List Str := ["house", "reason"]
theorem sc_need_house : FnScope N_need_house ["house"] (defScope s_need_house) := ⟨rfl, rfl, rfl, by decide +kernel, rfl, by decide +kernel, by decide +kernel⟩
abbrev s_has_state_shape : Stmt := top 14
abbrev N_has_state_shape : List Str := ["house", "value", "rooms", "barred"]
theorem sc_has_state_shape : FnScope N_has_state_shape ["house", "value"] (defScope s_has_state_shape) := ⟨rfl, rfl, rfl, by decide +kernel, rfl, by decide +kernel, by decide +kernel⟩
abbrev s_check_state : Stmt := top 15
abbrev N_check_state : List Str := ["house", "value", "rooms", "barred", "person", "room", "door"]
theorem sc_check_state : FnScope N_check_state ["house", "value"] (defScope s_check_state) := ⟨rfl, rfl, rfl, by decide +kernel, rfl, by decide +kernel, by decide +kernel⟩
abbrev s_need_state : Stmt := top 16
abbrev N_need_state : List Str := ["house", "state", "reason"]
theorem sc_need_state : FnScope N_need_state ["house", "state"] (defScope s_need_state) := ⟨rfl, rfl, rfl, by decide +kernel, rfl, by decide +kernel, by decide +kernel⟩
abbrev s_need_state_of_as_many : Stmt := top 17
abbrev N_need_state_of_as_many : List Str := ["house", "state", "other"]
theorem sc_need_state_of_as_many : FnScope N_need_state_of_as_many ["house", "state", "other"] (defScope s_need_state_of_as_many) := ⟨rfl, rfl, rfl, by decide +kernel, rfl, by decide +kernel, by decide +kernel⟩
abbrev s_replaced : Stmt := top 18
abbrev N_replaced : List Str := ["values", "index", "value"]
theorem sc_replaced : FnScope N_replaced ["values", "index", "value"] (defScope s_replaced) := ⟨rfl, rfl, rfl, by decide +kernel, rfl, by decide +kernel, by decide +kernel⟩
abbrev s_last_moves : Stmt := top 20
abbrev N_last_moves : List Str := ["house", "state", "rooms", "barred", "moves", "door", "a", "b", "person", "start"]
theorem sc_last_moves : FnScope N_last_moves ["house", "state"] (defScope s_last_moves) := ⟨rfl, rfl, rfl, by decide +kernel, rfl, by decide +kernel, by decide +kernel⟩
abbrev s_count_previous : Stmt := top 21
abbrev N_count_previous : List Str := ["house", "state"]
theorem sc_count_previous : FnScope N_count_previous ["house", "state"] (defScope s_count_previous) := ⟨rfl, rfl, rfl, by decide +kernel, rfl, by decide +kernel, by decide +kernel⟩
abbrev s_state_before : Stmt := top 22
abbrev N_state_before : List Str := ["state", "rooms", "door", "before"]
theorem sc_state_before : FnScope N_state_before ["state", "rooms", "door", "before"] (defScope s_state_before) := ⟨rfl, rfl, rfl, by decide +kernel, rfl, by decide +kernel, by decide +kernel⟩
abbrev s_previous_at : Stmt := top 23
abbrev N_previous_at : List Str := ["house", "state", "index", "count", "place", "other", "rooms", "door", "person", "before"]
theorem sc_previous_at : FnScope N_previous_at ["house", "state", "index"] (defScope s_previous_at) := ⟨rfl, rfl, rfl, by decide +kernel, rfl, by decide +kernel, by decide +kernel⟩
abbrev s_previous_index : Stmt := top 24
abbrev N_previous_index : List Str := ["house", "state", "previous", "place", "rooms", "door", "person", "before", "other"]
theorem sc_previous_index : FnScope N_previous_index ["house", "state", "previous"] (defScope s_previous_index) := ⟨rfl, rfl, rfl, by decide +kernel, rfl, by decide +kernel, by decide +kernel⟩
abbrev s_l_cell : Stmt := top 26
abbrev N_l_cell : List Str := ["_law_script", "_law_at"]
theorem sc_l_cell : FnScope N_l_cell ["_law_script", "_law_at"] (defScope s_l_cell) := ⟨rfl, rfl, rfl, by decide +kernel, rfl, by decide +kernel, by decide +kernel⟩
abbrev s_l_hash : Stmt := top 27
abbrev N_l_hash : List Str := ["_law_seed", "_law_at", "_law_value"]
theorem sc_l_hash : FnScope N_l_hash ["_law_seed", "_law_at"] (defScope s_l_hash) := ⟨rfl, rfl, rfl, by decide +kernel, rfl, by decide +kernel, by decide +kernel⟩
abbrev s_l_generator : Stmt := top 28
abbrev N_l_generator : List Str := ["_law_script", "_law_at", "_law_seed"]
theorem sc_l_generator : FnScope N_l_generator ["_law_script", "_law_at"] (defScope s_l_generator) := ⟨rfl, rfl, rfl, by decide +kernel, rfl, by decide +kernel, by decide +kernel⟩
abbrev s_l_random : Stmt := top 29
abbrev N_l_random : List Str := ["_law_generator_here", "_law_bound", "_law_value", "_law_part"]
theorem sc_l_random : FnScope N_l_random ["_law_generator_here", "_law_bound"] (defScope s_l_random) := ⟨rfl, rfl, rfl, by decide +kernel, rfl, by decide +kernel, by decide +kernel⟩
abbrev s_l_shuffled : Stmt := top 30
abbrev N_l_shuffled : List Str := ["_law_generator_here", "_law_items", "_law_pool", "_law_item"]
theorem sc_l_shuffled : FnScope N_l_shuffled ["_law_generator_here", "_law_items"] (defScope s_l_shuffled) := ⟨rfl, rfl, rfl, by decide +kernel, rfl, by decide +kernel, by decide +kernel⟩
abbrev s_l_random_house : Stmt := top 31
abbrev N_l_random_house : List Str := ["_law_generator_here", "_law_size", "_law_labels", "_law_kind", "_law_doors", "_law_at", "_law_earlier", "_law_ends"]
theorem sc_l_random_house : FnScope N_l_random_house ["_law_generator_here", "_law_size"] (defScope s_l_random_house) := ⟨rfl, rfl, rfl, by decide +kernel, rfl, by decide +kernel, by decide +kernel⟩
abbrev s_l_around : Stmt := top 32
abbrev N_l_around : List Str := ["_law_layout", "_law_around_here", "_law_spot", "_law_door", "_law_one", "_law_other"]
theorem sc_l_around : FnScope N_l_around ["_law_layout"] (defScope s_l_around) := ⟨rfl, rfl, rfl, by decide +kernel, rfl, by decide +kernel, by decide +kernel⟩
abbrev s_l_random_state : Stmt := top 33
abbrev N_l_random_state : List Str := ["_law_generator_here", "_law_layout", "_law_count", "_law_rooms", "_law_who", "_law_barred", "_law_local", "_law_one", "_law_other", "_law_near", "_law_chosen"]
theorem sc_l_random_state : FnScope N_l_random_state ["_law_generator_here", "_law_layout", "_law_count"] (defScope s_l_random_state) := ⟨rfl, rfl, rfl, by decide +kernel, rfl, by decide +kernel, by decide +kernel⟩
abbrev s_l_moves : Stmt := top 34
abbrev N_l_moves : List Str := ["_law_layout", "_law_situation", "_law_rooms", "_law_barred", "_law_moves_here", "_law_door", "_law_one", "_law_other", "_law_who", "_law_spot"]
theorem sc_l_moves : FnScope N_l_moves ["_law_layout", "_law_situation"] (defScope s_l_moves) := ⟨rfl, rfl, rfl, by decide +kernel, rfl, by decide +kernel, by decide +kernel⟩
abbrev s_l_after_move : Stmt := top 35
abbrev N_l_after_move : List Str := ["_law_situation", "_law_move", "_law_rooms", "_law_barred", "_law_who", "_law_start", "_law_end", "_law_door"]
theorem sc_l_after_move : FnScope N_l_after_move ["_law_situation", "_law_move"] (defScope s_l_after_move) := ⟨rfl, rfl, rfl, by decide +kernel, rfl, by decide +kernel, by decide +kernel⟩
abbrev s_l_play : Stmt := top 36
abbrev N_l_play : List Str := ["_law_layout", "_law_situation", "_law_moves_here", "_law_who", "_law_start", "_law_end", "_law_found", "_law_move"]
theorem sc_l_play : FnScope N_l_play ["_law_layout", "_law_situation", "_law_moves_here"] (defScope s_l_play) := ⟨rfl, rfl, rfl, by decide +kernel, rfl, by decide +kernel, by decide +kernel⟩
abbrev s_l_random_play : Stmt := top 37
abbrev N_l_random_play : List Str := ["_law_generator_here", "_law_layout", "_law_situation", "_law_longest", "_law_moves_here", "_law_step", "_law_possible", "_law_move"]
theorem sc_l_random_play : FnScope N_l_random_play ["_law_generator_here", "_law_layout", "_law_situation", "_law_longest"] (defScope s_l_random_play) := ⟨rfl, rfl, rfl, by decide +kernel, rfl, by decide +kernel, by decide +kernel⟩
abbrev s_l_previous : Stmt := top 38
abbrev N_l_previous : List Str := ["_law_layout", "_law_situation", "_law_rooms", "_law_barred", "_law_found", "_law_door", "_law_one", "_law_other", "_law_who", "_law_start", "_law_earlier", "_law_before"]
theorem sc_l_previous : FnScope N_l_previous ["_law_layout", "_law_situation"] (defScope s_l_previous) := ⟨rfl, rfl, rfl, by decide +kernel, rfl, by decide +kernel, by decide +kernel⟩
abbrev s_l_too_large : Stmt := top 39
abbrev N_l_too_large : List Str := ["_law_layout", "_law_situation", "_law_number", "_law_error", "caught"]
theorem sc_l_too_large : FnScope N_l_too_large ["_law_layout", "_law_situation", "_law_number"] (defScope s_l_too_large) := ⟨rfl, rfl, rfl, by decide +kernel, rfl, by decide +kernel, by decide +kernel⟩
abbrev s_l_refusal : Stmt := top 40
abbrev N_l_refusal : List Str := ["_law_layout", "_law_situation", "_law_other", "_law_error", "caught"]
theorem sc_l_refusal : FnScope N_l_refusal ["_law_layout", "_law_situation", "_law_other"] (defScope s_l_refusal) := ⟨rfl, rfl, rfl, by decide +kernel, rfl, by decide +kernel, by decide +kernel⟩
abbrev s_l_truths_refused : Stmt := top 41
abbrev N_l_truths_refused : List Str := ["_law_layout", "_law_situation", "_law_before", "_law_rooms", "_law_barred", "_law_turned", "_law_spot", "_law_small", "_law_who", "_law_door"]
theorem sc_l_truths_refused : FnScope N_l_truths_refused ["_law_layout", "_law_situation", "_law_before"] (defScope s_l_truths_refused) := ⟨rfl, rfl, rfl, by decide +kernel, rfl, by decide +kernel, by decide +kernel⟩
abbrev s_l_holds : Stmt := top 42
abbrev N_l_holds : List Str := ["_law_generator_here", "_law_layout", "_law_situation", "_law_saved", "_law_expected", "_law_count", "_law_number", "_law_before", "_law_move", "_law_turn", "_law_other", "_law_odd"]
theorem sc_l_holds : FnScope N_l_holds ["_law_generator_here", "_law_layout", "_law_situation"] (defScope s_l_holds) := ⟨rfl, rfl, rfl, by decide +kernel, rfl, by decide +kernel, by decide +kernel⟩
abbrev s_law : Stmt := top 43
abbrev N_law : List Str := ["_law_script", "_law_cell_here", "_law_generator_here", "_law_size", "_law_layout", "_law_situation", "_law_moves_here", "_law_final", "_law_earlier"]
theorem sc_law : FnScope N_law ["_law_script"] (defScope s_law) := ⟨rfl, rfl, rfl, by decide +kernel, rfl, by decide +kernel, by decide +kernel⟩
/-- the built-ins that the text calls stand as they were -/
structure Bl (mg : Str → Option Value) : Prop where
  len : mg "len" = none
  isinstance : mg "isinstance" = none
  enumerate : mg "enumerate" = none
  range : mg "range" = none
  list : mg "list" = none
  set : mg "set" = none
  sorted : mg "sorted" = none
  max : mg "max" = none
  min : mg "min" = none
  tuple : mg "tuple" = none
  int : mg "int" = none
  bool : mg "bool" = none
  sum : mg "sum" = none
  repr : mg "repr" = none
  divmod : mg "divmod" = none

/-- a house at a: a tuple of tuples -/
def HouseAt (K : PySem.W.Frag) (H : Hp) (a : Addr) (ds : List (Nat × Nat)) : Prop :=
  ∃ rs : List Addr, SqT K H a (rs.map V.ref) ∧ rs.length = ds.length ∧ ∀ (d : Nat) (r : Addr) (e : Nat × Nat), rs[d]? = some r → ds[d]? = some e → SqT K H r [.int e.1, .int e.2]
section
variable {K : PySem.W.Frag} {H H' : Hp} {a g : Addr} {ds : List (Nat × Nat)}
theorem HouseAt.same (h : HouseAt K H a ds) (s : Same H H') : HouseAt K H' a ds := by
  obtain ⟨rs, h1, h2, h3⟩ := h
  exact ⟨rs, s.tup h1, h2, fun d r e x y => s.tup (h3 d r e x y)⟩
theorem HouseAt.but {xs : List V} (h : HouseAt K H a ds) (hg : H g = some (.lst xs)) (s : But g H H') : HouseAt K H' a ds := by
  obtain ⟨rs, h1, h2, h3⟩ := h
  exact ⟨rs, s.tup hg h1, h2, fun d r e x y => s.tup hg (h3 d r e x y)⟩
theorem ty_tup {xs : List V} (h : SqT K H a xs) : TyX K H (.ref a) (.type "tuple") := by
  rcases h with (h | ⟨o, h⟩) | ⟨o, its, n, h, c, _⟩
  · exact .base (.tup h)
  · exact .fTuple h
  · exact .kTuple h c
end
end K5

namespace K5
open PySem PySem.Spec PyProof.Rows L2
def spWhole : Sp := fun vs H Q _ => ∃ i : Int, vs = [.int i] ∧ Q (.bl true) H
def spIndex : Sp := fun vs H Q _ => ∃ i n : Int, vs = [.int i, .int n] ∧ Q (.bl (decide (0 ≤ i ∧ i < n))) H
def spDoor (K : PySem.W.Frag) : Sp := fun vs H Q _ => ∃ (a : Addr) (x y n : Int), vs = [.ref a, .int n] ∧ SqT K H a [.int x, .int y] ∧ (0 ≤ x ∧ x < n) ∧ (0 ≤ y ∧ y < n) ∧ x ≠ y ∧ Q (.bl true) H
section
variable {P : Program} {w : World} {K : PySem.W.Frag}
      {mg : Str → Option Value} {base : Heap}
theorem ok_is_whole (T : Bl mg) (D : Def K mg "is_whole" s_is_whole) : Cal P w K mg base "is_whole" ["value"] 1 spWhole := by
  refine D.ok sc_is_whole (fun _ _ _ _ _ _ us hl => match us, hl with | [_], _ => rfl) (fun vs H Q E h => ?_) (fun f cdv A outer s H vs Q E hr h => ?_)
  · obtain ⟨i, rfl, _⟩ := h
    rfl
  obtain ⟨i, rfl, q⟩ := h
  refine ⟨_, (pss_one (ps_ret (pe_and (pe_callB call_isi (by rfl) T.isinstance (by decide +kernel) (pa_cons (pv 0) (pa_cons (pe_bltn (v := .ty "int") (u := .type "int") (by rfl) T.int (by decide +kernel) rfl) pa_nil))) (pe_one (pe_not (pe_callB call_isi (by rfl) T.isinstance (by decide +kernel) (pa_cons (pv 0) (pa_cons (pe_bltn (v := .ty "bool") (u := .type "bool") (by rfl) T.bool (by decide +kernel) rfl) pa_nil)))))))), ?_⟩
  refine ⟨_, rfl, _, _, _, _, _, rfl, .ty _, .base (.int _), kit_ty (r := true) (by decide +kernel), _, rfl, iteT ?_⟩
  refine ⟨_, rfl, _, _, _, _, _, rfl, .ty _, .base (.int _), kit_ty (r := false) (by decide +kernel), _, rfl, q⟩
theorem ok_is_index (T : Bl mg) (D : Def K mg "is_index" s_is_index) (C_is_whole : Cal P w K mg base "is_whole" ["value"] 1 spWhole) : Cal P w K mg base "is_index" ["value", "count"] 2 spIndex := by
  refine D.ok sc_is_index (fun _ _ _ _ _ _ us hl => match us, hl with | [_, _], _ => rfl) (fun vs H Q E h => ?_) (fun f cdv A outer s H vs Q E hr h => ?_)
  · obtain ⟨i, n, rfl, _⟩ := h
    rfl
  obtain ⟨i, n, rfl, q⟩ := h
  obtain ⟨f_is_whole, fd_is_whole, g_is_whole, k_is_whole, b_is_whole, G_is_whole⟩ := C_is_whole
  refine ⟨_, (pss_one (ps_ret (pe_and (pe_call G_is_whole (hr.mono (by decide)) (by rfl) g_is_whole k_is_whole b_is_whole .nil pass0 (pa_cons (pv 0) pa_nil)) (pe_one (pe_chain op_le op_lt pe_int (pv 0) (pv 1)))))), ?_⟩
  refine ⟨_, rfl, _, rfl, _, rfl, iteT ?_⟩
  refine ⟨_, rfl, _, _, rfl, rfl, _, rfl, ite2 (fun h => ?_) (fun h => ?_)⟩
  · have h := of_decide_eq_true h
    refine ⟨_, rfl, _, _, rfl, rfl, ?_⟩
    have e : decide (i < n) = decide (0 ≤ i ∧ i < n) := by simp [h]
    show Q (.bl (decide (i < n))) H
    rw [e]
    exact q
  · have e : false = decide (0 ≤ i ∧ i < n) := by
      have h : ¬ 0 ≤ i := fun z => h (decide_eq_true z)
      simp [h]
    show Q (.bl false) H
    rw [e]
    exact q
theorem ok_is_door (T : Bl mg) (D : Def K mg "is_door" s_is_door) (C_is_index : Cal P w K mg base "is_index" ["value", "count"] 2 spIndex) : Cal P w K mg base "is_door" ["value", "count"] 3 (spDoor K) := by
  refine D.ok sc_is_door (fun _ _ _ _ _ _ us hl => match us, hl with | [_, _], _ => rfl) (fun vs H Q E h => ?_) (fun f cdv A outer s H vs Q E hr h => ?_)
  · obtain ⟨a, x, y, n, rfl, _⟩ := h
    rfl
  obtain ⟨a, x, y, n, rfl, ht, hx, hy, hne, q⟩ := h
  obtain ⟨f_is_index, fd_is_index, g_is_index, k_is_index, b_is_index, G_is_index⟩ := C_is_index
  refine ⟨_, (pss_cons (ps_if (PW.pt (pw_or (pt_not (pt_val (pe_callB call_isi (by rfl) T.isinstance (by decide +kernel) (pa_cons (pv 0) (pa_cons (pe_bltn (v := .ty "tuple") (u := .type "tuple") (by rfl) T.tuple (by decide +kernel) rfl) pa_nil))))) (pw_or1 (pt_cmpR op_ne (pe_callB call_len_seq (by rfl) T.len PySem.boot_len (pa_cons (pv 0) pa_nil)) pe_int (nomark _))))) (pss_one (ps_ret pe_bl)) pss_nil)
    (pss_cons (ps_asg (pv 0) (pg_tup (n := 2) rfl (pgs_cons (pg_name (i := 2) sc_is_door.nd rfl (.inl rfl)) (pgs_cons (pg_name (i := 3) sc_is_door.nd rfl (.inl rfl)) pgs_nil))))
    (pss_one (ps_ret (pe_and (pe_call G_is_index (hr.mono (by decide)) (by rfl) g_is_index k_is_index b_is_index .nil pass0 (pa_cons (pv 2) (pa_cons (pv 1) pa_nil))) (pe_and (pe_call G_is_index (hr.mono (by decide)) (by rfl) g_is_index k_is_index b_is_index .nil pass0 (pa_cons (pv 3) (pa_cons (pv 1) pa_nil))) (pe_one (pe_cmpR op_ne (pv 2) (pv 3) (nomark _))))))))), ?_⟩
  refine ⟨_, rfl, _, _, _, _, _, rfl, .ty _, ty_tup ht, kit_ty (r := true) (by decide +kernel), _, rfl, iteF ?_⟩
  refine ⟨_, rfl, _, _, rfl, .inr ht, rfl, _, rfl, iteF ?_⟩
  refine ⟨_, rfl, _, _, rfl, ht, rfl, _, _, rfl, _, _, rfl, rfl, ?_⟩
  refine ⟨_, rfl, _, rfl, _, _, rfl, _, rfl, ?_⟩
  rw [decide_eq_true hx]
  refine iteT ⟨_, rfl, _, rfl, _, _, rfl, _, rfl, ?_⟩
  rw [decide_eq_true hy]
  refine iteT ⟨_, rfl, _, rfl, rfl, ?_⟩
  rw [decide_eq_false (show ¬ V.int x = V.int y from fun z => hne (V.int.inj z))]
  exact q
end
end K5

namespace K5
open PySem PySem.Spec PyProof.Rows L2
/-- a list of numbers as values -/
def nv (L : List Nat) : List V := L.map fun (x : Nat) => V.int (x : Int)
theorem nv_len (L : List Nat) : (nv L).length = L.length := by unfold nv; rw [List.length_map]
theorem nv_get {L : List Nat} {x y : Nat} (h : L[x]? = some y) : (nv L)[x]? = some (.int (y : Int)) := by
  unfold nv
  rw [List.getElem?_map, h]
  rfl
theorem nv_set (L : List Nat) (x y : Nat) : (nv L).set x (.int (y : Int)) = nv (L.set x y) := by
  unfold nv
  rw [List.map_set]
theorem nv_at {L : List Nat} {x y : Nat} (h : L[x]? = some y) : atI (nv L) (x : Int) = some (.int (y : Int)) := atI_nat (nv_get h)
theorem ixN_nat {n x : Nat} (h : x < n) : ixN n (x : Int) = some x := by
  unfold ixN
  rw [if_pos (by omega), if_pos (by omega), Int.toNat_natCast]
theorem upd_self {H : Hp} {p : Addr} {o : HO} (h : H p = some o) : upd H p o = H := by
  funext b
  unfold upd
  by_cases e : b = p
  · rw [if_pos e, e, h]
  · rw [if_neg e]
theorem get_of {α : Type} {L : List α} {n x : Nat} (h : L.length = n) (hx : x < n) : ∃ y, L[x]? = some y := ⟨_, List.getElem?_eq_getElem (h ▸ hx)⟩
theorem rgV_nat (n : Nat) : rgV 0 (n : Int) = nv (List.range n) := by
  unfold rgV nv
  rw [show ((n : Int) - 0).toNat = n by omega]
  apply List.map_congr_left
  intro i _
  rw [Int.zero_add]
theorem dec_ne {i j : Int} (h : i ≠ j) : decide (V.int i = V.int j) = false := decide_eq_false fun z => h (V.int.inj z)
theorem dec_eq (i : Int) : decide (V.int i = V.int i) = true := decide_eq_true rfl
def spFind : Sp := fun vs H Q _ => ∃ (p : Addr) (L : List Nat) (n : Nat) (rank : Nat → Nat) (R : Nat → Nat → Prop) (room : Nat), vs = [.ref p, .int (room : Int)] ∧ H p = some (.lst (nv L)) ∧ Uf n L rank R ∧
  (∀ a b c, R a b → R b c → R a c) ∧ (∀ a, R a a) ∧ room < n ∧ ∀ (L' : List Nat) (r : Nat), Uf n L' rank R → R room r → L'[r]? = some r → (∀ x : Nat, L[x]? = some x → L'[x]? = some x) → Q (.int (r : Nat)) (upd H p (.lst (nv L')))
def spRing (K : PySem.W.Frag) : Sp := fun vs H Q _ => ∃ (a : Addr) (ds : List (Nat × Nat)) (n : Nat), vs = [.ref a] ∧ HouseAt K H a ds ∧ Tree n ds ∧ n ≤ 1000 ∧ ∀ H', Same H H' → Q .non H'
section
variable {P : Program} {w : World} {K : PySem.W.Frag}
      {mg : Str → Option Value} {base : Heap}
theorem ok_find_root (T : Bl mg) (D : Def K mg "find_root" s_find_root) : Cal P w K mg base "find_root" ["links", "room"] 1 spFind := by
  refine D.ok sc_find_root (fun _ _ _ _ _ _ us hl => match us, hl with | [_, _], _ => rfl) (fun vs H Q E h => ?_) (fun f cdv A outer s H vs Q E hr h => ?_)
  · obtain ⟨p, L, n, rank, R, room, rfl, _⟩ := h
    rfl
  obtain ⟨p, L, n, rank, R, room, rfl, hp, u, tr, rf, hlt, q⟩ := h
  refine ⟨_, (pss_cons (ps_while PassesOwn.never (pt_cmpR op_ne (pe_ix ix_list (pv 0) (pv 1) (fun _ _ => rfl)) (pv 1) (nomark _)) (pss_cons (ps_asg (pe_ix ix_list (pv 0) (pe_ix ix_list (pv 0) (pv 1) (fun _ _ => rfl)) (fun _ _ => rfl)) (pg_sub (pv 0) (pv 1) set_list))
    (pss_one (ps_set (i := 1) sc_find_root.nd rfl (.inl rfl) (pe_ix ix_list (pv 0) (pv 1) (fun _ _ => rfl))))))
    (pss_one (ps_ret (pv 1)))), ?_⟩
  refine ⟨fun m σ H1 => ∃ (L1 : List Nat) (r : Nat), m = rank r ∧ σ = [some (.ref p), some (.int (r : Nat))] ∧ H1 = upd H p (.lst (nv L1)) ∧ Uf n L1 rank R ∧ R room r ∧ r < n ∧ ∀ x : Nat, L[x]? = some x → L1[x]? = some x, ⟨rank room, L, room, rfl, rfl, (upd_self hp).symm, u, rf _, hlt, fun _ h => h⟩, fun m σ H1 hW => ?_⟩
  obtain ⟨L1, r, rfl, rfl, rfl, u1, rr, hr1, ro⟩ := hW
  obtain ⟨y, hy⟩ := get_of u1.len hr1
  refine ⟨_, rfl, _, rfl, _, _, _, _, rfl, rfl, SqL.of upd_same, nv_at hy, _, rfl, rfl, _, rfl, ?_⟩
  by_cases e : y = r
  · subst e
    rw [dec_eq]
    exact iteF ⟨_, rfl, q L1 y u1 rr hy ro⟩
  · rw [dec_ne (by omega)]
    obtain ⟨z, hz⟩ := get_of u1.len (u1.at_ _ _ hy).1
    refine iteT ⟨fun σ' H' => ∃ (L2 : List Nat) (r2 : Nat), rank r2 < rank r ∧ σ' = [some (.ref p), some (.int (r2 : Nat))] ∧ H' = upd H p (.lst (nv L2)) ∧ Uf n L2 rank R ∧ R room r2 ∧ r2 < n ∧ ∀ x : Nat, L[x]? = some x → L2[x]? = some x, fun σ' H' ⟨L2, r2, h1, h2⟩ => ⟨_, h1, L2, r2, rfl, h2⟩, ?_⟩
    refine ⟨_, rfl, _, rfl, _, rfl, _, _, _, _, rfl, rfl, SqL.of upd_same, nv_at hy, _, _, _, _, rfl, rfl, SqL.of upd_same, nv_at hz, ?_⟩
    refine ⟨_, rfl, _, rfl, _, _, _, r, rfl, rfl, upd_same, ixN_nat (by rw [nv_len, u1.len]; exact hr1), ?_⟩
    rw [upd_upd, nv_set]
    have hz' : (L1.set r z)[r]? = some z := by
      rw [List.getElem?_set_self (by rw [u1.len]; exact hr1)]
    refine ⟨_, rfl, _, rfl, _, _, _, _, rfl, rfl, SqL.of upd_same, nv_at hz', ?_⟩
    have a1 := u1.at_ _ _ hy
    have a2 := u1.at_ _ _ hz
    refine ⟨L1.set r z, z, u1.less hy hz e, rfl, rfl, u1.half tr hy hz, tr _ _ _ rr (tr _ _ _ a1.2.1 a2.2.1), a2.1, fun x hx => ?_⟩
    have h1 := ro x hx
    have ne : r ≠ x := fun z => by
      subst z
      rw [h1] at hy
      exact e (Option.some.inj hy).symm
    rw [List.getElem?_set_ne ne]
    exact h1
theorem ok_first_ring (T : Bl mg) (D : Def K mg "first_ring" s_first_ring) (C_find_root : Cal P w K mg base "find_root" ["links", "room"] 1 spFind) : Cal P w K mg base "first_ring" ["doors"] 2 (spRing K) := by
  refine D.ok sc_first_ring (fun _ _ _ _ _ _ us hl => match us, hl with | [_], _ => rfl) (fun vs H Q E h => ?_) (fun f cdv A outer s H vs Q E hr h => ?_)
  · obtain ⟨a, ds, n, rfl, _⟩ := h
    rfl
  obtain ⟨a, ds, n, rfl, hH, tree, hn, q⟩ := h
  obtain ⟨rs, hrs, hlen, hds⟩ := id hH
  obtain ⟨side, s1, s2⟩ := tree.side
  have hdn := tree.len
  obtain ⟨f_find_root, fd_find_root, g_find_root, k_find_root, b_find_root, G_find_root⟩ := C_find_root
  refine ⟨_, (pss_cons (ps_set (i := 1) sc_first_ring.nd rfl (.inl rfl) (pe_listRg rfl (by rfl) T.list (prg_1 (by rfl) T.range (pe_op op_add (pe_callB call_len_seq (by rfl) T.len PySem.boot_len (pa_cons (pv 0) pa_nil)) pe_int))))
    (pss_cons (ps_for PassesOwn.never rfl (pi_enumT (by rfl) T.enumerate (pa_cons (pv 0) pa_nil)) (pg_tup (n := 2) rfl (pgs_cons (pg_name (i := 2) sc_first_ring.nd rfl (.inl rfl)) (pgs_cons (pg_tup (n := 2) rfl (pgs_cons (pg_name (i := 3) sc_first_ring.nd rfl (.inl rfl)) (pgs_cons (pg_name (i := 4) sc_first_ring.nd rfl (.inl rfl)) pgs_nil))) pgs_nil)))
    (pss_cons (ps_set (i := 5) sc_first_ring.nd rfl (.inl rfl) (pe_call G_find_root (hr.mono (by decide)) (by rfl) g_find_root k_find_root b_find_root .nil pass0 (pa_cons (pv 1) (pa_cons (pv 3) pa_nil))))
    (pss_cons (ps_set (i := 6) sc_first_ring.nd rfl (.inl rfl) (pe_call G_find_root (hr.mono (by decide)) (by rfl) g_find_root k_find_root b_find_root .nil pass0 (pa_cons (pv 1) (pa_cons (pv 4) pa_nil))))
    (pss_cons (ps_if (pt_cmpR op_eq (pv 5) (pv 6) (nomark _)) (pss_one (ps_ret (pv 2))) pss_nil)
    (pss_one (ps_asg (pv 6) (pg_sub (pv 1) (pv 5) set_list)))))))
    (pss_one (ps_ret pe_non)))), ?_⟩
  have e1 : (((rs.map V.ref).length : Nat) : Int) + 1 = ((n : Nat) : Int) := by
    rw [List.length_map, hlen]
    omega
  refine ⟨_, rfl, _, _, rfl, .inr hrs, _, _, rfl, rfl, _, rfl, .of_le (Int.le_refl _) (by omega) (by omega) (by omega), fun q0 nq => ?_⟩
  rw [e1, rgV_nat]
  refine ⟨_, rfl, a, _, rfl, (Same.upd nq).tup hrs, ?_⟩
  refine for_it (walk_enumT (K := K) (a := a) (xs := rs.map V.ref)) (fun k σ H1 => ∃ L rank y2 y3 y4 y5 y6, σ = [some (.ref a), some (.ref q0), y2, y3, y4, y5, y6] ∧ Same H H1 ∧ H1 q0 = some (.lst (nv L)) ∧ Uf n L rank (Rk side k))
    ⟨_, _, _, _, _, _, _, rfl, Same.upd nq, upd_same, Uf.range n _ Rk.rf⟩ (fun i σ H1 _ ⟨_, _, _, _, _, _, _, _, sm, _⟩ => sm.tup hrs) ?_ ?_
  · rintro k x σ H1 H2 hk ⟨L, rank, y2, y3, y4, y5, y6, rfl, sm, hq0, u⟩ ⟨t, x1, x2, rfl, nt, rfl, ex1, ex2⟩
    cases ex1
    have hk' : k < ds.length := by
      rw [List.length_map, hlen] at hk
      exact hk
    obtain ⟨e, he⟩ : ∃ e, ds[k]? = some e := get_of rfl hk'
    obtain ⟨r, hr0⟩ : ∃ r, rs[k]? = some r := get_of hlen hk'
    have ex2' : V.ref r = x2 := by
      have ex2 : (rs.map V.ref)[k]? = some x2 := ex2
      rw [List.getElem?_map, hr0] at ex2
      exact Option.some.inj ex2
    subst ex2'
    have sm2 : Same H1 (upd H1 t (.tup [.int (k : Nat), .ref r])) := Same.upd nt
    have hrd := sm2.tup (sm.tup (hds k r e hr0 he))
    have hq2 := sm2 _ _ hq0
    have elt := tree.lt e (List.mem_of_getElem? he)
    refine ⟨t, _, rfl, SqT.of upd_same, rfl, _, _, rfl, _, _, rfl, ⟨r, _, rfl, hrd, rfl, _, _, rfl, _, _, rfl, rfl, rfl, ?_⟩⟩
    refine ⟨_, rfl, _, rfl, q0, L, n, rank, Rk side k, e.1, rfl, hq2, u, Rk.tr, Rk.rf, elt.1, fun L1 ra u1 hra rta _ => ?_⟩
    refine ⟨_, rfl, _, rfl, q0, L1, n, rank, Rk side k, e.2, rfl, upd_same, u1, Rk.tr, Rk.rf, elt.2, fun L2 rb u2 hrb rtb ro2 => ?_⟩
    rw [upd_upd]
    refine ⟨_, rfl, _, rfl, rfl, _, rfl, ?_⟩
    have nab : ra ≠ rb := fun z => ring_no s1 he hra (z ▸ hrb)
    show if decide (V.int (ra : Int) = V.int (rb : Int)) = true then _ else _
    rw [dec_ne (by omega)]
    refine iteF ?_
    have rta2 := ro2 ra rta
    refine ⟨_, rfl, _, rfl, _, rfl, _, _, _, ra, rfl, rfl, upd_same, ixN_nat (by rw [nv_len]; exact get_lt rta2), ?_⟩
    rw [upd_upd, nv_set]
    exact ⟨_, _, _, _, _, _, _, rfl, (sm.trans sm2).at nq, upd_same, u2.union s1 s2 he hra hrb rta2 rtb⟩
  · rintro σ H1 ⟨L, rank, y2, y3, y4, y5, y6, rfl, sm, hq0, u⟩
    exact q H1 sm
end
end K5

namespace K5
open PySem PySem.Spec PyProof.Rows L2
def spNeedRoom (K : PySem.W.Frag) : Sp := fun vs H Q _ => ∃ (a : Addr) (ds : List (Nat × Nat)) (x : Int), vs = [.ref a, .int x] ∧ HouseAt K H a ds ∧ 0 ≤ x ∧ x < ds.length + 1 ∧ Q .non H
def spNeedDoor (K : PySem.W.Frag) : Sp := fun vs H Q _ => ∃ (a : Addr) (ds : List (Nat × Nat)) (x : Int), vs = [.ref a, .int x] ∧ HouseAt K H a ds ∧ 0 ≤ x ∧ x < ds.length ∧ Q .non H
section
variable {P : Program} {w : World} {K : PySem.W.Frag}
      {mg : Str → Option Value} {base : Heap}
theorem ok_check_house (T : Bl mg) (D : Def K mg "check_house" s_check_house) (C_is_door : Cal P w K mg base "is_door" ["value", "count"] 3 (spDoor K)) (C_first_ring : Cal P w K mg base "first_ring" ["doors"] 2 (spRing K)) :
    Cal P w K mg base "check_house" ["value"] 4 (spRing K) := by
  refine D.ok sc_check_house (fun _ _ _ _ _ _ us hl => match us, hl with | [_], _ => rfl) (fun vs H Q E h => ?_) (fun f cdv A outer s H vs Q E hr h => ?_)
  · obtain ⟨a, ds, n, rfl, _⟩ := h
    rfl
  obtain ⟨a, ds, n, rfl, hH, tree, hn, q⟩ := h
  obtain ⟨rs, hrs, hlen, hds⟩ := id hH
  have hdn := tree.len
  obtain ⟨f_is_door, fd_is_door, g_is_door, k_is_door, b_is_door, G_is_door⟩ := C_is_door
  obtain ⟨f_first_ring, fd_first_ring, g_first_ring, k_first_ring, b_first_ring, G_first_ring⟩ := C_first_ring
  refine ⟨_, (pss_cons (ps_if (pt_not (pt_val (pe_callB call_isi (by rfl) T.isinstance (by decide +kernel) (pa_cons (pv 0) (pa_cons (pe_bltn (v := .ty "tuple") (u := .type "tuple") (by rfl) T.tuple (by decide +kernel) rfl) pa_nil))))) (pss_one (ps_ret (pe_tup (pa_cons pe_str pa_nil)))) pss_nil)
    (pss_cons (ps_for PassesOwn.never rfl (pi_enumT (by rfl) T.enumerate (pa_cons (pv 0) pa_nil)) (pg_tup (n := 2) rfl (pgs_cons (pg_name (i := 1) sc_check_house.nd rfl (.inl rfl)) (pgs_cons (pg_name (i := 2) sc_check_house.nd rfl (.inl rfl)) pgs_nil)))
    (pss_one (ps_if (pt_not (pt_val (pe_call G_is_door (hr.mono (by decide)) (by rfl) g_is_door k_is_door b_is_door .nil pass0 (pa_cons (pv 2) (pa_cons (pe_op op_add (pe_callB call_len_seq (by rfl) T.len PySem.boot_len (pa_cons (pv 0) pa_nil)) pe_int) pa_nil))))) (pss_one (ps_ret (pe_tup (pa_cons pe_str (pa_cons (pv 1) pa_nil))))) pss_nil)))
    (pss_cons (ps_set (i := 3) sc_check_house.nd rfl (.inl rfl) (pe_call G_first_ring (hr.mono (by decide)) (by rfl) g_first_ring k_first_ring b_first_ring .nil pass0 (pa_cons (pv 0) pa_nil)))
    (pss_cons (ps_if (pt_cmpR op_notN (pv 3) pe_non (nomark _)) (pss_one (ps_ret (pe_tup (pa_cons pe_str (pa_cons (pv 3) pa_nil))))) pss_nil)
    (pss_one (ps_ret pe_non)))))), ?_⟩
  refine ⟨_, rfl, _, _, _, _, _, rfl, .ty _, ty_tup hrs, kit_ty (r := true) (by decide +kernel), _, rfl, iteF ?_⟩
  refine ⟨_, rfl, a, _, rfl, hrs, ?_⟩
  refine for_it (walk_enumT (K := K) (a := a) (xs := rs.map V.ref)) (fun k σ H1 => ∃ y1 y2 y3, σ = [some (.ref a), y1, y2, y3] ∧ Same H H1)
    ⟨_, _, _, rfl, Same.refl _⟩ (fun i σ H1 _ ⟨_, _, _, _, sm⟩ => sm.tup hrs) ?_ ?_
  · rintro k x σ H1 H2 hk ⟨y1, y2, y3, rfl, sm⟩ ⟨t, x1, x2, rfl, nt, rfl, ex1, ex2⟩
    cases ex1
    have hk' : k < ds.length := by
      rw [List.length_map, hlen] at hk
      exact hk
    obtain ⟨e, he⟩ : ∃ e, ds[k]? = some e := get_of rfl hk'
    obtain ⟨r, hr0⟩ : ∃ r, rs[k]? = some r := get_of hlen hk'
    have ex2' : V.ref r = x2 := by
      have ex2 : (rs.map V.ref)[k]? = some x2 := ex2
      rw [List.getElem?_map, hr0] at ex2
      exact Option.some.inj ex2
    subst ex2'
    have sm2 : Same H1 (upd H1 t (.tup [.int (k : Nat), .ref r])) := Same.upd nt
    have sm3 := sm.trans sm2
    have elt := tree.lt e (List.mem_of_getElem? he)
    obtain ⟨side, s1, s2⟩ := tree.side
    have ene : e.1 ≠ e.2 := fun z => s1 k e he (by rw [z])
    refine ⟨t, _, rfl, SqT.of upd_same, rfl, _, _, rfl, _, _, rfl, rfl, ?_⟩
    refine ⟨_, rfl, _, rfl, _, _, rfl, .inr (sm3.tup hrs), _, _, rfl, rfl, ?_⟩
    refine ⟨r, e.1, e.2, _, rfl, sm3.tup (hds k r e hr0 he), ?_, ?_, by omega, _, rfl, iteF ⟨_, _, _, rfl, sm3⟩⟩
    · rw [List.length_map, hlen]; omega
    · rw [List.length_map, hlen]; omega
  · rintro σ H1 ⟨y1, y2, y3, rfl, sm⟩
    refine ⟨_, rfl, a, ds, n, rfl, hH.same sm, tree, hn, fun H2 sm2 => ?_⟩
    refine ⟨_, rfl, rfl, _, rfl, iteF ?_⟩
    exact q H2 (sm.trans sm2)
theorem ok_need_house (T : Bl mg) (D : Def K mg "need_house" s_need_house) (C_check_house : Cal P w K mg base "check_house" ["value"] 4 (spRing K)) : Cal P w K mg base "need_house" ["house"] 5 (spRing K) := by
  refine D.ok sc_need_house (fun _ _ _ _ _ _ us hl => match us, hl with | [_], _ => rfl) (fun vs H Q E h => ?_) (fun f cdv A outer s H vs Q E hr h => ?_)
  · obtain ⟨a, ds, n, rfl, _⟩ := h
    rfl
  obtain ⟨a, ds, n, rfl, hH, tree, hn, q⟩ := h
  obtain ⟨f_check_house, fd_check_house, g_check_house, k_check_house, b_check_house, G_check_house⟩ := C_check_house
  refine ⟨_, (pss_cons (ps_set (i := 1) sc_need_house.nd rfl (.inl rfl) (pe_call G_check_house (hr.mono (by decide)) (by rfl) g_check_house k_check_house b_check_house .nil pass0 (pa_cons (pv 0) pa_nil)))
    (pss_one (ps_if (pt_cmpR op_notN (pv 1) pe_non (nomark _)) pss_never pss_nil))), ?_⟩
  refine ⟨_, rfl, a, ds, n, rfl, hH, tree, hn, fun H2 sm2 => ⟨_, rfl, rfl, _, rfl, iteF ?_⟩⟩
  exact q H2 sm2
end
end K5

namespace K5
open PySem PySem.Spec PyProof.Rows L2
/-- a list at q of pairs of numbers, each a tuple -/
def PairsAt (H : Hp) (q : Addr) (l : List (Nat × Nat)) : Prop :=
  ∃ ts : List Addr, H q = some (.lst (ts.map V.ref)) ∧ ts.length = l.length ∧ ∀ (i : Nat) (t : Addr) (e : Nat × Nat), ts[i]? = some t → l[i]? = some e → H t = some (.tup [.int e.1, .int e.2])
theorem PairsAt.same {H H' : Hp} {q : Addr} {l} (h : PairsAt H q l) (s : Same H H') : PairsAt H' q l := by
  obtain ⟨ts, h1, h2, h3⟩ := h
  exact ⟨ts, s _ _ h1, h2, fun i t e a b => s _ _ (h3 i t e a b)⟩
theorem ne_lt {H : Hp} {a b : Addr} {xs ys : List V} (h : H a = some (.lst xs)) (h' : H b = some (.tup ys)) : b ≠ a := ne_of h' h (by intro z; cases z)
/-- what stands aside of q keeps -/
theorem PairsAt.aside {H H' : Hp} {q p : Addr} {l} {xs : List V} (h : PairsAt H q l) (hp : H p = some (.lst xs)) (ne : q ≠ p) (s : But p H H') : PairsAt H' q l := by
  obtain ⟨ts, h1, h2, h3⟩ := h
  exact ⟨ts, s _ _ ne h1, h2, fun i t e a b => s _ _ (ne_lt hp (h3 i t e a b)) (h3 i t e a b)⟩
theorem PairsAt.push {H H' : Hp} {q t : Addr} {l : List (Nat × Nat)} {ts : List Addr} {d y : Nat} (h1 : H q = some (.lst (ts.map V.ref))) (h2 : ts.length = l.length) (h3 : ∀ (i : Nat) (t : Addr) (e : Nat × Nat), ts[i]? = some t → l[i]? = some e → H t = some (.tup [.int e.1, .int e.2]))
    (s : But q H H') (hq : H' q = some (.lst (ts.map V.ref ++ [.ref t]))) (ht : H' t = some (.tup [.int (d : Int), .int (y : Int)])) : PairsAt H' q (l ++ [(d, y)]) := by
  refine ⟨ts ++ [t], by rw [hq, List.map_append]; rfl, by simp [h2], fun i t' e a b => ?_⟩
  by_cases hi : i < ts.length
  · rw [List.getElem?_append_left hi] at a
    rw [List.getElem?_append_left (by omega)] at b
    have := h3 i t' e a b
    exact s _ _ (ne_lt h1 this) this
  · have hlt := get_lt a
    rw [List.length_append, List.length_singleton] at hlt
    have ei : i = ts.length := by omega
    subst ei
    rw [List.getElem?_append_right (Nat.le_refl _), Nat.sub_self] at a
    rw [h2, List.getElem?_append_right (Nat.le_refl _), Nat.sub_self] at b
    cases a
    cases b
    exact ht
/-- the rows of exits: a list each -/
def Rows (H : Hp) (ps : List Addr) (ex : Nat → List (Nat × Nat)) : Prop := ∀ (x : Nat) (q : Addr), ps[x]? = some q → PairsAt H q (ex x)
theorem Rows.same {H H' : Hp} {ps ex} (h : Rows H ps ex) (s : Same H H') : Rows H' ps ex := fun x q e => (h x q e).same s
theorem Rows.push {H : Hp} {ps : List Addr} {ex : Nat → List (Nat × Nat)} (R : Rows H ps ex) (nd : ps.Nodup) {x : Nat} {q t : Addr} (hq : ps[x]? = some q) (nt : H t = none) {d y : Nat} {xs : List V} (hx : H q = some (.lst xs)) :
    Rows (upd (upd H t (.tup [.int (d : Int), .int (y : Int)])) q (.lst (xs ++ [.ref t]))) ps (fun z => if z = x then ex z ++ [(d, y)] else ex z) := by
  have s1 : But q H (upd (upd H t (.tup [.int (d : Int), .int (y : Int)])) q (.lst (xs ++ [.ref t]))) := fun b o ne e => by
    rw [upd_ne ne, upd_ne (ne_of_none e nt)]
    exact e
  have ntq : t ≠ q := (ne_of_none hx nt).symm
  intro z q' hz
  by_cases e : z = x
  · subst e
    rw [hq] at hz
    cases hz
    obtain ⟨ts, h1, h2, h3⟩ := R z q hq
    rw [hx] at h1
    cases h1
    simp only [if_true]
    exact .push (ts := ts) hx h2 h3 s1 upd_same (by rw [upd_ne ntq, upd_same])
  · simp only [if_neg e]
    have ne : q' ≠ q := fun z' => by
      subst z'
      exact e (nd_ix nd hz hq)
    exact (R z q' hz).aside hx ne s1
theorem ex_mem {ds : List (Nat × Nat)} {ex : Nat → List (Nat × Nat)} {k : Nat} {e : Nat × Nat} (he : ds[k]? = some e) (ne : e.1 ≠ e.2) (mem : ∀ x d y, (d, y) ∈ ex x ↔ d < k ∧ Joins ds d x y) (x d y : Nat) :
    (d, y) ∈ (if x = e.2 then (if x = e.1 then ex x ++ [(k, e.2)] else ex x) ++ [(k, e.1)] else if x = e.1 then ex x ++ [(k, e.2)] else ex x) ↔ d < k + 1 ∧ Joins ds d x y := by
  have J : Joins ds k x y ↔ (x = e.1 ∧ y = e.2) ∨ (x = e.2 ∧ y = e.1) := by
    unfold Joins
    rw [he]
    constructor
    · rintro (h | h)
      · have h := Option.some.inj h
        exact .inl ⟨by rw [h], by rw [h]⟩
      · have h := Option.some.inj h
        exact .inr ⟨by rw [h], by rw [h]⟩
    · rintro (⟨rfl, rfl⟩ | ⟨rfl, rfl⟩)
      · exact .inl rfl
      · exact .inr rfl
  have step : (d < k + 1 ∧ Joins ds d x y) ↔ (d < k ∧ Joins ds d x y) ∨ (d = k ∧ ((x = e.1 ∧ y = e.2) ∨ (x = e.2 ∧ y = e.1))) := by
    constructor
    · rintro ⟨h1, h2⟩
      by_cases q : d = k
      · subst q
        exact .inr ⟨rfl, J.mp h2⟩
      · exact .inl ⟨by omega, h2⟩
    · rintro (⟨h1, h2⟩ | ⟨rfl, h2⟩)
      · exact ⟨by omega, h2⟩
      · exact ⟨by omega, J.mpr h2⟩
  rw [step, ← mem x d y]
  by_cases h2 : x = e.2
  · have h1 : ¬ x = e.1 := fun z => ne (z.symm.trans h2)
    rw [if_pos h2, if_neg h1, List.mem_append, List.mem_singleton, Prod.mk.injEq]
    simp [h1, h2, ne.symm]
  · rw [if_neg h2]
    by_cases h1 : x = e.1
    · rw [if_pos h1, List.mem_append, List.mem_singleton, Prod.mk.injEq]
      simp [h1, ne]
    · rw [if_neg h1]
      simp [h1, h2]
theorem small3k {n : Nat} (h : n ≤ 3000) : n < sizeLine := Nat.lt_of_le_of_lt h (by decide)
theorem lcYes {A B : Hp → Prop} {σ : L2.St} {H : Hp} (h : A H) : tYes σ H (fun b H3 => if b = true then A H3 else B H3) := by
  show (if true = true then A H else B H)
  rw [if_pos rfl]
  exact h
def spExits (K : PySem.W.Frag) : Sp := fun vs H Q _ => ∃ (a : Addr) (ds : List (Nat × Nat)) (n : Nat), vs = [.ref a] ∧ HouseAt K H a ds ∧ Tree n ds ∧ n ≤ 1000 ∧
  ∀ (H' : Hp) (p : Addr) (ps : List Addr) (ex : Nat → List (Nat × Nat)), Same H H' → H p = none → H' p = some (.lst (ps.map V.ref)) → ps.length = n → Rows H' ps ex → (∀ x d y, (d, y) ∈ ex x ↔ Joins ds d x y) → Q (.ref p) H'
section
variable {P : Program} {w : World} {K : PySem.W.Frag}
      {mg : Str → Option Value} {base : Heap}
end
end K5

namespace K5
open PySem PySem.Spec PyProof.Rows L2
/-- a dict whose keys are numbers: key by key -/
def DicR {β : Type} (VR : V → β → Prop) (kvs : List (Key × V)) (ks : List (Nat × β)) : Prop := Paired (fun (kv : Key × V) (k : Nat × β) => kv.1 = Sum.inl (k.1 : Int) ∧ VR kv.2 k.2) kvs ks
section
variable {β : Type} {VR VR' : V → β → Prop}
theorem DicR.mono {kvs ks} (h : DicR VR kvs ks) (f : ∀ v o, VR v o → VR' v o) : DicR VR' kvs ks := Paired.mapP h fun a b x => ⟨x.1, f _ _ x.2⟩
theorem DicR.len {kvs ks} (h : DicR VR kvs ks) : kvs.length = ks.length := Paired.length h
theorem DicR.no : ∀ {kvs : List (Key × V)} {ks : List (Nat × β)} {x : Nat}, DicR VR kvs ks → x ∉ ks.map Prod.fst → valV kvs (Sum.inl (x : Int)) = none
  | _, _, x, .nil, _ => rfl
  | kv :: _, k :: _, x, .cons h t, hx => by
    have hne : ¬ kv.1 = Sum.inl (x : Int) := fun z => by
      rw [h.1] at z
      have z := Sum.inl.inj z
      exact hx (List.mem_map.mpr ⟨k, List.mem_cons_self, by omega⟩)
    rw [valV_neg hne]
    exact DicR.no t fun m => hx (by rw [List.map_cons]; exact List.mem_cons_of_mem _ m)
theorem DicR.val : ∀ {kvs : List (Key × V)} {ks : List (Nat × β)} {x : Nat}, DicR VR kvs ks → x ∈ ks.map Prod.fst → ∃ v o, valV kvs (Sum.inl (x : Int)) = some v ∧ (x, o) ∈ ks ∧ VR v o
  | _, _, x, .nil, hx => by cases hx
  | kv :: _, k :: _, x, .cons h t, hx => by
    by_cases e : k.1 = x
    · refine ⟨kv.2, k.2, valV_pos (by rw [h.1, e]), ?_, h.2⟩
      rw [← e]
      exact List.mem_cons_self
    · have hne : ¬ kv.1 = Sum.inl (x : Int) := fun z => by
        rw [h.1] at z
        have z := Sum.inl.inj z
        omega
      rw [List.map_cons] at hx
      obtain ⟨v, o, a, b, c⟩ := DicR.val t ((List.mem_cons.mp hx).resolve_left fun q => e q.symm)
      exact ⟨v, o, by rw [valV_neg hne]; exact a, List.mem_cons_of_mem _ b, c⟩
theorem DicR.snoc : ∀ {kvs : List (Key × V)} {ks : List (Nat × β)} {x : Nat} {v : V} {o : β}, DicR VR kvs ks → VR v o → DicR VR (kvs ++ [(Sum.inl (x : Int), v)]) (ks ++ [(x, o)])
  | _, _, x, v, o, .nil, r => .cons ⟨rfl, r⟩ .nil
  | _, _, x, v, o, .cons h t, r => .cons h (DicR.snoc t r)
theorem DicR.add {kvs : List (Key × V)} {ks : List (Nat × β)} {x : Nat} {v : V} {o : β} (h : DicR VR kvs ks) (hx : x ∉ ks.map Prod.fst) (r : VR v o) : DicR VR (putK kvs (Sum.inl (x : Int)) v) (ks ++ [(x, o)]) := by
  rw [putK_new v (h.no hx)]
  exact h.snoc r
end
/-- a way's step: None, or a tuple (door, next room) -/
def WayR (H : Hp) (v : V) (o : Option (Nat × Nat)) : Prop := match o with
  | none => v = .non
  | some e => ∃ t, v = .ref t ∧ H t = some (.tup [.int (e.1 : Int), .int (e.2 : Int)])
theorem WayR.keep {H H' : Hp} {v o} (h : WayR H v o) (s : ∀ t xs, H t = some (.tup xs) → H' t = some (.tup xs)) : WayR H' v o := by
  cases o with
  | none => exact h
  | some e =>
    obtain ⟨t, a, b⟩ := h
    exact ⟨t, a, s _ _ b⟩
theorem snoc_nil {α : Type} (l : List α) : l = [] ∨ ∃ r x, l = r ++ [x] := by
  by_cases h : l = []
  · exact .inl h
  · exact .inr ⟨l.dropLast, l.getLast h, (List.dropLast_concat_getLast h).symm⟩
theorem mem_ofNat {d : Nat} {l : List Nat} : ((d : Int) ∈ l.map fun x : Nat => (x : Int)) ↔ d ∈ l := by
  constructor
  · intro h
    obtain ⟨x, hx, e⟩ := List.mem_map.mp h
    have : x = d := by omega
    exact this ▸ hx
  · intro h
    exact List.mem_map.mpr ⟨d, h, rfl⟩
theorem nv_int (l : List Nat) : nv l = (l.map fun x : Nat => (x : Int)).map V.int := by
  unfold nv
  rw [List.map_map]
  rfl
theorem nv_snoc (l : List Nat) (x : Nat) : nv (l ++ [x]) = nv l ++ [.int (x : Int)] := by
  unfold nv
  rw [List.map_append]
  rfl
/-- the dict and the list that the search writes; what stood ahead of them stands -/
structure WS (Hb H : Hp) (pw pq : Addr) (ks : List (Nat × Option (Nat × Nat))) (ws : List Nat) : Prop where
  sm : Same Hb H
  w : ∃ kvs, H pw = some (.dK kvs) ∧ DicR (WayR H) kvs ks
  q : H pq = some (.lst (nv ws))
  le : ws.length ≤ ks.length
theorem WS.ne {Hb H pw pq ks ws} (S : WS Hb H pw pq ks ws) : pw ≠ pq := by
  obtain ⟨kvs, h, _⟩ := S.w
  exact ne_of h S.q (by intro z; cases z)
theorem WS.setq {Hb H pw pq ks ws ws'} (S : WS Hb H pw pq ks ws) (nq : Hb pq = none) (hl : ws'.length ≤ ks.length) : WS Hb (upd H pq (.lst (nv ws'))) pw pq ks ws' := by
  obtain ⟨kvs, h, r⟩ := S.w
  refine ⟨S.sm.at nq, ⟨kvs, by rw [upd_ne S.ne]; exact h, r.mono fun v o x => x.keep fun t xs e => ?_⟩, upd_same, hl⟩
  rw [upd_ne (ne_lt S.q e)]
  exact e
theorem WS.add {Hb H pw pq ks ws} (S : WS Hb H pw pq ks ws) (nw : Hb pw = none) {t : Addr} (nt : H t = none) {kvs} (hk : H pw = some (.dK kvs)) (r : DicR (WayR H) kvs ks) {y d here : Nat} (ny : y ∉ ks.map Prod.fst) :
    WS Hb (upd (upd H t (.tup [.int (d : Int), .int (here : Int)])) pw (.dK (putK kvs (Sum.inl (y : Int)) (.ref t)))) pw pq (ks ++ [(y, some (d, here))]) ws := by
  have ntw : t ≠ pw := (ne_of_none hk nt).symm
  refine ⟨(S.sm.trans (Same.upd nt)).at nw, ⟨_, upd_same, (r.mono fun v o x => x.keep fun t' xs e => ?_).add ny ⟨t, rfl, by rw [upd_ne ntw, upd_same]⟩⟩, ?_, by rw [List.length_append]; exact Nat.le_trans S.le (Nat.le_add_right _ _)⟩
  · rw [upd_ne (ne_of e hk (by intro z; cases z)), upd_ne (ne_of_none e nt)]
    exact e
  · rw [upd_ne S.ne.symm, upd_ne (ne_of_none S.q nt)]
    exact S.q
def spWays (K : PySem.W.Frag) : Sp := fun vs H Q _ => ∃ (a sh : Addr) (ds : List (Nat × Nat)) (n room : Nat) (shut : List Nat), vs = [.ref a, .int (room : Int), .ref sh] ∧ HouseAt K H a ds ∧ Tree n ds ∧ n ≤ 1000 ∧ room < n ∧ SqL K H sh (nv shut) ∧ shut.length ≤ 1000 ∧
  ∀ (H' : Hp) (p : Addr) (kvs : List (Key × V)) (ks : List (Nat × Option (Nat × Nat))), Same H H' → H p = none → H' p = some (.dK kvs) → DicR (WayR H') kvs ks → Dfs n ds shut (ks.map Prod.fst) [] → Ptr ds shut room ks → room ∈ ks.map Prod.fst → Q (.ref p) H'
section
variable {P : Program} {w : World} {K : PySem.W.Frag}
      {mg : Str → Option Value} {base : Heap}
end
end K5

namespace K5
open PySem PySem.Spec PyProof.Rows L2
theorem bits29 {m : Int} (h0 : 0 < m) (h1 : m < 2 ^ 29) : ((Builtin.Int.intBits m : Nat) : Int) / 30 = 0 := by
  have h : Builtin.Int.intBits m ≤ 29 := by
    unfold Builtin.Int.intBits
    have hne : ¬ (m == 0) = true := fun z => by
      have := eq_of_beq z
      omega
    rw [if_neg hne]
    have : m.natAbs.log2 < 29 := (Nat.log2_lt (by omega)).mpr (by omega)
    omega
  omega
/-- a generator of draws: a list of three numbers, the third at most b -/
def GenAt (H : Hp) (g : Addr) (b : Nat) : Prop := ∃ x y z : Int, H g = some (.lst [.int x, .int y, .int z]) ∧ 0 ≤ x ∧ 0 ≤ z ∧ z ≤ (b : Int)
theorem GenAt.mono {H g b c} (h : GenAt H g b) (l : b ≤ c) : GenAt H g c := by
  obtain ⟨x, y, z, a, b, c, d⟩ := h
  exact ⟨x, y, z, a, b, c, by omega⟩
theorem GenAt.same {H H' g b} (h : GenAt H g b) (s : Same H H') : GenAt H' g b := by
  obtain ⟨x, y, z, a, b, c, d⟩ := h
  exact ⟨x, y, z, s _ _ a, b, c, d⟩
theorem GenAt.lst {H g b} (h : GenAt H g b) : ∃ xs, H g = some (.lst xs) := by
  obtain ⟨x, y, z, a, _⟩ := h
  exact ⟨_, a⟩
def spCell (K : PySem.W.Frag) : Sp := fun vs H Q _ => ∃ (a : Addr) (ns : List Int) (i : Int), vs = [.ref a, .int i] ∧ SqL K H a (ns.map V.int) ∧ 0 ≤ i ∧ ∀ z : Int, Q (.int z) H
def spHash : Sp := fun vs H Q _ => ∃ x i : Int, vs = [.int x, .int i] ∧ 0 ≤ i ∧ i < 2 ^ 62 ∧ ∀ z : Int, Q (.int z) H
def spGen (K : PySem.W.Frag) : Sp := fun vs H Q _ => ∃ (a : Addr) (ns : List Int) (i : Nat), vs = [.ref a, .int (i : Int)] ∧ SqL K H a (ns.map V.int) ∧ i ≤ 1000 ∧ ∀ (H' : Hp) (g : Addr), Same H H' → H g = none → GenAt H' g 1000000 → Q (.ref g) H'
def spRand : Sp := fun vs H Q _ => ∃ (g : Addr) (b m : Nat), vs = [.ref g, .int (m : Int)] ∧ GenAt H g b ∧ 0 < m ∧ m < 2 ^ 29 ∧ b < 2 ^ 60 ∧ ∀ (H' : Hp) (v : Nat), But g H H' → GenAt H' g (b + 1) → v < m → Q (.int (v : Int)) H'
section
variable {P : Program} {w : World} {K : PySem.W.Frag}
      {mg : Str → Option Value} {base : Heap}
theorem ok_cell (T : Bl mg) (D : Def K mg "_law_cell" s_l_cell) : Cal P w K mg base "_law_cell" ["_law_script", "_law_at"] 1 (spCell K) := by
  refine D.ok sc_l_cell (fun _ _ _ _ _ _ us hl => match us, hl with | [_, _], _ => rfl) (fun vs H Q E h => ?_) (fun f cdv A outer s H vs Q E hr h => ?_)
  · obtain ⟨a, ns, i, rfl, _⟩ := h
    rfl
  obtain ⟨a, ns, i, rfl, hs, hi, q⟩ := h
  refine ⟨_, (pss_cons (ps_if (pt_cmpR op_lt (pv 1) (pe_callB call_len_seq (by rfl) T.len PySem.boot_len (pa_cons (pv 0) pa_nil)) (nomark _)) (pss_one (ps_ret (pe_ix ix_list (pv 0) (pv 1) (fun _ _ => rfl)))) pss_nil)
    (pss_one (ps_ret pe_int))), ?_⟩
  refine ⟨_, rfl, _, rfl, _, _, rfl, .inl hs, _, _, rfl, rfl, _, rfl, ite2 (fun h => ?_) (fun h => ?_)⟩
  · have h := of_decide_eq_true h
    rw [List.length_map] at h
    obtain ⟨k, rfl⟩ : ∃ k : Nat, i = (k : Int) := ⟨i.toNat, by omega⟩
    have hk : k < ns.length := by omega
    refine ⟨_, rfl, _, rfl, _, _, _, _, rfl, rfl, hs, atI_nat (v := V.int ns[k]) (by rw [List.getElem?_map, List.getElem?_eq_getElem hk]; rfl), q _⟩
  · exact q 0
theorem ok_hash (T : Bl mg) (D : Def K mg "_law_hash" s_l_hash) : Cal P w K mg base "_law_hash" ["_law_seed", "_law_at"] 1 spHash := by
  refine D.ok sc_l_hash (fun _ _ _ _ _ _ us hl => match us, hl with | [_, _], _ => rfl) (fun vs H Q E h => ?_) (fun f cdv A outer s H vs Q E hr h => ?_)
  · obtain ⟨x, i, rfl, _⟩ := h
    rfl
  obtain ⟨x, i, rfl, h0, h1, q⟩ := h
  refine ⟨_, (pss_cons (ps_set (i := 2) sc_l_hash.nd rfl (.inl rfl) (pe_op op_mod (pe_op op_add (pe_op op_add (pe_op op_add (pe_op op_mul (pv 0) pe_int) (pe_op op_mul (pe_op op_mul pe_int (pv 1)) (pv 1))) (pv 1)) pe_int) pe_int))
    (pss_cons (ps_set (i := 2) sc_l_hash.nd rfl (.inl rfl) (pe_op op_mod (pe_op op_add (pe_op op_mul (pv 2) (pv 2)) pe_int) pe_int))
    (pss_one (ps_ret (pe_op op_mod (pe_op op_mul (pv 2) pe_int) pe_int))))), ?_⟩
  refine ⟨_, rfl, _, _, rfl, rfl, .inr (by decide), _, rfl, _, _, rfl, rfl, .inl (by decide), _, rfl, _, _, rfl, rfl, .inr ⟨by omega, by omega⟩, _, _, rfl, rfl, _, rfl, _, _, rfl, rfl, _, _, rfl, rfl, _, _, rfl, rfl, (by show (0 : Int) < 2147483647; decide), ?_⟩
  have b0 := Int.emod_nonneg (x * 1103515245 + 7919 * i * i + i + 1) (show (2147483647 : Int) ≠ 0 by decide)
  have b1 := Int.emod_lt_of_pos (x * 1103515245 + 7919 * i * i + i + 1) (show (0 : Int) < 2147483647 by decide)
  generalize (x * 1103515245 + 7919 * i * i + i + 1) % 2147483647 = u at b0 b1
  refine ⟨_, rfl, _, rfl, _, _, rfl, rfl, .inl ⟨by omega, by omega⟩, _, _, rfl, rfl, _, _, rfl, rfl, (by show (0 : Int) < 2147483629; decide), ?_⟩
  refine ⟨_, rfl, _, _, rfl, rfl, .inr (by decide), _, _, rfl, rfl, (by show (0 : Int) < 2147483587; decide), q _⟩
theorem ok_generator (T : Bl mg) (D : Def K mg "_law_generator" s_l_generator) (C_l_cell : Cal P w K mg base "_law_cell" ["_law_script", "_law_at"] 1 (spCell K)) : Cal P w K mg base "_law_generator" ["_law_script", "_law_at"] 2 (spGen K) := by
  refine D.ok sc_l_generator (fun _ _ _ _ _ _ us hl => match us, hl with | [_, _], _ => rfl) (fun vs H Q E h => ?_) (fun f cdv A outer s H vs Q E hr h => ?_)
  · obtain ⟨a, ns, i, rfl, _⟩ := h
    rfl
  obtain ⟨a, ns, i, rfl, hs, hi, q⟩ := h
  obtain ⟨f_l_cell, fd_l_cell, g_l_cell, k_l_cell, b_l_cell, G_l_cell⟩ := C_l_cell
  refine ⟨_, (pss_cons (ps_set (i := 2) sc_l_generator.nd rfl (.inl rfl) (pe_call G_l_cell (hr.mono (by decide)) (by rfl) g_l_cell k_l_cell b_l_cell .nil pass0 (pa_cons (pv 0) (pa_cons (pv 1) pa_nil))))
    (pss_one (ps_ret (pe_lst (pa_cons (pe_op op_mod (pe_callB (call_max2 rfl) (by rfl) T.max (by decide +kernel) (pa_cons (pe_op op_sub (pv 2) (pe_op op_pow pe_int pe_int)) (pa_cons pe_int pa_nil))) (pe_op op_powX (pe_op op_pow pe_int pe_int) pe_int)) (pa_cons (pe_op op_mod (pv 2) pe_int) (pa_cons (pe_op op_mul pe_int (pv 1)) pa_nil))))))), ?_⟩
  refine ⟨_, rfl, _, rfl, a, ns, _, rfl, hs, by omega, fun z => ?_⟩
  have hpos : (0 : Int) < (10 ^ (60 : Int).toNat) ^ (10 : Int).toNat := by decide +kernel
  refine ⟨_, rfl, _, _, rfl, rfl, ⟨by decide, by decide, by decide⟩, _, _, rfl, rfl, _, _, rfl, _, _, rfl, rfl, ⟨by decide, by decide, by decide⟩, _, _, rfl, rfl, (by decide +kernel), _, _, rfl, rfl, hpos, _, rfl, _, _, rfl, rfl, (by show (0 : Int) < 2147483647; decide), _, rfl, _, _, rfl, rfl, .inl (by decide), by show 3 ≤ sizeLine; decide, fun g ng => ?_⟩
  refine q _ g (Same.upd ng) ng ⟨_, _, _, upd_same, Int.emod_nonneg _ (by omega), by omega, by omega⟩
theorem ok_random (T : Bl mg) (D : Def K mg "_law_random" s_l_random) (C_l_hash : Cal P w K mg base "_law_hash" ["_law_seed", "_law_at"] 1 spHash) : Cal P w K mg base "_law_random" ["_law_generator_here", "_law_bound"] 2 spRand := by
  refine D.ok sc_l_random (fun _ _ _ _ _ _ us hl => match us, hl with | [_, _], _ => rfl) (fun vs H Q E h => ?_) (fun f cdv A outer s H vs Q E hr h => ?_)
  · obtain ⟨g, b, m, rfl, _⟩ := h
    rfl
  obtain ⟨g, b, m, rfl, ⟨x, y, z, hg, hx, hz, hzb⟩, hm, hm2, hb, q⟩ := h
  obtain ⟨f_l_hash, fd_l_hash, g_l_hash, k_l_hash, b_l_hash, G_l_hash⟩ := C_l_hash
  refine ⟨_, (pss_cons (ps_if (pt_cmpR op_gt (pe_ix ix_list (pv 0) pe_int (fun _ _ => rfl)) pe_int (nomark _)) (pss_cons (ps_set (i := 2) sc_l_random.nd rfl (.inl rfl) (pe_op op_mod (pe_ix ix_list (pv 0) pe_int (fun _ _ => rfl)) (pv 1)))
    (pss_cons (ps_asg (pe_op op_fdiv (pe_ix ix_list (pv 0) pe_int (fun _ _ => rfl)) (pv 1)) (pg_sub (pv 0) pe_int set_list))
    (pss_one (ps_ret (pv 2))))) pss_nil)
    (pss_cons (ps_set (i := 2) sc_l_random.nd rfl (.inl rfl) pe_int)
    (pss_cons (ps_for PassesOwn.never rfl (pi_range1 rfl T.range (pa_cons (pe_op op_add pe_int (pe_op op_fdiv (pe_bits (pv 1)) pe_int)) pa_nil)) (pg_name (i := 3) sc_l_random.nd rfl (.inl rfl))
    (pss_cons (ps_asg (pe_op op_add (pe_ix ix_list (pv 0) pe_int (fun _ _ => rfl)) pe_int) (pg_sub (pv 0) pe_int set_list))
    (pss_one (ps_set (i := 2) sc_l_random.nd rfl (.inl rfl) (pe_op op_add (pe_op op_mul (pv 2) pe_int) (pe_call G_l_hash (hr.mono (by decide)) (by rfl) g_l_hash k_l_hash b_l_hash .nil pass0 (pa_cons (pe_ix ix_list (pv 0) pe_int (fun _ _ => rfl)) (pa_cons (pe_ix ix_list (pv 0) pe_int (fun _ _ => rfl)) pa_nil))))))))
    (pss_one (ps_ret (pe_op op_mod (pv 2) (pv 1))))))), ?_⟩
  have hm' : (0 : Int) < (m : Int) := by omega
  refine ⟨_, rfl, _, _, _, V.int x, rfl, rfl, SqL.of hg, atI_nat (j := 0) (v := V.int x) rfl, _, _, rfl, rfl, _, rfl, ite2 (fun h => ?_) (fun h => ?_)⟩
  · refine ⟨_, rfl, _, _, _, V.int x, rfl, rfl, SqL.of hg, atI_nat (j := 0) (v := V.int x) rfl, _, rfl, _, _, rfl, rfl, hm', ?_⟩
    refine ⟨_, rfl, _, _, _, V.int x, rfl, rfl, SqL.of hg, atI_nat (j := 0) (v := V.int x) rfl, _, rfl, _, _, rfl, rfl, ⟨hm', by omega⟩, ?_⟩
    refine ⟨_, rfl, g, _, _, 0, rfl, rfl, hg, rfl, ?_⟩
    refine ⟨_, rfl, ?_⟩
    have e : x % (m : Int) = ((x % (m : Int)).toNat : Int) := (Int.toNat_of_nonneg (Int.emod_nonneg _ (by omega))).symm
    have l := Int.emod_lt_of_pos x hm'
    show Q (.int (x % (m : Int))) _
    rw [e]
    refine q _ _ (fun c o n e => by rw [upd_ne n]; exact e) ⟨x / (m : Int), y, z, upd_same, Int.ediv_nonneg hx (by omega), hz, by omega⟩ (by omega)
  · have eb : (1 : Int) + ((Builtin.Int.intBits (m : Int) : Nat) : Int) / 30 = 1 := by
      rw [bits29 hm' (by omega)]
      rfl
    refine ⟨_, rfl, _, rfl, _, _, rfl, rfl, ⟨by decide, by decide⟩, _, _, rfl, rfl, (1 : Int), congrArg (fun z => [V.int z]) eb, by decide, by decide, ?_⟩
    refine for_range (lo := 0) (n := 1) (fun i σ H1 => ∃ (r : Int) (y3 : Option V) (z1 : Int), σ = [some (.ref g), some (.int (m : Int)), some (.int r), y3] ∧ But g H H1 ∧ H1 g = some (.lst [.int x, .int y, .int z1]) ∧ 0 ≤ z1 ∧ z1 ≤ (b : Int) + (i : Int))
      ⟨0, _, z, rfl, fun _ _ _ e => e, hg, hz, by omega⟩ ?_ ?_
    · rintro i σ H1 hi ⟨r, y3, z1, rfl, bt, hg1, hz1, hz2⟩
      refine ⟨_, rfl, _, _, _, V.int z1, rfl, rfl, SqL.of hg1, atI_nat (j := 2) (v := V.int z1) rfl, _, _, rfl, rfl, _, rfl, g, _, _, 2, rfl, rfl, hg1, rfl, ?_⟩
      have hg2 : (upd H1 g (.lst [.int x, .int y, .int (z1 + 1)])) g = some (.lst [.int x, .int y, .int (z1 + 1)]) := upd_same
      refine ⟨_, rfl, _, _, rfl, rfl, .inr (by decide), _, rfl, _, _, _, V.int y, rfl, rfl, SqL.of hg2, atI_nat (j := 1) (v := V.int y) rfl, _, rfl, _, _, _, V.int (z1 + 1), rfl, rfl, SqL.of hg2, atI_nat (j := 2) (v := V.int (z1 + 1)) rfl, _, _, rfl, by omega, by omega, fun u => ?_⟩
      refine ⟨_, _, rfl, rfl, ?_⟩
      exact ⟨_, _, z1 + 1, rfl, bt.upd _, hg2, by omega, by omega⟩
    · rintro σ H1 ⟨r, y3, z1, rfl, bt, hg1, hz1, hz2⟩
      refine ⟨_, rfl, _, rfl, _, _, rfl, rfl, hm', ?_⟩
      have e : r % (m : Int) = ((r % (m : Int)).toNat : Int) := (Int.toNat_of_nonneg (Int.emod_nonneg _ (by omega))).symm
      have l := Int.emod_lt_of_pos r hm'
      show Q (.int (r % (m : Int))) _
      rw [e]
      exact q _ _ bt ⟨x, y, z1, hg1, hx, hz1, by omega⟩ (by omega)
end
end K5

namespace K5
open PySem PySem.Spec PyProof.Rows L2
theorem cons_erase {α : Type} : ∀ (l : List α) (i : Nat) (y : α), l[i]? = some y → (y :: l.eraseIdx i).Perm l
  | [], i, y, h => by simp at h
  | a :: r, 0, y, h => by
    have e : a = y := Option.some.inj h
    subst e
    exact List.Perm.refl _
  | a :: r, i + 1, y, h => ((List.Perm.swap a y _).trans ((cons_erase r i y h).cons a))
theorem _root_.L2.But.seq {K : PySem.W.Frag} {g a : Addr} {H H' : Hp} {xs : List V} (s : But g H H') (n : a ≠ g) (h : SqL K H a xs) : SqL K H' a xs := by
  rcases h with (h | ⟨o, h⟩) | h
  · exact .inl (.inl (s _ _ n h))
  · exact .inl (.inr ⟨o, s _ _ n h⟩)
  · exact .inr h
theorem _root_.L2.But.at {g p : Addr} {H H' : Hp} (s : But g H H') (n : H p = none) (o : HO) : But g H (upd H' p o) := fun b u ne e => by
  rw [upd_ne (ne_of_none e n)]
  exact s b u ne e
theorem _root_.L2.But.refl (g : Addr) (H : Hp) : But g H H := fun _ _ _ e => e
theorem _root_.L2.But.free {g p : Addr} {H H' : Hp} (s : But g H H') (ne : p ≠ g) (h : H' p = none) : H p = none := by
  cases q : H p with
  | none => rfl
  | some o =>
    rw [s p o ne q] at h
    cases h
theorem GenAt.at {H g b p o} (h : GenAt H g b) (n : p ≠ g) : GenAt (upd H p o) g b := by
  obtain ⟨x, y, z, a, r⟩ := h
  exact ⟨x, y, z, by rw [upd_ne n.symm]; exact a, r⟩
theorem GenAt.ne {H g b p} (h : GenAt H g b) (n : H p = none) : p ≠ g := by
  obtain ⟨x, y, z, a, r⟩ := h
  exact (ne_of_none a n).symm
theorem seq_nat {v n : Nat} (h : v < n) : seqIndex? (v : Int) n = some v := (ixN_seq (ixN_nat h)).1
def spShuf (K : PySem.W.Frag) : Sp := fun vs H Q _ => ∃ (g a : Addr) (b : Nat) (xs : List V), vs = [.ref g, .ref a] ∧ GenAt H g b ∧ SqL K H a xs ∧ a ≠ g ∧ xs.length ≤ 1000 ∧ b < 2 ^ 59 ∧
  ∀ (H' : Hp) (q : Addr) (ys : List V), But g H H' → GenAt H' g (b + xs.length) → H q = none → H' q = some (.lst ys) → ys.Perm xs → Q (.ref q) H'
section
variable {P : Program} {w : World} {K : PySem.W.Frag}
      {mg : Str → Option Value} {base : Heap}
theorem ok_shuffled (T : Bl mg) (D : Def K mg "_law_shuffled" s_l_shuffled) (C_l_random : Cal P w K mg base "_law_random" ["_law_generator_here", "_law_bound"] 2 spRand) : Cal P w K mg base "_law_shuffled" ["_law_generator_here", "_law_items"] 3 (spShuf K) := by
  refine D.ok sc_l_shuffled (fun _ _ _ _ _ _ us hl => match us, hl with | [_, _], _ => rfl) (fun vs H Q E h => ?_) (fun f cdv A outer s H vs Q E hr h => ?_)
  · obtain ⟨g, a, b, xs, rfl, _⟩ := h
    rfl
  obtain ⟨g, a, b, xs, rfl, hg, hs, nag, hxs, hb, q⟩ := h
  obtain ⟨f_l_random, fd_l_random, g_l_random, k_l_random, b_l_random, G_l_random⟩ := C_l_random
  refine ⟨_, (pss_cons (ps_set (i := 2) sc_l_shuffled.nd rfl (.inr rfl) (pe_callTy call_list_of (by rfl) T.list (by decide +kernel) (pa_cons (pv 1) pa_nil)))
    (pss_one (ps_ret (pe_lc (own := [("_law_item", 3)]) (g := gName 3)  (te := (tBM K "list" rPopAt (tVar 2) (tCons (tCall spRand [] E0 (tCons (tVar 0) (tCons (tCB (fun xs H Q => ∃ p ys, xs = [V.ref p] ∧ (SqL K H p ys ∨ SqT K H p ys) ∧ Q (.int ys.length) H) (tCons (tVar 2) tNil)) tNil))) tNil))) rfl sc_l_shuffled.nd (pi_list (pv 1)) (blkOk_by (N := N_l_shuffled) (sc := defScope s_l_shuffled) (own := [("_law_item", 3)]) (by decide +kernel)) (fun _ _ _ _ _ => (pg_name (i := 3) sc_l_shuffled.nd rfl (.inl rfl) (.inr rfl))) (fun _ _ _ _ _ => pts_nil) (fun _ _ _ _ _ => (pe_bm PySem.F.plainAttrs_list PySem.F.slot_list_pop PySem.F.type_list_pop mt_popAt (pv 2) (pa_cons (pe_call G_l_random (hr.mono (by decide)) (by rfl) g_l_random k_l_random b_l_random .nil pass0 (pa_cons (pv 0) (pa_cons (pe_callB call_len_seq (by rfl) T.len PySem.boot_len (pa_cons (pv 2) pa_nil)) pa_nil))) pa_nil))))))), ?_⟩
  refine ⟨_, rfl, a, xs, rfl, .inl hs, fun pp npp => ?_⟩
  have s1 := Same.upd (o := .lst xs) npp
  have h1 : (upd H pp (.lst xs)) pp = some (.lst xs) := upd_same
  have g1 := hg.same s1
  generalize upd H pp (.lst xs) = H1 at s1 h1 g1
  refine ⟨_, rfl, a, rfl, ⟨_, s1.seq hs⟩, fun pd npd => ?_⟩
  have ndp : pd ≠ pp := (ne_of_none h1 npd).symm
  have ndg : pd ≠ g := g1.ne npd
  have npg : pp ≠ g := hg.ne npp
  refine lc_it (walk_list (K := K) (a := a) (xs := xs)) (fun i H2 => ∃ acc pl, But g H H2 ∧ GenAt H2 g (b + i) ∧ H2 pp = some (.lst pl) ∧ H2 pd = some (.lst acc) ∧ (acc ++ pl).Perm xs ∧ acc.length = i)
    ⟨[], xs, s1.but.at (s1.free npd) _, g1.at ndg, by rw [upd_ne ndp.symm]; exact h1, upd_same, List.Perm.refl _, rfl⟩ (fun i H2 _ ⟨_, _, bt, _⟩ => bt.seq nag hs) ?_ ?_
  · rintro i v H2 H3 hi ⟨acc, pl, bt, g2, h2, hd2, pm, hl⟩ ⟨rfl, ex⟩
    have hlen := pm.length_eq
    rw [List.length_append] at hlen
    refine ⟨rfl, lcYes ?_⟩
    refine ⟨_, rfl, .inl ⟨rfl, _, SqL.of h2⟩, _, rfl, _, rfl, pp, pl, rfl, .inl (SqL.of h2), ?_⟩
    refine ⟨g, b + i, pl.length, rfl, g2, by omega, by omega, by omega, fun H4 u bt4 g4 hu => ?_⟩
    have h4 := bt4 _ _ npg h2
    have hd4 := bt4 _ _ ndg hd2
    obtain ⟨y, hy⟩ : ∃ y, pl[u]? = some y := ⟨_, List.getElem?_eq_getElem hu⟩
    refine ⟨pp, pl, _, u, y, rfl, rfl, h4, by omega, by omega, seq_nat hu, hy, ?_⟩
    refine ⟨acc, by rw [upd_ne ndp]; exact hd4, small1000 (by omega), acc ++ [y], pl.eraseIdx u, ?_, ?_, ?_, upd_same, ?_, by rw [List.length_append, hl]; rfl⟩
    · exact (((bt.trans bt4).at npp _).at (s1.free npd) _)
    · exact (g4.at npg).at ndg
    · rw [upd_ne ndp.symm, upd_same]
    · rw [List.append_assoc]
      exact (List.Perm.append_left acc (cons_erase pl u y hy)).trans pm
  · rintro H2 ⟨acc, pl, bt, g2, h2, hd2, pm, hl⟩
    have hlen := pm.length_eq
    rw [List.length_append] at hlen
    have : pl = [] := List.eq_nil_of_length_eq_zero (by omega)
    subst this
    rw [List.append_nil] at pm
    exact q H2 pd acc bt g2 (s1.free npd) hd2 pm
end
end K5

namespace K5
open PySem PySem.Spec PyProof.Rows L2
/-! ### moves and states, as plain mathematics -/
/-- person, start, end -/
abbrev Mv := Nat × Nat × Nat
/-- where each person is; whom each door bars -/
abbrev S2 := List Nat × List Nat
theorem Tree.one_door {n ds} (T : Tree n ds) {d c x y : Nat} (j : Joins ds d x y) (k : Joins ds c x y) : d = c := by
  obtain ⟨side, s1, s2⟩ := T.side
  refine Classical.byContradiction fun h => ?_
  exact side_join s1 j (side_other s2 k h)
/-- the door between two rooms -/
def dix (ds : List (Nat × Nat)) (x y : Nat) : Nat := ((List.range ds.length).find? fun d => decide (ds[d]? = some (x, y) ∨ ds[d]? = some (y, x))).getD 0
theorem joins_lt {ds : List (Nat × Nat)} {d x y : Nat} (j : Joins ds d x y) : d < ds.length := by
  rcases j with j | j
  · exact get_lt j
  · exact get_lt j
theorem dix_is {n ds} (T : Tree n ds) {d x y : Nat} (j : Joins ds d x y) : dix ds x y = d := by
  unfold dix
  cases h : (List.range ds.length).find? fun d => decide (ds[d]? = some (x, y) ∨ ds[d]? = some (y, x)) with
  | none =>
    have := List.find?_eq_none.mp h d (List.mem_range.mpr (joins_lt j))
    exact absurd (decide_eq_true (show ds[d]? = some (x, y) ∨ ds[d]? = some (y, x) from j)) this
  | some c =>
    have k : ds[c]? = some (x, y) ∨ ds[c]? = some (y, x) := by
      have := List.find?_some h
      exact of_decide_eq_true this
    exact T.one_door k j
/-- a move that names a person and a door -/
def VM (ds : List (Nat × Nat)) (P : Nat) (m : Mv) : Prop := m.1 < P ∧ ∃ d, Joins ds d m.2.1 m.2.2
/-- why the move is not possible -/
def why (ds : List (Nat × Nat)) (S : S2) (m : Mv) : Option String :=
  if S.1.getD m.1 0 ≠ m.2.1 then some "away" else if S.2.getD (dix ds m.2.1 m.2.2) 0 = m.1 then some "barred" else none
def nxt (ds : List (Nat × Nat)) (S : S2) (m : Mv) : S2 := (S.1.set m.1 m.2.2, S.2.set (dix ds m.2.1 m.2.2) m.1)
def runs (ds : List (Nat × Nat)) : Nat → S2 → List Mv → (Nat × String) ⊕ S2
  | _, S, [] => .inr S
  | i, S, m :: r => match why ds S m with
    | some w => .inl (i, w)
    | none => runs ds (i + 1) (nxt ds S m) r
structure StOk (n : Nat) (ds : List (Nat × Nat)) (S : S2) : Prop where
  one : 1 ≤ S.1.length
  few : S.1.length ≤ 10
  rooms : ∀ x ∈ S.1, x < n
  doors : S.2.length = ds.length
  bars : ∀ y ∈ S.2, y < S.1.length
theorem StOk.nxt {n ds S m} (T : Tree n ds) (h : StOk n ds S) (v : VM ds S.1.length m) : StOk n ds (nxt ds S m) := by
  obtain ⟨v1, d, j⟩ := v
  obtain ⟨_, l2, _, _⟩ := j.lt T
  have e1 : (K5.nxt ds S m).1.length = S.1.length := List.length_set
  refine ⟨by rw [e1]; exact h.one, by rw [e1]; exact h.few, fun x hx => ?_, by rw [show (K5.nxt ds S m).2.length = S.2.length from List.length_set]; exact h.doors, fun y hy => ?_⟩
  · rcases List.mem_or_eq_of_mem_set hx with q | q
    · exact h.rooms x q
    · rw [q]; exact l2
  · rw [e1]
    rcases List.mem_or_eq_of_mem_set hy with q | q
    · exact h.bars y q
    · rw [q]; exact v1
theorem nxt_len {ds S m} : (nxt ds S m).1.length = S.1.length := List.length_set
theorem runs_drop {ds : List (Nat × Nat)} {S : S2} {ms : List Mv} {k : Nat} {m : Mv} (h : ms[k]? = some m) : runs ds k S (ms.drop k) = match why ds S m with
    | some w => .inl (k, w)
    | none => runs ds (k + 1) (nxt ds S m) (ms.drop (k + 1)) := by
  have hk := get_lt h
  have e : ms.drop k = m :: ms.drop (k + 1) := by
    rw [List.drop_eq_getElem_cons hk]
    rw [List.getElem?_eq_getElem hk] at h
    rw [Option.some.inj h]
  rw [e]
  rfl
/-- the moves that are possible -/
def Can (ds : List (Nat × Nat)) (S : S2) (m : Mv) : Prop := m.1 < S.1.length ∧ S.1[m.1]? = some m.2.1 ∧ ∃ d, Joins ds d m.2.1 m.2.2 ∧ S.2[d]? ≠ some m.1
theorem Can.vm {ds S m} (h : Can ds S m) : VM ds S.1.length m := ⟨h.1, h.2.2.choose, h.2.2.choose_spec.1⟩
theorem getD_of {l : List Nat} {i x : Nat} (h : l[i]? = some x) : l.getD i 0 = x := by
  rw [List.getD_eq_getElem?_getD, h]
  rfl
theorem Can.why {n ds S m} (T : Tree n ds) (h : Can ds S m) (o : StOk n ds S) : why ds S m = none := by
  obtain ⟨h1, h2, d, j, h3⟩ := h
  unfold K5.why
  rw [if_neg (by rw [getD_of h2]; simp), dix_is T j]
  have hd : d < S.2.length := by rw [o.doors]; exact joins_lt j
  obtain ⟨b, hb⟩ : ∃ b, S.2[d]? = some b := get_of rfl hd
  rw [getD_of hb, if_neg]
  intro z
  exact h3 (by rw [hb, z])
def mcode (m : Mv) : Int := TS.code 64 [(m.1 : Int), (m.2.1 : Int), (m.2.2 : Int)]
theorem mcode_is (m : Mv) : mcode m = (m.1 : Int) * 4096 + (m.2.1 : Int) * 64 + (m.2.2 : Int) := by
  unfold mcode
  show (m.1 : Int) * 64 ^ 2 + ((m.2.1 : Int) * 64 ^ 1 + ((m.2.2 : Int) * 64 ^ 0 + 0)) = _
  rw [show (64 : Int) ^ 2 = 4096 by decide, show (64 : Int) ^ 1 = 64 by decide, show (64 : Int) ^ 0 = 1 by decide]
  omega
def Sm (m : Mv) : Prop := m.1 < 64 ∧ m.2.1 < 64 ∧ m.2.2 < 64
theorem mcode_inj {m m' : Mv} (a : Sm m) (b : Sm m') (e : mcode m = mcode m') : m = m' := by
  obtain ⟨x, y, z⟩ := m
  obtain ⟨x', y', z'⟩ := m'
  rw [mcode_is, mcode_is] at e
  unfold Sm at a b
  simp only at e a b
  have h1 : x = x' := by omega
  have h2 : y = y' := by omega
  have h3 : z = z' := by omega
  rw [h1, h2, h3]
/-- the moves with P, each once, ascending -/
structure Canon (l : List Mv) (P : Mv → Prop) : Prop where
  mem : ∀ m, m ∈ l ↔ P m
  sm : ∀ m ∈ l, Sm m
  asc : l.Pairwise fun a b => mcode a < mcode b
theorem asc_unique : ∀ (l l' : List Mv), (l.Pairwise fun a b => mcode a < mcode b) → (l'.Pairwise fun a b => mcode a < mcode b) → (∀ m, m ∈ l ↔ m ∈ l') → (∀ m ∈ l, Sm m) → l = l'
  | [], [], _, _, _, _ => rfl
  | [], b :: r, _, _, h, _ => by
    have := (h b).mpr List.mem_cons_self
    cases this
  | a :: r, [], _, _, h, _ => by
    have := (h a).mp List.mem_cons_self
    cases this
  | a :: r, b :: r', p, p', h, sm => by
    obtain ⟨p1, p2⟩ := List.pairwise_cons.mp p
    obtain ⟨q1, q2⟩ := List.pairwise_cons.mp p'
    have e : a = b := by
      rcases List.mem_cons.mp ((h a).mp List.mem_cons_self) with e | h1
      · exact e
      · rcases List.mem_cons.mp ((h b).mpr List.mem_cons_self) with e | h2
        · exact e.symm
        · have := p1 b h2
          have := q1 a h1
          omega
    subst e
    have : r = r' := by
      refine asc_unique r r' p2 q2 (fun m => ?_) fun m hm => sm m (List.mem_cons_of_mem _ hm)
      constructor
      · intro hm
        rcases List.mem_cons.mp ((h m).mp (List.mem_cons_of_mem _ hm)) with e | h1
        · subst e
          have := p1 m hm
          omega
        · exact h1
      · intro hm
        rcases List.mem_cons.mp ((h m).mpr (List.mem_cons_of_mem _ hm)) with e | h1
        · subst e
          have := q1 m hm
          omega
        · exact h1
    rw [this]
theorem Canon.unique {l l' P} (a : Canon l P) (b : Canon l' P) : l = l' := asc_unique l l' a.asc b.asc (fun m => (a.mem m).trans (b.mem m).symm) a.sm
/-! ### how they stand in the heap -/
def tI (m : Mv) : List V := [.int (m.1 : Int), .int (m.2.1 : Int), .int (m.2.2 : Int)]
def TL (H : Hp) (ts : List Addr) (l : List Mv) : Prop := ts.length = l.length ∧ ∀ (i : Nat) (t : Addr) (m : Mv), ts[i]? = some t → l[i]? = some m → H t = some (.tup (tI m))
def TrisAt (H : Hp) (q : Addr) (l : List Mv) : Prop := ∃ ts : List Addr, H q = some (.lst (ts.map V.ref)) ∧ TL H ts l
def StateAt (K : PySem.W.Frag) (H : Hp) (a : Addr) (S : S2) : Prop := ∃ r b : Addr, SqT K H a [.ref r, .ref b] ∧ SqT K H r (nv S.1) ∧ SqT K H b (nv S.2)
section
variable {K : PySem.W.Frag} {H H' : Hp} {a g q t : Addr} {S : S2} {l : List Mv} {ts : List Addr} {m : Mv}
theorem StateAt.same (h : StateAt K H a S) (s : Same H H') : StateAt K H' a S := by
  obtain ⟨r, b, h1, h2, h3⟩ := h
  exact ⟨r, b, s.tup h1, s.tup h2, s.tup h3⟩
theorem StateAt.but {xs : List V} (h : StateAt K H a S) (hg : H g = some (.lst xs)) (s : But g H H') : StateAt K H' a S := by
  obtain ⟨r, b, h1, h2, h3⟩ := h
  exact ⟨r, b, s.tup hg h1, s.tup hg h2, s.tup hg h3⟩
theorem TL.same (h : TL H ts l) (s : Same H H') : TL H' ts l := ⟨h.1, fun i t m x y => s _ _ (h.2 i t m x y)⟩
theorem TL.but {xs : List V} (h : TL H ts l) (hg : H g = some (.lst xs)) (s : But g H H') : TL H' ts l := ⟨h.1, fun i t m x y => s _ _ (ne_lt hg (h.2 i t m x y)) (h.2 i t m x y)⟩
theorem TL.nil : TL H [] [] := ⟨rfl, fun i t m x => by simp at x⟩
theorem TL.append {ts2 : List Addr} {l2 : List Mv} (h : TL H ts l) (h2 : TL H ts2 l2) : TL H (ts ++ ts2) (l ++ l2) := by
  refine ⟨by rw [List.length_append, List.length_append, h.1, h2.1], fun i t m x y => ?_⟩
  by_cases hi : i < ts.length
  · rw [List.getElem?_append_left hi] at x
    rw [List.getElem?_append_left (by rw [← h.1]; exact hi)] at y
    exact h.2 i t m x y
  · rw [List.getElem?_append_right (by omega)] at x
    rw [List.getElem?_append_right (by rw [← h.1]; omega), ← h.1] at y
    exact h2.2 _ t m x y
theorem TL.one (h : H t = some (.tup (tI m))) : TL H [t] [m] := by
  refine ⟨rfl, fun i t' m' x y => ?_⟩
  match i with
  | 0 => cases x; cases y; exact h
  | i + 1 => simp at x
theorem TL.take (h : TL H ts l) (k : Nat) : TL H (ts.take k) (l.take k) := by
  refine ⟨by rw [List.length_take, List.length_take, h.1], fun i t m x y => ?_⟩
  rw [List.getElem?_take] at x y
  split at x
  · rename_i hi
    rw [if_pos hi] at y
    exact h.2 i t m x y
  · cases x
theorem TL.drop (h : TL H ts l) (k : Nat) : TL H (ts.drop k) (l.drop k) := by
  refine ⟨by rw [List.length_drop, List.length_drop, h.1], fun i t m x y => ?_⟩
  rw [List.getElem?_drop] at x y
  exact h.2 _ t m x y
theorem TrisAt.same (h : TrisAt H q l) (s : Same H H') : TrisAt H' q l := by
  obtain ⟨ts, h1, h2⟩ := h
  exact ⟨ts, s _ _ h1, h2.same s⟩
theorem TL.perm (h : TL H ts l) {ys : List V} (p : ys.Perm (ts.map V.ref)) : ∃ (ts' : List Addr) (l' : List Mv), ys = ts'.map V.ref ∧ l'.Perm l ∧ TL H ts' l' := by
  have e1 : ts.map V.ref = (ts.zip l).map (fun z => V.ref z.1) := by
    have e : (ts.zip l).map (fun z => V.ref z.1) = ((ts.zip l).map Prod.fst).map V.ref := by rw [List.map_map]; rfl
    rw [e, List.map_fst_zip (by rw [h.1]; omega)]
  rw [e1] at p
  obtain ⟨zs, ez, pz⟩ := perm_of_map _ _ _ p
  refine ⟨zs.map Prod.fst, zs.map Prod.snd, by rw [ez, List.map_map]; rfl, ?_, by simp, fun i t e a b => ?_⟩
  · have q := pz.map Prod.snd
    rw [List.map_snd_zip (by rw [h.1]; omega)] at q
    exact q
  · rw [List.getElem?_map] at a b
    cases hz : zs[i]? with
    | none => rw [hz] at a; cases a
    | some z =>
      rw [hz] at a b
      cases a
      cases b
      have hm := pz.mem_iff.mp (List.mem_of_getElem? hz)
      obtain ⟨j, hj⟩ := List.mem_iff_getElem?.mp hm
      rw [List.getElem?_zip_eq_some] at hj
      exact h.2 j _ _ hj.1 hj.2
/-- sorted's answer over such moves -/
theorem sorted_canon {ys : List V} {P : Mv → Prop} (h : TL H ts l) (mem : ∀ m, m ∈ l ↔ P m) (sm : ∀ m ∈ l, Sm m) (nd : l.Nodup) (pm : ys.Perm (ts.map V.ref))
    (asc : ys.Pairwise fun x y => ∀ n m, TupI K H x n → TupI K H y m → TS.code 64 n ≤ TS.code 64 m) : ∃ (ts' : List Addr) (l' : List Mv), ys = ts'.map V.ref ∧ Canon l' P ∧ TL H ts' l' := by
  obtain ⟨ts', l', rfl, pl, tl⟩ := h.perm pm
  have nd' := pl.nodup_iff.mpr nd
  refine ⟨ts', l', rfl, ⟨fun m => pl.mem_iff.trans (mem m), fun m hm => sm m (pl.mem_iff.mp hm), ?_⟩, tl⟩
  rw [List.pairwise_iff_getElem]
  intro i j hi hj hij
  have hi' : i < ts'.length := by rw [tl.1]; exact hi
  have hj' : j < ts'.length := by rw [tl.1]; exact hj
  have a1 := List.pairwise_iff_getElem.mp asc i j (by rw [List.length_map]; exact hi') (by rw [List.length_map]; exact hj') hij
  rw [List.getElem_map, List.getElem_map] at a1
  have t1 := tl.2 i ts'[i] l'[i] (List.getElem?_eq_getElem hi') (List.getElem?_eq_getElem hi)
  have t2 := tl.2 j ts'[j] l'[j] (List.getElem?_eq_getElem hj') (List.getElem?_eq_getElem hj)
  have le : mcode l'[i] ≤ mcode l'[j] := a1 _ _ ⟨_, rfl, SqT.of t1⟩ ⟨_, rfl, SqT.of t2⟩
  have ne : mcode l'[i] ≠ mcode l'[j] := by
    intro e
    have := mcode_inj (sm _ (pl.mem_iff.mp (List.getElem_mem hi))) (sm _ (pl.mem_iff.mp (List.getElem_mem hj))) e
    exact absurd this (List.pairwise_iff_getElem.mp nd' i j hi hj hij)
  omega
theorem tup_of {m : Mv} (h : H t = some (.tup (tI m))) (sm : Sm m) : ∃ ns, TupI K H (.ref t) ns ∧ ns.length = 3 ∧ TS.Bd 64 ns := by
  refine ⟨[(m.1 : Int), (m.2.1 : Int), (m.2.2 : Int)], ⟨t, rfl, SqT.of h⟩, rfl, ?_⟩
  obtain ⟨h1, h2, h3⟩ := sm
  intro x hx
  simp only [List.mem_cons, List.not_mem_nil,
        or_false] at hx
  rcases hx with rfl | rfl | rfl <;> omega
end
/-! ### as data -/
def dM (m : Mv) : PyData := .tuple [.int (m.1 : Int), .int (m.2.1 : Int), .int (m.2.2 : Int)]
def dMs (l : List Mv) : PyData := .list (l.map dM)
def dIs (l : List Nat) : List PyData := (l.map fun x : Nat => (x : Int)).map PyData.int
def dS (S : S2) : PyData := .tuple [.tuple (dIs S.1), .tuple (dIs S.2)]
def dO : (Nat × String) ⊕ S2 → PyData
  | .inl (i, w) => .list [.int (i : Int), .tuple [.str (Str.ofString w)]]
  | .inr S => dS S
theorem dIs_lay : ∀ l : List Nat, PyData.canLayAll0 (dIs l) = true
  | [] => by simp [dIs, PyData.canLayAll0]
  | x :: r => by
    have := dIs_lay r
    unfold dIs at this ⊢
    simp only [List.map_cons, PyData.canLayAll0, PyData.canLay0, this, Bool.and_true]
theorem dIs_depth : ∀ l : List Nat, PyData.depthAll (dIs l) ≤ 1
  | [] => by simp [dIs, PyData.depthAll]
  | x :: r => by
    have := dIs_depth r
    unfold dIs at this ⊢
    simp only [List.map_cons, PyData.depthAll,
          PyData.depth]
    omega
theorem dM_lay (z : Mv) : (dM z).canLay0 = true := by simp [dM, PyData.canLay0, PyData.canLayAll0]
theorem dM_depth (z : Mv) : (dM z).depth ≤ 2 := by simp [dM, PyData.depth, PyData.depthAll]
theorem dMs_lay : ∀ zs : List Mv, PyData.canLayAll0 (zs.map dM) = true
  | [] => by simp [PyData.canLayAll0]
  | z :: zs => by simp [PyData.canLayAll0, dM_lay z, dMs_lay zs]
theorem dMs_depth : ∀ zs : List Mv, PyData.depthAll (zs.map dM) ≤ 2
  | [] => by simp [PyData.depthAll]
  | z :: zs => by
    have h1 := dMs_depth zs
    have h2 := dM_depth z
    simp only [List.map_cons, PyData.depthAll]
    omega
theorem shaped_mk {d : PyData} (h1 : d.canLay0 = true) (h2 : d.depth ≤ 64) : SeqAt.shaped d = true := by
  show (d.canLay0 && decide (d.depth ≤ 64)) = true
  rw [h1, decide_eq_true h2]
  rfl
theorem dMs_shaped (l : List Mv) : SeqAt.shaped (dMs l) = true := by
  have h := dMs_depth l
  refine shaped_mk ?_ ?_
  · simp only [dMs, PyData.canLay0]
    exact dMs_lay l
  · simp only [dMs, PyData.depth]
    omega
theorem dS_shaped (S : S2) : SeqAt.shaped (dS S) = true := by
  have h1 := dIs_depth S.1
  have h2 := dIs_depth S.2
  have h3 := dIs_lay S.1
  have h4 := dIs_lay S.2
  refine shaped_mk ?_ ?_
  · simp only [dS, PyData.canLay0, PyData.canLayAll0, h3, h4, Bool.and_true]
  · simp only [dS, PyData.depth, PyData.depthAll]
    omega
theorem dO_shaped {o : (Nat × String) ⊕ S2} (h : ∀ i w, o = .inl (i, w) → w = "away" ∨ w = "barred") : SeqAt.shaped (dO o) = true := by
  match o, h with
  | .inl (i, w), h =>
    have hw : PyData.strOk (Str.ofString w) = true := by
      rcases h i w rfl with rfl | rfl
      · decide +kernel
      · decide +kernel
    refine shaped_mk ?_ ?_
    · simp only [dO, PyData.canLay0, PyData.canLayAll0, hw, Bool.and_true]
    · simp only [dO, PyData.depth, PyData.depthAll]
      omega
  | .inr S, _ => exact dS_shaped S
theorem why_word {ds S m w} (h : why ds S m = some w) : w = "away" ∨ w = "barred" := by
  unfold why at h
  split at h
  · exact .inl (Option.some.inj h).symm
  · split at h
    · exact .inr (Option.some.inj h).symm
    · cases h
theorem runs_word {ds : List (Nat × Nat)} : ∀ {ms : List Mv} {k : Nat} {S : S2} {i : Nat} {w : String}, runs ds k S ms = .inl (i, w) → w = "away" ∨ w = "barred"
  | [], k, S, i, w, h => by
    rw [runs] at h
    cases h
  | m :: r, k, S, i, w, h => by
    rw [runs] at h
    split at h
    · rename_i w' e
      cases h
      exact why_word e
    · exact runs_word h
theorem d_refl {d : PyData} (h : SeqAt.shaped d = true) : PyData.eqv d d = true := SeqAt.eqv_refl _ (SeqAt.canLay_of_shaped h)
section
variable {K : PySem.W.Frag} {H : Hp} {a q t : Addr} {S : S2} {l : List Mv} {ts : List Addr} {m : Mv}
theorem dp_is : ∀ l : List Nat, DpAll K H (nv l) (dIs l)
  | [] => .nil
  | x :: r => .cons (.int _) (dp_is r)
theorem dp_S (h : StateAt K H a S) : Dp K H (.ref a) (dS S) := by
  obtain ⟨r, b, h1, h2, h3⟩ := h
  exact .tup h1 (.cons (.tup h2 (dp_is _)) (.cons (.tup h3 (dp_is _)) .nil))
theorem dp_M (h : H t = some (.tup (tI m))) : Dp K H (.ref t) (dM m) := .tup (SqT.of h) (.cons (.int _) (.cons (.int _) (.cons (.int _) .nil)))
theorem dp_Ms : ∀ (ts : List Addr) (l : List Mv), TL H ts l → DpAll K H (ts.map V.ref) (l.map dM)
  | [], [], _ => .nil
  | [], m :: l, h => by have := h.1; simp at this
  | t :: ts, [], h => by have := h.1; simp at this
  | t :: ts, m :: l, h => .cons (dp_M (h.2 0 t m rfl rfl)) (dp_Ms ts l ⟨by have := h.1; simpa using this, fun i t' m' x y => h.2 (i + 1) t' m' x y⟩)
theorem dp_Tris (h : TrisAt H q l) : Dp K H (.ref q) (dMs l) := by
  obtain ⟨ts, h1, h2⟩ := h
  exact .lst (SqL.of h1) (dp_Ms ts l h2)
end
end K5

namespace K5
open PySem PySem.Spec PyProof.Rows L2
/-- steps (door, start, end) from a to b -/
def Trl (ds : List (Nat × Nat)) : Nat → List Mv → Nat → Prop
  | a, [], b => a = b
  | a, m :: r, b => m.2.1 = a ∧ Joins ds m.1 m.2.1 m.2.2 ∧ Trl ds m.2.2 r b
theorem Trl.snoc {ds : List (Nat × Nat)} {d y z : Nat} : ∀ {r : List Mv} {a : Nat}, Trl ds a r y → Joins ds d y z → Trl ds a (r ++ [(d, y, z)]) z
  | [], a, h, j => by
    have h : a = y := h
    subst h
    exact ⟨rfl, j, rfl⟩
  | m :: r, a, h, j => ⟨h.1, h.2.1, Trl.snoc h.2.2 j⟩
theorem Trl.walk {ds : List (Nat × Nat)} : ∀ {r : List Mv} {a b : Nat}, Trl ds a r b → Walk ds a (r.map Prod.fst) b
  | [], a, b, h => by
    have h : a = b := h
    subst h
    exact .nil _
  | m :: r, a, b, h => by
    obtain ⟨h1, h2, h3⟩ := h
    rw [h1] at h2
    exact .cons h2 (Trl.walk h3)
theorem nv_some {L : List Nat} {k : Nat} {x : V} (h : (nv L)[k]? = some x) : ∃ v, L[k]? = some v ∧ x = .int (v : Int) := by
  unfold nv at h
  rw [List.getElem?_map] at h
  cases e : L[k]? with
  | none => rw [e] at h; cases h
  | some v => rw [e] at h; exact ⟨v, rfl, (Option.some.inj h).symm⟩
/-- the doors that bar p -/
def barr (S : S2) (p : Nat) : List Nat := (List.range S.2.length).filter fun d => decide (S.2[d]? = some p)
theorem mem_barr {S : S2} {p d : Nat} : d ∈ barr S p ↔ S.2[d]? = some p := by
  unfold barr
  rw [List.mem_filter, List.mem_range]
  constructor
  · rintro ⟨_, h⟩
    exact of_decide_eq_true h
  · intro h
    exact ⟨get_lt h, decide_eq_true h⟩
theorem barr_len {S : S2} {p : Nat} : (barr S p).length ≤ S.2.length := by
  have := List.length_filter_le (fun d => decide (S.2[d]? = some p)) (List.range S.2.length)
  rw [List.length_range] at this
  exact this
/-- the rooms that a search finds; each with its way back -/
structure Reg (n : Nat) (ds : List (Nat × Nat)) (shut : List Nat) (room : Nat) (ks : List (Nat × Option (Nat × Nat))) : Prop where
  df : Dfs n ds shut (ks.map Prod.fst) []
  pt : Ptr ds shut room ks
  rm : room ∈ ks.map Prod.fst
def spStepsT (K : PySem.W.Frag) : Sp := fun vs H Q _ => ∃ (p : Addr) (a n room : Nat) (ds : List (Nat × Nat)) (shut : List Nat) (kvs : List (Key × V)) (ks : List (Nat × Option (Nat × Nat))), vs = [.ref p, .int (a : Int)] ∧ H p = some (.dK kvs) ∧ DicR (WayR H) kvs ks ∧ Ptr ds shut room ks ∧
  Tree n ds ∧ ks.length ≤ 1000 ∧ a ∈ ks.map Prod.fst ∧ ∀ (H' : Hp) (q : Addr) (tr : List Mv), Same H H' → H q = none → TrisAt H' q tr → Trl ds a tr room → (tr.map Prod.fst).Nodup → (∀ m ∈ tr, m.1 ∉ shut) → tr.length ≤ 1000 → Q (.ref q) H'
def spSt (K : PySem.W.Frag) : Sp := fun vs H Q _ => ∃ (a s : Addr) (ds : List (Nat × Nat)) (n : Nat) (S : S2), vs = [.ref a, .ref s] ∧ HouseAt K H a ds ∧ Tree n ds ∧ n ≤ 1000 ∧ StateAt K H s S ∧ StOk n ds S ∧ ∀ H', Same H H' → Q .non H'
def spShape (K : PySem.W.Frag) : Sp := fun vs H Q _ => ∃ (a s : Addr) (ds : List (Nat × Nat)) (n : Nat) (S : S2), vs = [.ref a, .ref s] ∧ HouseAt K H a ds ∧ StateAt K H s S ∧ StOk n ds S ∧ Q (.bl true) H
def spPerson (K : PySem.W.Frag) : Sp := fun vs H Q _ => ∃ (s : Addr) (p n : Nat) (ds : List (Nat × Nat)) (S : S2), vs = [.ref s, .int (p : Int)] ∧ StateAt K H s S ∧ StOk n ds S ∧ p < S.1.length ∧ Q .non H
def spBarring (K : PySem.W.Frag) : Sp := fun vs H Q _ => ∃ (s : Addr) (p n : Nat) (ds : List (Nat × Nat)) (S : S2), vs = [.ref s, .int (p : Int)] ∧ StateAt K H s S ∧ StOk n ds S ∧ n ≤ 1000 ∧ ds.length < n ∧ ∀ (H' : Hp) (q : Addr), Same H H' → H q = none → H' q = some (.lst (nv (barr S p))) → Q (.ref q) H'
def spRegWays (K : PySem.W.Frag) : Sp := fun vs H Q _ => ∃ (a s : Addr) (p n : Nat) (ds : List (Nat × Nat)) (S : S2), vs = [.ref a, .ref s, .int (p : Int)] ∧ HouseAt K H a ds ∧ Tree n ds ∧ n ≤ 1000 ∧ StateAt K H s S ∧ StOk n ds S ∧ p < S.1.length ∧
  ∀ (H' : Hp) (q : Addr) (kvs : List (Key × V)) (ks : List (Nat × Option (Nat × Nat))), Same H H' → H q = none → H' q = some (.dK kvs) → DicR (WayR H') kvs ks → Reg n ds (barr S p) (S.1.getD p 0) ks → Q (.ref q) H'
def spRegion (K : PySem.W.Frag) : Sp := fun vs H Q _ => ∃ (a s : Addr) (p n : Nat) (ds : List (Nat × Nat)) (S : S2), vs = [.ref a, .ref s, .int (p : Int)] ∧ HouseAt K H a ds ∧ Tree n ds ∧ n ≤ 60 ∧ StateAt K H s S ∧ StOk n ds S ∧ p < S.1.length ∧
  ∀ (H' : Hp) (q : Addr) (L : List Nat) (ks : List (Nat × Option (Nat × Nat))), Same H H' → H q = none → H' q = some (.lst (nv L)) → Reg n ds (barr S p) (S.1.getD p 0) ks → L.Perm (ks.map Prod.fst) → L.Pairwise (· ≤ ·) → Q (.ref q) H'
/-- walk_to: None where the room lies outside, else the steps of the way there -/
def spWalkTo (K : PySem.W.Frag) : Sp := fun vs H Q _ => ∃ (a s : Addr) (p x n : Nat) (ds : List (Nat × Nat)) (S : S2), vs = [.ref a, .ref s, .int (p : Int), .int (x : Int)] ∧ HouseAt K H a ds ∧ Tree n ds ∧ n ≤ 1000 ∧ StateAt K H s S ∧ StOk n ds S ∧ p < S.1.length ∧ x < n ∧
  (∀ (H' : Hp) (ks : List (Nat × Option (Nat × Nat))), Same H H' → Reg n ds (barr S p) x ks → S.1.getD p 0 ∉ ks.map Prod.fst → Q .non H') ∧
  (∀ (H' : Hp) (q : Addr) (tr : List Mv), Same H H' → H q = none → TrisAt H' q (tr.map fun m => (p, m.2.1, m.2.2)) → Trl ds (S.1.getD p 0) tr x → (tr.map Prod.fst).Nodup → (∀ m ∈ tr, m.1 ∉ barr S p) → tr.length ≤ 1000 → Q (.ref q) H')
section
variable {P : Program} {w : World} {K : PySem.W.Frag}
      {mg : Str → Option Value} {base : Heap}
theorem ok_has_state_shape (T : Bl mg) (D : Def K mg "has_state_shape" s_has_state_shape) : Cal P w K mg base "has_state_shape" ["house", "value"] 1 (spShape K) := by
  refine D.ok sc_has_state_shape (fun _ _ _ _ _ _ us hl => match us, hl with | [_, _], _ => rfl) (fun vs H Q E h => ?_) (fun f cdv A outer s H vs Q E hr h => ?_)
  · obtain ⟨a, s, ds, n, S, rfl, _⟩ := h
    rfl
  obtain ⟨a, s, ds, n, S, rfl, ⟨rs, hrs, hlen, hds⟩, ⟨r, b, h1, h2, h3⟩, ok, q⟩ := h
  refine ⟨_, (pss_cons (ps_if (PW.pt (pw_or (pt_not (pt_val (pe_callB call_isi (by rfl) T.isinstance (by decide +kernel) (pa_cons (pv 1) (pa_cons (pe_bltn (v := .ty "tuple") (u := .type "tuple") (by rfl) T.tuple (by decide +kernel) rfl) pa_nil))))) (pw_or1 (pt_cmpR op_ne (pe_callB call_len_seq (by rfl) T.len PySem.boot_len (pa_cons (pv 1) pa_nil)) pe_int (nomark _))))) (pss_one (ps_ret pe_bl)) pss_nil)
    (pss_cons (ps_asg (pv 1) (pg_tup (n := 2) rfl (pgs_cons (pg_name (i := 2) sc_has_state_shape.nd rfl (.inl rfl)) (pgs_cons (pg_name (i := 3) sc_has_state_shape.nd rfl (.inl rfl)) pgs_nil))))
    (pss_cons (ps_if (PW.pt (pw_or (pt_not (pt_val (pe_callB call_isi (by rfl) T.isinstance (by decide +kernel) (pa_cons (pv 2) (pa_cons (pe_bltn (v := .ty "tuple") (u := .type "tuple") (by rfl) T.tuple (by decide +kernel) rfl) pa_nil))))) (pw_or1 (pt_not (pt_val (pe_callB call_isi (by rfl) T.isinstance (by decide +kernel) (pa_cons (pv 3) (pa_cons (pe_bltn (v := .ty "tuple") (u := .type "tuple") (by rfl) T.tuple (by decide +kernel) rfl) pa_nil)))))))) (pss_one (ps_ret pe_bl)) pss_nil)
    (pss_one (ps_ret (pe_and (pe_cmpR op_ge (pe_callB call_len_seq (by rfl) T.len PySem.boot_len (pa_cons (pv 2) pa_nil)) pe_int (nomark _)) (pe_one (pe_cmpR op_eq (pe_callB call_len_seq (by rfl) T.len PySem.boot_len (pa_cons (pv 3) pa_nil)) (pe_callB call_len_seq (by rfl) T.len PySem.boot_len (pa_cons (pv 0) pa_nil)) (nomark _))))))))), ?_⟩
  refine ⟨_, rfl, _, _, _, _, _, rfl, .ty _, ty_tup h1, kit_ty (r := true) (by decide +kernel), _, rfl, iteF ?_⟩
  refine ⟨_, rfl, _, _, rfl, .inr h1, rfl, _, rfl, iteF ?_⟩
  refine ⟨_, rfl, _, _, rfl, h1, rfl, _, _, rfl, _, _, rfl, rfl, ?_⟩
  refine ⟨_, rfl, _, _, _, _, _, rfl, .ty _, ty_tup h2, kit_ty (r := true) (by decide +kernel), _, rfl, iteF ?_⟩
  refine ⟨_, rfl, _, _, _, _, _, rfl, .ty _, ty_tup h3, kit_ty (r := true) (by decide +kernel), _, rfl, iteF ?_⟩
  have o1 := ok.one
  refine ⟨_, rfl, _, _, rfl, .inr h2, _, _, rfl, rfl, _, rfl, ?_⟩
  rw [decide_eq_true (show (1 : Int) ≤ ((nv S.1).length : Nat) by rw [nv_len]; omega)]
  refine iteT ⟨_, rfl, _, _, rfl, .inr h3, _, rfl, _, _, rfl, .inr hrs, rfl, ?_⟩
  rw [decide_eq_true (show V.int ((nv S.2).length : Nat) = V.int ((rs.map V.ref).length : Nat) by rw [nv_len, List.length_map, hlen, ok.doors])]
  exact q
theorem ok_check_state (T : Bl mg) (D : Def K mg "check_state" s_check_state) (C_need_house : Cal P w K mg base "need_house" ["house"] 5 (spRing K)) (C_has_state_shape : Cal P w K mg base "has_state_shape" ["house", "value"] 1 (spShape K))
    (C_is_index : Cal P w K mg base "is_index" ["value", "count"] 2 spIndex) : Cal P w K mg base "check_state" ["house", "value"] 6 (spSt K) := by
  refine D.ok sc_check_state (fun _ _ _ _ _ _ us hl => match us, hl with | [_, _], _ => rfl) (fun vs H Q E h => ?_) (fun f cdv A outer s H vs Q E hr h => ?_)
  · obtain ⟨a, s, ds, n, S, rfl, _⟩ := h
    rfl
  obtain ⟨a, s, ds, n, S, rfl, hH, tree, hn, st, ok, q⟩ := h
  obtain ⟨rs, hrs, hlen, hds⟩ := id hH
  obtain ⟨r, b, h1, h2, h3⟩ := id st
  have hdn := tree.len
  obtain ⟨f_need_house, fd_need_house, g_need_house, k_need_house, b_need_house, G_need_house⟩ := C_need_house
  obtain ⟨f_has_state_shape, fd_has_state_shape, g_has_state_shape, k_has_state_shape, b_has_state_shape, G_has_state_shape⟩ := C_has_state_shape
  obtain ⟨f_is_index, fd_is_index, g_is_index, k_is_index, b_is_index, G_is_index⟩ := C_is_index
  refine ⟨_, (pss_cons (ps_expr (pe_call G_need_house (hr.mono (by decide)) (by rfl) g_need_house k_need_house b_need_house .nil pass0 (pa_cons (pv 0) pa_nil)))
    (pss_cons (ps_if (pt_not (pt_val (pe_call G_has_state_shape (hr.mono (by decide)) (by rfl) g_has_state_shape k_has_state_shape b_has_state_shape .nil pass0 (pa_cons (pv 0) (pa_cons (pv 1) pa_nil))))) (pss_one (ps_ret (pe_tup (pa_cons pe_str pa_nil)))) pss_nil)
    (pss_cons (ps_asg (pv 1) (pg_tup (n := 2) rfl (pgs_cons (pg_name (i := 2) sc_check_state.nd rfl (.inl rfl)) (pgs_cons (pg_name (i := 3) sc_check_state.nd rfl (.inl rfl)) pgs_nil))))
    (pss_cons (ps_for PassesOwn.never rfl (pi_enumT (by rfl) T.enumerate (pa_cons (pv 2) pa_nil)) (pg_tup (n := 2) rfl (pgs_cons (pg_name (i := 4) sc_check_state.nd rfl (.inl rfl)) (pgs_cons (pg_name (i := 5) sc_check_state.nd rfl (.inl rfl)) pgs_nil)))
    (pss_one (ps_if (pt_not (pt_val (pe_call G_is_index (hr.mono (by decide)) (by rfl) g_is_index k_is_index b_is_index .nil pass0 (pa_cons (pv 5) (pa_cons (pe_op op_add (pe_callB call_len_seq (by rfl) T.len PySem.boot_len (pa_cons (pv 0) pa_nil)) pe_int) pa_nil))))) (pss_one (ps_ret (pe_tup (pa_cons pe_str (pa_cons (pv 4) pa_nil))))) pss_nil)))
    (pss_cons (ps_for PassesOwn.never rfl (pi_enumT (by rfl) T.enumerate (pa_cons (pv 3) pa_nil)) (pg_tup (n := 2) rfl (pgs_cons (pg_name (i := 6) sc_check_state.nd rfl (.inl rfl)) (pgs_cons (pg_name (i := 4) sc_check_state.nd rfl (.inl rfl)) pgs_nil)))
    (pss_one (ps_if (pt_not (pt_val (pe_call G_is_index (hr.mono (by decide)) (by rfl) g_is_index k_is_index b_is_index .nil pass0 (pa_cons (pv 4) (pa_cons (pe_callB call_len_seq (by rfl) T.len PySem.boot_len (pa_cons (pv 2) pa_nil)) pa_nil))))) (pss_one (ps_ret (pe_tup (pa_cons pe_str (pa_cons (pv 6) pa_nil))))) pss_nil)))
    (pss_one (ps_ret pe_non))))))), ?_⟩
  refine ⟨_, rfl, a, ds, n, rfl, hH, tree, hn, fun H1 s1 => ?_⟩
  refine ⟨_, rfl, _, rfl, a, s, ds, n, S, rfl, hH.same s1, st.same s1, ok, _, rfl, iteF ?_⟩
  refine ⟨_, rfl, _, _, rfl, s1.tup h1, rfl, _, _, rfl, _, _, rfl, rfl, ?_⟩
  refine ⟨_, rfl, r, _, rfl, s1.tup h2, ?_⟩
  refine for_it (walk_enumT (K := K) (a := r) (xs := nv S.1)) (fun k σ H2 => ∃ y4 y5 y6, σ = [some (.ref a), some (.ref s), some (.ref r), some (.ref b), y4, y5, y6] ∧ Same H H2)
    ⟨_, _, _, rfl, s1⟩ (fun i σ H2 _ ⟨_, _, _, _, sm⟩ => sm.tup h2) ?_ ?_
  · rintro k x σ H2 H3 hk ⟨y4, y5, y6, rfl, sm⟩ ⟨t, x1, x2, rfl, nt, rfl, ex1, ex2⟩
    cases ex1
    obtain ⟨v, hv, rfl⟩ := nv_some ex2
    have sm3 := sm.trans (Same.upd (o := .tup [.int (k : Nat), .int (v : Int)]) nt)
    have lv := ok.rooms v (List.mem_of_getElem? hv)
    refine ⟨t, _, rfl, SqT.of upd_same, rfl, _, _, rfl, _, _, rfl, rfl, ?_⟩
    refine ⟨_, rfl, _, rfl, _, _, rfl, .inr (sm3.tup hrs), _, _, rfl, rfl, _, _, rfl, _, rfl, ?_⟩
    rw [decide_eq_true (by rw [List.length_map, hlen]; omega)]
    exact iteF ⟨_, _, _, rfl, sm3⟩
  · rintro σ H2 ⟨y4, y5, y6, rfl, sm⟩
    refine ⟨_, rfl, b, _, rfl, sm.tup h3, ?_⟩
    refine for_it (walk_enumT (K := K) (a := b) (xs := nv S.2)) (fun k σ H2 => ∃ y4 y5 y6, σ = [some (.ref a), some (.ref s), some (.ref r), some (.ref b), y4, y5, y6] ∧ Same H H2)
      ⟨_, _, _, rfl, sm⟩ (fun i σ H2 _ ⟨_, _, _, _, sm⟩ => sm.tup h3) ?_ ?_
    · rintro k x σ H2 H3 hk ⟨y4, y5, y6, rfl, sm⟩ ⟨t, x1, x2, rfl, nt, rfl, ex1, ex2⟩
      cases ex1
      obtain ⟨v, hv, rfl⟩ := nv_some ex2
      have sm3 := sm.trans (Same.upd (o := .tup [.int (k : Nat), .int (v : Int)]) nt)
      have lv := ok.bars v (List.mem_of_getElem? hv)
      refine ⟨t, _, rfl, SqT.of upd_same, rfl, _, _, rfl, _, _, rfl, rfl, ?_⟩
      refine ⟨_, rfl, _, rfl, _, _, rfl, .inr (sm3.tup h2), _, _, rfl, _, rfl, ?_⟩
      rw [decide_eq_true (by rw [nv_len]; omega)]
      exact iteF ⟨_, _, _, rfl, sm3⟩
    · rintro σ H2 ⟨y4, y5, y6, rfl, sm⟩
      exact q H2 sm
theorem ok_need_state (T : Bl mg) (D : Def K mg "need_state" s_need_state) (C_check_state : Cal P w K mg base "check_state" ["house", "value"] 6 (spSt K)) : Cal P w K mg base "need_state" ["house", "state"] 7 (spSt K) := by
  refine D.ok sc_need_state (fun _ _ _ _ _ _ us hl => match us, hl with | [_, _], _ => rfl) (fun vs H Q E h => ?_) (fun f cdv A outer s H vs Q E hr h => ?_)
  · obtain ⟨a, s, ds, n, S, rfl, _⟩ := h
    rfl
  obtain ⟨a, s, ds, n, S, rfl, hH, tree, hn, st, ok, q⟩ := h
  obtain ⟨f_check_state, fd_check_state, g_check_state, k_check_state, b_check_state, G_check_state⟩ := C_check_state
  refine ⟨_, (pss_cons (ps_set (i := 2) sc_need_state.nd rfl (.inl rfl) (pe_call G_check_state (hr.mono (by decide)) (by rfl) g_check_state k_check_state b_check_state .nil pass0 (pa_cons (pv 0) (pa_cons (pv 1) pa_nil))))
    (pss_one (ps_if (pt_cmpR op_notN (pv 2) pe_non (nomark _)) pss_never pss_nil))), ?_⟩
  refine ⟨_, rfl, _, rfl, a, s, ds, n, S, rfl, hH, tree, hn, st, ok, fun H2 sm2 => ⟨_, rfl, rfl, _, rfl, iteF ?_⟩⟩
  exact q H2 sm2
end
end K5

namespace K5
open PySem PySem.Spec PyProof.Rows L2
theorem PairsAt.but {g q : Addr} {H H' : Hp} {l} (h : PairsAt H q l) (hg : ∃ xs, H g = some (.lst xs)) (ne : q ≠ g) (s : But g H H') : PairsAt H' q l := by
  obtain ⟨xs, hx⟩ := hg
  exact h.aside hx ne s
/-- a rearranged list of the same pairs -/
theorem PairsAt.perm {H : Hp} {l : List (Nat × Nat)} {ts : List Addr} {ys : List V} (h2 : ts.length = l.length) (h3 : ∀ (i : Nat) (t : Addr) (e : Nat × Nat), ts[i]? = some t → l[i]? = some e → H t = some (.tup [.int e.1, .int e.2]))
    (p : ys.Perm (ts.map V.ref)) : ∃ (ts' : List Addr) (l' : List (Nat × Nat)), ys = ts'.map V.ref ∧ l'.Perm l ∧ ts'.length = l'.length ∧ ∀ (i : Nat) (t : Addr) (e : Nat × Nat), ts'[i]? = some t → l'[i]? = some e → H t = some (.tup [.int e.1, .int e.2]) := by
  have e1 : ts.map V.ref = (ts.zip l).map (fun z => V.ref z.1) := by
    have e : (ts.zip l).map (fun z => V.ref z.1) = ((ts.zip l).map Prod.fst).map V.ref := by rw [List.map_map]; rfl
    rw [e, List.map_fst_zip (by omega)]
  rw [e1] at p
  obtain ⟨zs, ez, pz⟩ := perm_of_map _ _ _ p
  refine ⟨zs.map Prod.fst, zs.map Prod.snd, by rw [ez, List.map_map]; rfl, ?_, by simp, fun i t e a b => ?_⟩
  · have q := pz.map Prod.snd
    rw [List.map_snd_zip (by omega)] at q
    exact q
  · rw [List.getElem?_map] at a b
    cases hz : zs[i]? with
    | none => rw [hz] at a; cases a
    | some z =>
      rw [hz] at a b
      cases a
      cases b
      have hm := pz.mem_iff.mp (List.mem_of_getElem? hz)
      obtain ⟨j, hj⟩ := List.mem_iff_getElem?.mp hm
      rw [List.getElem?_zip_eq_some] at hj
      exact h3 j _ _ hj.1 hj.2
theorem Flip.perm {fs ds : List (Nat × Nat)} (p : fs.Perm ds) : ∀ {es : List (Nat × Nat)}, Flip es fs → ∃ es', es'.Perm es ∧ Flip es' ds := by
  induction p with
  | nil => intro es h; exact ⟨es, List.Perm.refl _, h⟩
  | cons x _ ih =>
    intro es h
    cases h with
    | same h =>
      obtain ⟨e', p', f'⟩ := ih h
      exact ⟨_ :: e', p'.cons _, .same f'⟩
    | turn h =>
      obtain ⟨e', p', f'⟩ := ih h
      exact ⟨_ :: e', p'.cons _, .turn f'⟩
  | swap x y l =>
    intro es h
    cases h with
    | same h =>
      cases h with
      | same h => exact ⟨_, List.Perm.swap _ _ _, .same (.same h)⟩
      | turn h => exact ⟨_, List.Perm.swap _ _ _, .turn (.same h)⟩
    | turn h =>
      cases h with
      | same h => exact ⟨_, List.Perm.swap _ _ _, .same (.turn h)⟩
      | turn h => exact ⟨_, List.Perm.swap _ _ _, .turn (.turn h)⟩
  | trans _ _ ih1 ih2 =>
    intro es h
    obtain ⟨e1, p1, f1⟩ := ih1 h
    obtain ⟨e2, p2, f2⟩ := ih2 f1
    exact ⟨e2, p2.trans p1, f2⟩
def spHouse (K : PySem.W.Frag) : Sp := fun vs H Q _ => ∃ (g : Addr) (b n : Nat), vs = [.ref g, .int (n : Int)] ∧ GenAt H g b ∧ 0 < n ∧ n ≤ 60 ∧ b < 2 ^ 50 ∧
  ∀ (H' : Hp) (a : Addr) (ds : List (Nat × Nat)), But g H H' → GenAt H' g (b + 1000) → a ≠ g → HouseAt K H' a ds → Tree n ds → Q (.ref a) H'
section
variable {P : Program} {w : World} {K : PySem.W.Frag}
      {mg : Str → Option Value} {base : Heap}
theorem ok_random_house (T : Bl mg) (D : Def K mg "_law_random_house" s_l_random_house) (C_l_random : Cal P w K mg base "_law_random" ["_law_generator_here", "_law_bound"] 2 spRand)
    (C_l_shuffled : Cal P w K mg base "_law_shuffled" ["_law_generator_here", "_law_items"] 3 (spShuf K)) : Cal P w K mg base "_law_random_house" ["_law_generator_here", "_law_size"] 4 (spHouse K) := by
  refine D.ok sc_l_random_house (fun _ _ _ _ _ _ us hl => match us, hl with | [_, _], _ => rfl) (fun vs H Q E h => ?_) (fun f cdv A outer s H vs Q E hr h => ?_)
  · obtain ⟨g, b, n, rfl, _⟩ := h
    rfl
  obtain ⟨g, b, n, rfl, hg, hn0, hn1, hb, q⟩ := h
  obtain ⟨f_l_shuffled, fd_l_shuffled, g_l_shuffled, k_l_shuffled, b_l_shuffled, G_l_shuffled⟩ := C_l_shuffled
  obtain ⟨f_l_random, fd_l_random, g_l_random, k_l_random, b_l_random, G_l_random⟩ := C_l_random
  refine ⟨_, (pss_cons (ps_set (i := 2) sc_l_random_house.nd rfl (.inl rfl) (pe_call G_l_shuffled (hr.mono (by decide)) (by rfl) g_l_shuffled k_l_shuffled b_l_shuffled .nil pass0 (pa_cons (pv 0) (pa_cons (pe_listRg rfl (by rfl) T.list (prg_1 (by rfl) T.range (pv 1))) pa_nil))))
    (pss_cons (ps_set (i := 3) sc_l_random_house.nd rfl (.inl rfl) (pe_call G_l_random (hr.mono (by decide)) (by rfl) g_l_random k_l_random b_l_random .nil pass0 (pa_cons (pv 0) (pa_cons pe_int pa_nil))))
    (pss_cons (ps_set (i := 4) sc_l_random_house.nd rfl (.inl rfl) (pe_lst pa_nil))
    (pss_cons (ps_for PassesOwn.never rfl (pi_range2 rfl T.range (pa_cons pe_int (pa_cons (pv 1) pa_nil))) (pg_name (i := 5) sc_l_random_house.nd rfl (.inl rfl))
    (pss_cons (ps_set (i := 6) sc_l_random_house.nd rfl (.inl rfl) (pe_ix ix_list (pe_lst (pa_cons (pe_op op_sub (pv 5) pe_int) (pa_cons pe_int (pa_cons (pe_call G_l_random (hr.mono (by decide)) (by rfl) g_l_random k_l_random b_l_random .nil pass0 (pa_cons (pv 0) (pa_cons (pv 5) pa_nil))) (pa_cons (pe_call G_l_random (hr.mono (by decide)) (by rfl) g_l_random k_l_random b_l_random .nil pass0 (pa_cons (pv 0) (pa_cons (pv 5) pa_nil))) pa_nil))))) (pv 3) (fun _ _ => rfl)))
    (pss_cons (ps_set (i := 7) sc_l_random_house.nd rfl (.inl rfl) (pe_tup (pa_cons (pe_ix ix_list (pv 2) (pv 6) (fun _ _ => rfl)) (pa_cons (pe_ix ix_list (pv 2) (pv 5) (fun _ _ => rfl)) pa_nil))))
    (pss_one (ps_expr (pe_bm PySem.F.plainAttrs_list PySem.F.slot_list_append PySem.F.type_list_append mt_append (pv 4) (pa_cons (pe_stp (pv 7) (pe_op op_sub pe_int (pe_op op_mul pe_int (pe_call G_l_random (hr.mono (by decide)) (by rfl) g_l_random k_l_random b_l_random .nil pass0 (pa_cons (pv 0) (pa_cons pe_int pa_nil)))))) pa_nil)))))))
    (pss_one (ps_ret (pe_callTy call_tuple_of (by rfl) T.tuple (by decide +kernel) (pa_cons (pe_call G_l_shuffled (hr.mono (by decide)) (by rfl) g_l_shuffled k_l_shuffled b_l_shuffled .nil pass0 (pa_cons (pv 0) (pa_cons (pv 4) pa_nil))) pa_nil)))))))), ?_⟩
  have en : rgV 0 (n : Int) = nv (List.range n) := rgV_nat n
  refine ⟨_, rfl, _, rfl, _, rfl, .of_le (Int.le_refl _) (by omega) (by omega) (by omega), fun pn npn => ?_⟩
  rw [en]
  have npng : pn ≠ g := hg.ne npn
  have s1 := Same.upd (o := .lst (nv (List.range n))) npn
  have g1 := hg.same s1
  have hn1' : (upd H pn (.lst (nv (List.range n)))) pn = some (.lst (nv (List.range n))) := upd_same
  generalize upd H pn (.lst (nv (List.range n))) = H1 at s1 g1 hn1'
  refine ⟨g, pn, b, nv (List.range n), rfl, g1, SqL.of hn1', npng, by rw [nv_len, List.length_range]; omega, by omega, fun H2 ql ys bt2 g2 nql hql pm => ?_⟩
  rw [nv_len, List.length_range] at g2
  obtain ⟨L, rfl, pL⟩ := perm_of_map _ _ _ pm
  have hql : H2 ql = some (.lst (nv L)) := hql
  have hLl : L.length = n := by rw [pL.length_eq, List.length_range]
  have nqlg : ql ≠ g := fun z => by
    subst z
    obtain ⟨xs, hxs⟩ := g1.lst
    rw [hxs] at nql
    cases nql
  refine ⟨_, rfl, g, b + n, 4, rfl, g2, by decide, by decide, by omega, fun H3 kind bt3 g3 hk => ?_⟩
  refine ⟨Nat.zero_le _, fun pd npd => ?_⟩
  have hpdg := g3.ne npd
  have bt03 : But g H H3 := (s1.but.trans bt2).trans bt3
  have npd0 : H pd = none := bt03.free hpdg npd
  have nlp : ql ≠ pd := ne_of_none (bt3 _ _ nqlg hql) npd
  refine ⟨_, rfl, _, _, rfl, ⟨by omega, by omega, by omega, by omega⟩, ?_⟩
  refine for_it (walk_range (lo := 1) (n := ((n : Int) - 1).toNat)) (fun i σ H4 => ∃ es fs y5 y6 y7, σ = [some (.ref g), some (.int (n : Int)), some (.ref ql), some (.int (kind : Int)), some (.ref pd), y5, y6, y7] ∧
    But g H H4 ∧ GenAt H4 g (b + n + 1 + 3 * i) ∧ H4 ql = some (.lst (nv L)) ∧ PairsAt H4 pd fs ∧ Tr0 (1 + i) es ∧ Flip (es.map fun e => (L.getD e.1 0, L.getD e.2 0)) fs)
    ⟨[], [], _, _, _, rfl, bt03.at npd0 _, g3.same (Same.upd npd), by rw [upd_ne nlp]; exact bt3 _ _ nqlg hql, ⟨[], upd_same, rfl, fun i t e h => by simp at h⟩, Tr0.one, .nil⟩ (fun _ _ _ _ _ => trivial) ?_ ?_
  · rintro i x σ H4 H5 hi ⟨es, fs, y5, y6, y7, rfl, bt4, g4, hl4, ⟨ts, f1, f2, f3⟩, tr, fl⟩ ⟨rfl, hx⟩
    have hel := tr.len
    have flen : fs.length = i := by
      rw [← fl.len, List.length_map]
      omega
    have hi' : 1 + i < n := by omega
    have er : (1 : Int) + (i : Int) = ((1 + i : Nat) : Int) := by omega
    have hx' : x = V.int ((1 + i : Nat) : Int) := hx.trans (congrArg V.int er)
    subst hx'
    refine ⟨_, rfl, _, _, rfl, rfl, _, rfl, _, rfl, g, b + n + 1 + 3 * i, 1 + i, rfl, g4, by omega, by omega, by omega, fun H6 u1 bt6 g6 hu1 => ?_⟩
    refine ⟨_, rfl, _, rfl, g, _, 1 + i, rfl, g6, by omega, by omega, by omega, fun H7 u2 bt7 g7 hu2 => ⟨by show 4 ≤ sizeLine; decide, fun pl npl => ?_⟩⟩
    obtain ⟨o, ho, hlt⟩ : ∃ o : Nat, ([V.int (((1 + i : Nat) : Int) - 1), V.int 0, V.int (u1 : Int), V.int (u2 : Int)] : List V)[kind]? = some (.int (o : Int)) ∧ o < 1 + i := by
      match kind, hk with
      | 0, _ => exact ⟨i, congrArg (fun z => some (V.int z)) (by omega), by omega⟩
      | 1, _ => exact ⟨0, rfl, by omega⟩
      | 2, _ => exact ⟨u1, rfl, hu1⟩
      | 3, _ => exact ⟨u2, rfl, hu2⟩
    refine ⟨_, rfl, pl, _, _, _, rfl, rfl, SqL.of upd_same, atI_nat ho, ?_⟩
    have nplg : pl ≠ g := g7.ne npl
    have gl4 := g4.lst.choose_spec
    have gl6 := g6.lst.choose_spec
    have bt47 := bt6.trans bt7
    have hl7 := bt47 _ _ nqlg hl4
    have f17 := bt47 _ _ hpdg f1
    have f37 := fun i t e a b => bt47 _ _ (ne_lt gl4 (f3 i t e a b)) (f3 i t e a b)
    have s8 := Same.upd (o := .lst [V.int (((1 + i : Nat) : Int) - 1), V.int 0, V.int (u1 : Int), V.int (u2 : Int)]) npl
    have hl8 := s8 _ _ hl7
    have f18 := s8 _ _ f17
    have f38 := fun i t e a b => s8 _ _ (f37 i t e a b)
    have g8 := g7.same s8
    have bt8 := (bt4.trans bt47).trans s8.but
    generalize upd H7 pl (.lst [V.int (((1 + i : Nat) : Int) - 1), V.int 0, V.int (u1 : Int), V.int (u2 : Int)]) = H8 at s8 hl8 f18 f38 g8 bt8
    have a1 : L[o]? = some (L.getD o 0) := by
      rw [List.getD_eq_getElem?_getD, List.getElem?_eq_getElem (by omega)]
      rfl
    have a2 : L[1 + i]? = some (L.getD (1 + i) 0) := by
      rw [List.getD_eq_getElem?_getD, List.getElem?_eq_getElem (by omega)]
      rfl
    refine ⟨_, rfl, _, rfl, ql, _, _, _, rfl, rfl, SqL.of hl8, nv_at a1, _, rfl, _, rfl, ql, _, _, _, rfl, rfl, SqL.of hl8, nv_at a2, by show 2 ≤ sizeLine; decide, fun te nte => ?_⟩
    generalize hd1 : L.getD o 0 = d1 at *
    generalize hd2 : L.getD (1 + i) 0 = d2 at *
    have nteg : te ≠ g := g8.ne nte
    have sA := Same.upd (o := .tup [.int (d1 : Int), .int (d2 : Int)]) nte
    have hteA : (upd H8 te (.tup [.int (d1 : Int), .int (d2 : Int)])) te = some (.tup [.int (d1 : Int), .int (d2 : Int)]) := upd_same
    have gA := g8.same sA
    have hlA := sA _ _ hl8
    have fA := sA _ _ f18
    have f3A := fun i t e a b => sA _ _ (f38 i t e a b)
    have btA := bt8.trans sA.but
    generalize upd H8 te (.tup [.int (d1 : Int), .int (d2 : Int)]) = HA at sA hteA gA hlA fA f3A btA
    refine ⟨_, rfl, .inl ⟨rfl, _, SqL.of fA⟩, _, rfl, _, rfl, g, b + n + 1 + 3 * i + 1 + 1, 2, rfl, gA, by decide, by decide, by omega, fun HB u btB gB hu => ?_⟩
    have gAl := gA.lst.choose_spec
    have hteB := btB _ _ nteg hteA
    have hlB := btB _ _ nqlg hlA
    have fB := btB _ _ hpdg fA
    have f3B := fun i t e x y => btB _ _ (ne_lt gAl (f3A i t e x y)) (f3A i t e x y)
    have btHB := btA.trans btB
    have tr' := tr.grow o hlt
    have em : ((es ++ [(o, 1 + i)]).map fun e => (L.getD e.1 0, L.getD e.2 0)) = (es.map fun e => (L.getD e.1 0, L.getD e.2 0)) ++ [(d1, d2)] := by
      rw [List.map_append, ← hd1, ← hd2]
      rfl
    refine ⟨_, _, rfl, rfl, .inl (by decide), _, _, rfl, rfl, te, _, _, rfl, SqT.of hteB, ?_⟩
    match u, hu with
    | 0, _ =>
      refine .inl ⟨rfl, pd, _, _, rfl, rfl, fB, by rw [List.length_map, f2]; exact small1000 (by omega), ?_⟩
      refine ⟨es ++ [(o, 1 + i)], fs ++ [(d1, d2)], _, _, _, rfl, btHB.at npd0 _, (gB.at hpdg).mono (by omega), by rw [upd_ne nlp]; exact hlB, .push (ts := ts) fB f2 f3B (fun b o ne e => by rw [upd_ne ne]; exact e) upd_same (by rw [upd_ne (ne_lt fB hteB)]; exact hteB), ?_, by rw [em]; exact fl.snoc _⟩
      rw [show 1 + (i + 1) = 1 + i + 1 by omega]
      exact tr'
    | 1, _ =>
      refine .inr ⟨rfl, fun tt ntt => ⟨pd, _, _, rfl, rfl, by rw [upd_ne (ne_of_none fB ntt)]; exact fB, by rw [List.length_map, f2]; exact small1000 (by omega), ?_⟩⟩
      have nttg : tt ≠ g := gB.ne ntt
      have sC := Same.upd (o := .tup [.int (d2 : Int), .int (d1 : Int)]) ntt
      refine ⟨es ++ [(o, 1 + i)], fs ++ [(d2, d1)], _, _, _, rfl, (btHB.at (btHB.free nttg ntt) _).at npd0 _, ((gB.same sC).at hpdg).mono (by omega), by rw [upd_ne nlp]; exact sC _ _ hlB, .push (ts := ts) (sC _ _ fB) f2 (fun i t e x y => sC _ _ (f3B i t e x y)) (fun b o ne e => by rw [upd_ne ne]; exact e) upd_same (by rw [upd_ne (ne_of_none fB ntt).symm, upd_same]), ?_, by rw [em]; exact fl.snocT _ _⟩
      rw [show 1 + (i + 1) = 1 + i + 1 by omega]
      exact tr'
  · rintro σ H4 ⟨es, fs, y5, y6, y7, rfl, bt4, g4, hl4, ⟨ts, f1, f2, f3⟩, tr, fl⟩
    have e1 : 1 + ((n : Int) - 1).toNat = n := by omega
    rw [e1] at tr
    have flen : fs.length + 1 = n := by
      rw [← fl.len, List.length_map]
      exact tr.len
    refine ⟨_, rfl, _, rfl, g, pd, _, _, rfl, g4, SqL.of f1, hpdg, by rw [List.length_map, f2]; omega, by omega, fun H5 qs ys bt5 g5 nqs hqs pm2 => ?_⟩
    rw [List.length_map, f2] at g5
    have gl4 := g4.lst.choose_spec
    have f35 := fun i t e a b => bt5 _ _ (ne_lt gl4 (f3 i t e a b)) (f3 i t e a b)
    obtain ⟨ts', ds, rfl, pe, hl', pr'⟩ := PairsAt.perm f2 f35 pm2
    refine ⟨qs, _, rfl, .inl ⟨SqL.of hqs, fun pt npt => ?_⟩⟩
    have nptg : pt ≠ g := g5.ne npt
    obtain ⟨es', p', f'⟩ := Flip.perm pe.symm fl
    have bt05 := bt4.trans bt5
    exact q _ pt ds (bt05.at (bt05.free nptg npt) _) ((g5.same (Same.upd npt)).mono (by omega)) nptg ⟨ts', SqT.of upd_same, hl', fun d r e x y => SqT.of (Same.upd npt _ _ (pr' d r e x y))⟩ (((tr.nv pL).perm p').tree f')
end
end K5

namespace K5
open PySem PySem.Spec PyProof.Rows L2
theorem catA_of {K : PySem.W.Frag} {H : Hp} {a b : Addr} {xs ys : List V} {Q : VK} (h1 : SqT K H a xs) (h2 : SqT K H b ys) (hl : xs.length + ys.length ≤ sizeLine) (q : ∀ (H' : Hp) (p : Addr), Same H H' → SqT K H' p (xs ++ ys) → Q (.ref p) H') :
    rCatA K (.ref a) (.ref b) H Q := by
  refine ⟨a, b, xs, ys, rfl, rfl, h1, h2, hl, fun e => ?_, fun _ e => ?_, fun _ _ p np => q _ p (Same.upd np) (SqT.of upd_same)⟩
  · refine q H b (Same.refl _) ?_
    rw [e, List.nil_append]
    exact h2
  · refine q H a (Same.refl _) ?_
    rw [e, List.append_nil]
    exact h1
theorem nv_app (a b : List Nat) : nv a ++ nv b = nv (a ++ b) := by
  unfold nv
  rw [List.map_append]
theorem set_cut {α : Type} : ∀ (l : List α) (k : Nat) (x : α), k < l.length → l.take k ++ [x] ++ l.drop (k + 1) = l.set k x
  | [], k, x, h => by simp at h
  | a :: r, 0, x, h => rfl
  | a :: r, k + 1, x, h => by
    have := set_cut r k x (by simpa using h)
    show a :: (r.take k ++ [x] ++ r.drop (k + 1)) = a :: r.set k x
    rw [this]
theorem nv_cut (L : List Nat) (k x : Nat) (h : k < L.length) : nv (L.take k) ++ [V.int (x : Int)] ++ nv (L.drop (k + 1)) = nv (L.set k x) := by
  rw [← set_cut L k x h, ← nv_app, ← nv_app]
  rfl
theorem cut_to {L : List Nat} {k : Nat} (h : k < L.length) : cutV (nv L) none (some (k : Int)) = nv (L.take k) ∧ ¬ (HT.sIx (nv L).length 0 none = 0 ∧ HT.sIx (nv L).length (nv L).length (some (k : Int)) = (nv L).length) := by
  unfold cutV
  rw [HT.sIx_none, HT.sIx_nat, nv_len, Nat.min_eq_left (Nat.le_of_lt h)]
  refine ⟨?_, fun z => by omega⟩
  unfold nv
  rw [List.drop_zero, Nat.sub_zero, List.map_take]
theorem cut_from {L : List Nat} {k : Nat} (h : k < L.length) : cutV (nv L) (some ((k : Int) + 1)) none = nv (L.drop (k + 1)) ∧ ¬ (HT.sIx (nv L).length 0 (some ((k : Int) + 1)) = 0 ∧ HT.sIx (nv L).length (nv L).length none = (nv L).length) := by
  unfold cutV
  rw [show (k : Int) + 1 = ((k + 1 : Nat) : Int) by omega, HT.sIx_none, HT.sIx_nat, nv_len, Nat.min_eq_left h]
  refine ⟨?_, fun z => by omega⟩
  unfold nv
  rw [← List.map_drop, List.take_of_length_le]
  rw [List.length_map, List.length_drop]
  exact Nat.le_refl _
abbrev Q4 := Nat × Nat × Nat × Nat
def tQ (m : Q4) : List V := [.int (m.1 : Int), .int (m.2.1 : Int), .int (m.2.2.1 : Int), .int (m.2.2.2 : Int)]
def stepS (S : S2) (m : Q4) : S2 := (S.1.set m.1 m.2.2.1, S.2.set m.2.2.2 m.1)
def spAfter (K : PySem.W.Frag) : Sp := fun vs H Q _ => ∃ (s t : Addr) (S : S2) (m : Q4), vs = [.ref s, .ref t] ∧ StateAt K H s S ∧ H t = some (.tup (tQ m)) ∧ m.1 < S.1.length ∧ m.2.2.2 < S.2.length ∧ S.1.length ≤ 1000 ∧ S.2.length ≤ 1000 ∧
  ∀ (H' : Hp) (q : Addr), Same H H' → StateAt K H' q (stepS S m) → Q (.ref q) H'
section
variable {P : Program} {w : World} {K : PySem.W.Frag}
      {mg : Str → Option Value} {base : Heap}
theorem ok_after_move (T : Bl mg) (D : Def K mg "_law_after_move" s_l_after_move) : Cal P w K mg base "_law_after_move" ["_law_situation", "_law_move"] 1 (spAfter K) := by
  refine D.ok sc_l_after_move (fun _ _ _ _ _ _ us hl => match us, hl with | [_, _], _ => rfl) (fun vs H Q E h => ?_) (fun f cdv A outer s0 H vs Q E hr h => ?_)
  · obtain ⟨s, t, S, m, rfl, _⟩ := h
    rfl
  obtain ⟨s, t, S, m, rfl, st, ht, v1, hd, few, bl, qn⟩ := h
  obtain ⟨r, b, h1, h2, h3⟩ := id st
  refine ⟨_, (pss_cons (ps_asg (pv 0) (pg_tup (n := 2) rfl (pgs_cons (pg_name (i := 2) sc_l_after_move.nd rfl (.inl rfl)) (pgs_cons (pg_name (i := 3) sc_l_after_move.nd rfl (.inl rfl)) pgs_nil))))
    (pss_cons (ps_asg (pv 1) (pg_tup (n := 4) rfl (pgs_cons (pg_name (i := 4) sc_l_after_move.nd rfl (.inl rfl)) (pgs_cons (pg_name (i := 5) sc_l_after_move.nd rfl (.inl rfl)) (pgs_cons (pg_name (i := 6) sc_l_after_move.nd rfl (.inl rfl)) (pgs_cons (pg_name (i := 7) sc_l_after_move.nd rfl (.inl rfl)) pgs_nil))))))
    (pss_cons (ps_set (i := 2) sc_l_after_move.nd rfl (.inl rfl) (pe_op op_catA (pe_op op_catA (pe_slice sl_tup (pv 2) po_none (po_some (pv 4))) (pe_tup (pa_cons (pv 6) pa_nil))) (pe_slice sl_tup (pv 2) (po_some (pe_op op_add (pv 4) pe_int)) po_none)))
    (pss_one (ps_ret (pe_tup (pa_cons (pv 2) (pa_cons (pe_op op_catA (pe_op op_catA (pe_slice sl_tup (pv 3) po_none (po_some (pv 7))) (pe_tup (pa_cons (pv 4) pa_nil))) (pe_slice sl_tup (pv 3) (po_some (pe_op op_add (pv 7) pe_int)) po_none)) pa_nil)))))))), ?_⟩
  refine ⟨_, rfl, _, _, rfl, h1, rfl, _, _, rfl, _, _, rfl, rfl, ?_⟩
  refine ⟨_, rfl, _, _, rfl, SqT.of ht, rfl, _, _, rfl, _, _, rfl, _, _, rfl, _, _, rfl, rfl, ?_⟩
  have sz4 : (4 : Nat) + 1000 ≤ sizeLine := Nat.le_of_lt (small3k (by decide))
  obtain ⟨c1, c2⟩ := cut_to v1
  obtain ⟨c3, c4⟩ := cut_from v1
  refine ⟨_, rfl, _, rfl, _, rfl, r, _, rfl, h2, c2, fun p1 np1 => ?_⟩
  rw [c1]
  have sa := Same.upd (o := .tup (nv (S.1.take m.1))) np1
  refine ⟨_, rfl, by show 1 ≤ sizeLine; decide, fun p2 np2 => ?_⟩
  have sb := sa.trans (Same.upd (o := .tup [.int (m.2.2.1 : Int)]) np2)
  have hp1 : (upd (upd H p1 (.tup (nv (S.1.take m.1)))) p2 (.tup [.int (m.2.2.1 : Int)])) p1 = some (.tup (nv (S.1.take m.1))) := by rw [upd_ne (ne_of_none upd_same np2), upd_same]
  refine catA_of (SqT.of hp1) (SqT.of upd_same) (by rw [nv_len, List.length_take, List.length_singleton]; omega) fun H4 p3 s4 h4 => ?_
  have sc := sb.trans s4
  refine ⟨_, rfl, _, rfl, _, _, rfl, rfl, _, rfl, r, _, rfl, sc.tup h2, c4, fun p4 np4 => ?_⟩
  rw [c3]
  have s5 := Same.upd (o := .tup (nv (S.1.drop (m.1 + 1)))) np4
  refine catA_of (s5.tup h4) (SqT.of upd_same) (by rw [List.length_append, nv_len, List.length_take, List.length_singleton, nv_len, List.length_drop]; omega) fun H6 p5 s6 h6 => ?_
  rw [nv_cut _ _ _ v1] at h6
  have sd := (sc.trans s5).trans s6
  obtain ⟨c5, c6⟩ := cut_to hd
  obtain ⟨c7, c8⟩ := cut_from hd
  refine ⟨_, rfl, _, rfl, _, rfl, _, rfl, b, _, rfl, sd.tup h3, c6, fun p6 np6 => ?_⟩
  rw [c5]
  have se := sd.trans (Same.upd (o := .tup (nv (S.2.take m.2.2.2))) np6)
  have h6e := (Same.upd (o := .tup (nv (S.2.take m.2.2.2))) np6).tup h6
  refine ⟨_, rfl, by show 1 ≤ sizeLine; decide, fun p7 np7 => ?_⟩
  have sf := se.trans (Same.upd (o := .tup [.int (m.1 : Int)]) np7)
  have h6f := (Same.upd (o := .tup [.int (m.1 : Int)]) np7).tup h6e
  have hp6 : (upd (upd H6 p6 (.tup (nv (S.2.take m.2.2.2)))) p7 (.tup [.int (m.1 : Int)])) p6 = some (.tup (nv (S.2.take m.2.2.2))) := by rw [upd_ne (ne_of_none upd_same np7), upd_same]
  refine catA_of (SqT.of hp6) (SqT.of upd_same) (by rw [nv_len, List.length_take, List.length_singleton]; omega) fun H8 p8 s8 h8 => ?_
  have sg := sf.trans s8
  have h6g := s8.tup h6f
  refine ⟨_, rfl, _, rfl, _, _, rfl, rfl, _, rfl, b, _, rfl, sg.tup h3, c8, fun p9 np9 => ?_⟩
  rw [c7]
  have s9 := Same.upd (o := .tup (nv (S.2.drop (m.2.2.2 + 1)))) np9
  refine catA_of (s9.tup h8) (SqT.of upd_same) (by rw [List.length_append, nv_len, List.length_take, List.length_singleton, nv_len, List.length_drop]; omega) fun H10 p10 s10 h10 => ?_
  rw [nv_cut _ _ _ hd] at h10
  have sh := (sg.trans s9).trans s10
  have h6h := s10.tup (s9.tup h6g)
  refine ⟨by show 2 ≤ sizeLine; decide, fun p11 np11 => ?_⟩
  have s11 := Same.upd (o := .tup [.ref p5, .ref p10]) np11
  exact qn _ p11 (sh.trans s11) ⟨p5, p10, SqT.of upd_same, s11.tup h6h, s11.tup h10⟩
end
end K5

namespace K5
open PySem PySem.Spec PyProof.Rows L2
theorem inV_nv (x : Nat) (l : List Nat) : inV (.int (x : Int)) (nv l) = decide (x ∈ l) := by
  induction l with
  | nil => rfl
  | cons a r ih =>
    show (((a : Int) == (x : Int)) || inV (.int (x : Int)) (nv r)) = _
    rw [ih]
    by_cases h : x = a
    · subst h
      simp
    · have e1 : ((a : Int) == (x : Int)) = false := beq_eq_false_iff_ne.mpr (by omega)
      rw [e1]
      simp [h]
theorem flat_nv (l : List Nat) : (nv l).all flatV = true := by
  induction l with
  | nil => rfl
  | cons a r ih => exact ih
/-- a move that the situation allows -/
def QOk (ds : List (Nat × Nat)) (S : S2) (m : Q4) : Prop := S.1[m.1]? = some m.2.1 ∧ Joins ds m.2.2.2 m.2.1 m.2.2.1 ∧ S.2[m.2.2.2]? ≠ some m.1
def QL (H : Hp) (ts : List Addr) (qs : List Q4) : Prop := ts.length = qs.length ∧ ∀ (i : Nat) (t : Addr) (m : Q4), ts[i]? = some t → qs[i]? = some m → H t = some (.tup (tQ m))
theorem QL.same {H H' ts qs} (h : QL H ts qs) (s : Same H H') : QL H' ts qs := ⟨h.1, fun i t m x y => s _ _ (h.2 i t m x y)⟩
theorem QL.push {H : Hp} {ts : List Addr} {qs : List Q4} {p t : Addr} {m : Q4} {xs ys : List V} (h : QL H ts qs) (hp : H p = some (.lst xs)) (nt : H t = none) :
    QL (upd (upd H t (.tup (tQ m))) p (.lst ys)) (ts ++ [t]) (qs ++ [m]) := by
  have ntp : t ≠ p := (ne_of_none hp nt).symm
  refine ⟨by rw [List.length_append, List.length_append, h.1]; rfl, fun i a b x y => ?_⟩
  by_cases hi : i < ts.length
  · rw [List.getElem?_append_left hi] at x
    rw [List.getElem?_append_left (by rw [← h.1]; exact hi)] at y
    have q := h.2 i a b x y
    rw [upd_ne (ne_lt hp q), upd_ne (ne_of_none q nt)]
    exact q
  · rw [List.getElem?_append_right (by omega)] at x
    rw [List.getElem?_append_right (by rw [← h.1]; omega), ← h.1] at y
    generalize i - ts.length = j at x y
    match j with
    | 0 => cases x; cases y; rw [upd_ne ntp, upd_same]
    | j + 1 => simp at x
theorem q_skip {ds : List (Nat × Nat)} {S : S2} {qs : List Q4} {k i : Nat} (h : ∀ m, m ∈ qs ↔ (m.2.2.2 < k ∨ m.2.2.2 = k ∧ m.1 < i) ∧ QOk ds S m) (no : ∀ m : Q4, m.1 = i → m.2.2.2 = k → ¬ QOk ds S m) :
    ∀ m, m ∈ qs ↔ (m.2.2.2 < k ∨ m.2.2.2 = k ∧ m.1 < i + 1) ∧ QOk ds S m := by
  intro m
  rw [h m]
  constructor
  · rintro ⟨h1, h2⟩
    exact ⟨by omega, h2⟩
  · rintro ⟨h1, h2⟩
    refine ⟨?_, h2⟩
    by_cases c : m.2.2.2 = k ∧ m.1 = i
    · exact absurd h2 (no m c.2 c.1)
    · omega
theorem q_add {ds : List (Nat × Nat)} {S : S2} {qs : List Q4} {k i : Nat} {m0 : Q4} (h : ∀ m, m ∈ qs ↔ (m.2.2.2 < k ∨ m.2.2.2 = k ∧ m.1 < i) ∧ QOk ds S m) (e1 : m0.1 = i) (e2 : m0.2.2.2 = k) (ok : QOk ds S m0) (un : ∀ m : Q4, m.1 = i → m.2.2.2 = k → QOk ds S m → m = m0) :
    ∀ m, m ∈ qs ++ [m0] ↔ (m.2.2.2 < k ∨ m.2.2.2 = k ∧ m.1 < i + 1) ∧ QOk ds S m := by
  intro m
  rw [List.mem_append, h m, List.mem_singleton]
  constructor
  · rintro (⟨h1, h2⟩ | rfl)
    · exact ⟨by omega, h2⟩
    · exact ⟨by omega, ok⟩
  · rintro ⟨h1, h2⟩
    by_cases c : m.2.2.2 = k ∧ m.1 = i
    · exact .inr (un m c.2 c.1 h2)
    · exact .inl ⟨by omega, h2⟩
theorem joins_at {ds : List (Nat × Nat)} {k : Nat} {e : Nat × Nat} (he : ds[k]? = some e) (x y : Nat) : Joins ds k x y ↔ (x = e.1 ∧ y = e.2) ∨ (x = e.2 ∧ y = e.1) := by
  unfold Joins
  rw [he]
  constructor
  · rintro (h | h)
    · have h := Option.some.inj h
      exact .inl ⟨by rw [h], by rw [h]⟩
    · have h := Option.some.inj h
      exact .inr ⟨by rw [h], by rw [h]⟩
  · rintro (⟨rfl, rfl⟩ | ⟨rfl, rfl⟩)
    · exact .inl rfl
    · exact .inr rfl
def spMoves (K : PySem.W.Frag) : Sp := fun vs H Q _ => ∃ (a s : Addr) (n : Nat) (ds : List (Nat × Nat)) (S : S2), vs = [.ref a, .ref s] ∧ HouseAt K H a ds ∧ Tree n ds ∧ n ≤ 60 ∧ StateAt K H s S ∧ StOk n ds S ∧
  ∀ (H' : Hp) (q : Addr) (ts : List Addr) (qs : List Q4), Same H H' → H q = none → H' q = some (.lst (ts.map V.ref)) → QL H' ts qs → (∀ m, m ∈ qs ↔ QOk ds S m) → qs.length ≤ 1000 → Q (.ref q) H'
section
variable {P : Program} {w : World} {K : PySem.W.Frag}
      {mg : Str → Option Value} {base : Heap}
theorem ok_moves (T : Bl mg) (D : Def K mg "_law_moves" s_l_moves) : Cal P w K mg base "_law_moves" ["_law_layout", "_law_situation"] 1 (spMoves K) := by
  refine D.ok sc_l_moves (fun _ _ _ _ _ _ us hl => match us, hl with | [_, _], _ => rfl) (fun vs H Q E h => ?_) (fun f cdv A outer s0 H vs Q E hr h => ?_)
  · obtain ⟨a, s, n, ds, S, rfl, _⟩ := h
    rfl
  obtain ⟨a, s, n, ds, S, rfl, hH, tree, hn, st, ok, qn⟩ := h
  obtain ⟨r, b, h1, h2, h3⟩ := id st
  obtain ⟨rs, hrs, hlen, hds⟩ := id hH
  have hdn := tree.len
  have few := ok.few
  refine ⟨_, (pss_cons (ps_asg (pv 1) (pg_tup (n := 2) rfl (pgs_cons (pg_name (i := 2) sc_l_moves.nd rfl (.inl rfl)) (pgs_cons (pg_name (i := 3) sc_l_moves.nd rfl (.inl rfl)) pgs_nil))))
    (pss_cons (ps_set (i := 4) sc_l_moves.nd rfl (.inl rfl) (pe_lst pa_nil))
    (pss_cons (ps_for PassesOwn.never rfl (pi_enumT (by rfl) T.enumerate (pa_cons (pv 0) pa_nil)) (pg_tup (n := 2) rfl (pgs_cons (pg_name (i := 5) sc_l_moves.nd rfl (.inl rfl)) (pgs_cons (pg_tup (n := 2) rfl (pgs_cons (pg_name (i := 6) sc_l_moves.nd rfl (.inl rfl)) (pgs_cons (pg_name (i := 7) sc_l_moves.nd rfl (.inl rfl)) pgs_nil))) pgs_nil)))
    (pss_one (ps_for PassesOwn.never rfl (pi_enumT (by rfl) T.enumerate (pa_cons (pv 2) pa_nil)) (pg_tup (n := 2) rfl (pgs_cons (pg_name (i := 8) sc_l_moves.nd rfl (.inl rfl)) (pgs_cons (pg_name (i := 9) sc_l_moves.nd rfl (.inl rfl)) pgs_nil)))
    (pss_one (ps_if (PW.pt (pw_and (pt_cmpR op_ne (pe_ix ix_tup (pv 3) (pv 5) (fun _ _ => rfl)) (pv 8) (nomark _)) (pw_and1 (pt_cmpR op_in_seq (pv 9) (pe_tup (pa_cons (pv 6) (pa_cons (pv 7) pa_nil))) (by rfl))))) (pss_one (ps_expr (pe_bm PySem.F.plainAttrs_list PySem.F.slot_list_append PySem.F.type_list_append mt_append (pv 4) (pa_cons (pe_tup (pa_cons (pv 8) (pa_cons (pv 9) (pa_cons (pe_ix ix_list (pe_lst (pa_cons (pv 6) (pa_cons (pv 7) pa_nil))) (pe_callTy call_int1 (by rfl) T.int (by decide +kernel) (pa_cons (pe_cmpR op_eq (pv 9) (pv 6) (nomark _)) pa_nil)) (fun _ _ => rfl)) (pa_cons (pv 5) pa_nil))))) pa_nil)))) pss_nil)))))
    (pss_one (ps_ret (pv 4)))))), ?_⟩
  refine ⟨_, rfl, _, _, rfl, h1, rfl, _, _, rfl, _, _, rfl, rfl, ?_⟩
  refine ⟨Nat.zero_le _, fun p np => ?_⟩
  have sp := Same.upd (o := .lst []) np
  refine ⟨_, rfl, a, _, rfl, sp.tup hrs, ?_⟩
  refine for_it (walk_enumT (K := K) (a := a) (xs := rs.map V.ref)) (fun k σ H2 => ∃ (ts : List Addr) (qs : List Q4) (y5 y6 y7 y8 y9 : Option V), σ = [some (.ref a), some (.ref s), some (.ref r), some (.ref b), some (.ref p), y5, y6, y7, y8, y9] ∧ Same H H2 ∧ H2 p = some (.lst (ts.map V.ref)) ∧ QL H2 ts qs ∧
      qs.length ≤ 10 * k ∧ ∀ m, m ∈ qs ↔ m.2.2.2 < k ∧ QOk ds S m)
    ⟨[], [], _, _, _, _, _, rfl, sp, upd_same, ⟨rfl, fun i t m x y => by simp at x⟩, Nat.zero_le _, fun m => by simp⟩
    (fun i σ H1 _ ⟨_, _, _, _, _, _, _, _, sm, _⟩ => sm.tup hrs) ?_ ?_
  · rintro k x σ H2 H3 hk ⟨ts, qs, y5, y6, y7, y8, y9, rfl, sm, hp, ql, len, mem⟩ ⟨t, x1, x2, rfl, nt, rfl, ex1, ex2⟩
    cases ex1
    have hk' : k < ds.length := by
      rw [List.length_map, hlen] at hk
      exact hk
    obtain ⟨e, he⟩ : ∃ e, ds[k]? = some e := get_of rfl hk'
    obtain ⟨rr, hr0⟩ : ∃ r, rs[k]? = some r := get_of hlen hk'
    have ex2' : V.ref rr = x2 := by
      have ex2 : (rs.map V.ref)[k]? = some x2 := ex2
      rw [List.getElem?_map, hr0] at ex2
      exact Option.some.inj ex2
    subst ex2'
    obtain ⟨bk, hbk⟩ : ∃ bk, S.2[k]? = some bk := get_of ok.doors hk'
    have JA := joins_at he
    have ene : e.1 ≠ e.2 := fun z => by
      obtain ⟨side, s1, s2⟩ := tree.side
      exact s1 k e he (by rw [z])
    have smt : Same H2 (upd H2 t (.tup [.int (k : Nat), .ref rr])) := Same.upd nt
    have sm3 := sm.trans smt
    refine ⟨t, _, rfl, SqT.of upd_same, rfl, _, _, rfl, _, _, rfl, ⟨rr, _, rfl, sm3.tup (hds k rr e hr0 he), rfl, _, _, rfl, _, _, rfl, rfl, rfl, ?_⟩⟩
    have hp3 := smt _ _ hp
    have ql3 := ql.same smt
    generalize upd H2 t (.tup [.int (k : Nat), .ref rr]) = H4 at sm3 hp3 ql3 smt
    refine ⟨_, rfl, r, _, rfl, sm3.tup h2, ?_⟩
    refine for_it (walk_enumT (K := K) (a := r) (xs := nv S.1)) (fun i σ H2 => ∃ (ts : List Addr) (qs : List Q4) (y8 y9 : Option V), σ = [some (.ref a), some (.ref s), some (.ref r), some (.ref b), some (.ref p), some (.int (k : Int)), some (.int (e.1 : Int)), some (.int (e.2 : Int)), y8, y9] ∧ Same H H2 ∧ H2 p = some (.lst (ts.map V.ref)) ∧ QL H2 ts qs ∧
        qs.length ≤ 10 * k + i ∧ ∀ m, m ∈ qs ↔ (m.2.2.2 < k ∨ m.2.2.2 = k ∧ m.1 < i) ∧ QOk ds S m)
      ⟨ts, qs, _, _, rfl, sm3, hp3, ql3, by omega, fun m => by rw [mem m]; exact ⟨fun h => ⟨.inl h.1, h.2⟩, fun h => ⟨by omega, h.2⟩⟩⟩
      (fun i σ H1 _ ⟨_, _, _, _, _, sm, _⟩ => sm.tup h2) ?_ ?_
    · rintro i x σ H5 H6 hi ⟨ts, qs, y8, y9, rfl, sm5, hp5, ql5, len5, mem5⟩ ⟨t2, x1, x2, rfl, nt2, rfl, ex1, ex2⟩
      cases ex1
      obtain ⟨v, hv, rfl⟩ := nv_some ex2
      rw [nv_len] at hi
      have sm6 := sm5.trans (Same.upd (o := .tup [.int (i : Nat), .int (v : Int)]) nt2)
      refine ⟨t2, _, rfl, SqT.of upd_same, rfl, _, _, rfl, _, _, rfl, rfl, ?_⟩
      have hp6 := (Same.upd (o := .tup [.int (i : Nat), .int (v : Int)]) nt2) _ _ hp5
      have ql6 := ql5.same (Same.upd (o := .tup [.int (i : Nat), .int (v : Int)]) nt2)
      generalize upd H5 t2 (.tup [.int (i : Nat), .int (v : Int)]) = H7 at sm6 hp6 ql6
      refine ⟨_, rfl, _, rfl, b, _, _, _, rfl, rfl, sm6.tup h3, nv_at hbk, _, rfl, rfl, _, rfl, ?_⟩
      by_cases cb : bk = i
      · rw [decide_eq_true (show V.int (bk : Int) = V.int (i : Int) by rw [cb])]
        refine iteF (iteF ⟨ts, qs, _, _, rfl, sm6, hp6, ql6, by omega, q_skip mem5 fun m e1 e2 o => o.2.2 (by rw [e2, hbk, e1, cb])⟩)
      rw [decide_eq_false (show ¬ V.int (bk : Int) = V.int (i : Int) from fun z => cb (by have := V.int.inj z; omega))]
      refine iteT ?_
      refine ⟨_, rfl, _, rfl, _, rfl, by show 2 ≤ sizeLine; decide, fun p2 np2 => ?_⟩
      have s7 := Same.upd (o := .tup [.int (e.1 : Int), .int (e.2 : Int)]) np2
      refine ⟨p2, _, rfl, .inr (SqT.of upd_same), rfl, rfl, _, rfl, ?_⟩
      have s67 := sm6.trans s7
      have hp7 := s7 _ _ hp6
      have ql7 := ql6.same s7
      generalize upd H7 p2 (.tup [.int (e.1 : Int), .int (e.2 : Int)]) = H8 at s67 hp7 ql7 s7
      have hin : inV (V.int (v : Int)) [V.int (e.1 : Int), V.int (e.2 : Int)] = decide (v ∈ [e.1, e.2]) := inV_nv v [e.1, e.2]
      show if inV (V.int (v : Int)) [V.int (e.1 : Int), V.int (e.2 : Int)] = true then _ else _
      rw [hin]
      by_cases cv : v ∈ [e.1, e.2]
      case neg =>
        rw [decide_eq_false cv]
        refine iteF ⟨ts, qs, _, _, rfl, s67, hp7, ql7, by omega, q_skip mem5 fun m e1 e2 o => cv ?_⟩
        obtain ⟨o1, o2, o3⟩ := o
        rw [e1, hv] at o1
        rw [e2] at o2
        rw [Option.some.inj o1]
        rcases (JA _ _).mp o2 with h | h
        · rw [h.1]; simp
        · rw [h.1]; simp
      rw [decide_eq_true cv]
      refine iteT ⟨_, rfl, .inl ⟨rfl, _, SqL.of hp7⟩, ?_⟩
      refine ⟨_, rfl, _, rfl, _, rfl, _, rfl, by show 2 ≤ sizeLine; decide, fun pl npl => ?_⟩
      have s8 := Same.upd (o := .lst [.int (e.1 : Int), .int (e.2 : Int)]) npl
      have hp8 := s8 _ _ hp7
      have ql8 := ql7.same s8
      have s68 := s67.trans s8
      have hl8 : (upd H8 pl (.lst [.int (e.1 : Int), .int (e.2 : Int)])) pl = some (.lst (nv [e.1, e.2])) := upd_same
      generalize upd H8 pl (.lst [.int (e.1 : Int), .int (e.2 : Int)]) = H9 at hp8 ql8 s68 s8 hl8
      refine ⟨_, rfl, _, rfl, rfl, .inr ⟨_, rfl, ?_⟩⟩
      have fin : ∀ y : Nat, QOk ds S (i, v, y, k) → (∀ m : Q4, m.1 = i → m.2.2.2 = k → QOk ds S m → m = (i, v, y, k)) → ∀ (j : Nat) (kk : Int), kk = (j : Int) → [e.1, e.2][j]? = some y →
          rIxL K (.ref pl) (.int kk) H9 fun x H1 => tCons (tVar 5) tNil [some (.ref a), some (.ref s), some (.ref r), some (.ref b), some (.ref p), some (.int (k : Int)), some (.int (e.1 : Int)), some (.int (e.2 : Int)), some (.int (i : Int)), some (.int (v : Int))] H1 fun xs H2 =>
            (V.int (i : Int) :: V.int (v : Int) :: x :: xs).length ≤ sizeLine ∧ ∀ q, H2 q = none → rAppend (.ref p) [.ref q] (upd H2 q (.tup (V.int (i : Int) :: V.int (v : Int) :: x :: xs))) fun _ H' => 
              ∃ (ts : List Addr) (qs : List Q4) (y8 y9 : Option V), [some (V.ref a), some (.ref s), some (.ref r), some (.ref b), some (.ref p), some (.int (k : Int)), some (.int (e.1 : Int)), some (.int (e.2 : Int)), some (.int (i : Int)), some (.int (v : Int))] = [some (.ref a), some (.ref s), some (.ref r), some (.ref b), some (.ref p), some (.int (k : Int)), some (.int (e.1 : Int)), some (.int (e.2 : Int)), y8, y9] ∧ Same H H' ∧ H' p = some (.lst (ts.map V.ref)) ∧ QL H' ts qs ∧
        qs.length ≤ 10 * k + (i + 1) ∧ ∀ m, m ∈ qs ↔ (m.2.2.2 < k ∨ m.2.2.2 = k ∧ m.1 < i + 1) ∧ QOk ds S m := by
        intro y oy un j kk ek hj
        subst ek
        refine ⟨pl, _, _, _, rfl, rfl, SqL.of hl8, nv_at hj, ?_⟩
        refine ⟨_, rfl, by show 4 ≤ sizeLine; decide, fun t3 nt3 => ?_⟩
        have hp9 := (Same.upd (o := .tup (tQ (i, v, y, k))) nt3) _ _ hp8
        refine ⟨p, _, _, rfl, rfl, hp9, by rw [List.length_map, ql8.1]; exact small1000 (by omega), ?_⟩
        refine ⟨ts ++ [t3], qs ++ [(i, v, y, k)], _, _, rfl, (s68.trans (Same.upd nt3)).at np, by rw [upd_same, List.map_append]; rfl, ql8.push hp8 nt3, by rw [List.length_append, List.length_singleton]; omega, q_add mem5 rfl rfl oy un⟩
      by_cases c1 : v = e.1
      · have ok0 : QOk ds S (i, v, e.2, k) := ⟨hv, (JA _ _).mpr (.inl ⟨c1, rfl⟩), fun z => cb (Option.some.inj (hbk.symm.trans z))⟩
        rw [decide_eq_true (show V.int (v : Int) = V.int (e.1 : Int) by rw [c1])]
        refine fin e.2 ok0 (fun m e1 e2 o => ?_) 1 _ rfl rfl
        obtain ⟨m1, m2, m3, m4⟩ := m
        obtain ⟨o1, o2, o3⟩ := o
        dsimp only at e1 e2 o1 o2 o3
        subst e1
        subst e2
        rw [hv] at o1
        cases Option.some.inj o1
        rcases (JA _ _).mp o2 with h | h
        · rw [h.2]
        · exact absurd (c1.symm.trans h.1) ene
      · have c2 : v = e.2 := by
          rcases List.mem_cons.mp cv with h | h
          · exact absurd h c1
          · exact List.mem_singleton.mp h
        have ok0 : QOk ds S (i, v, e.1, k) := ⟨hv, (JA _ _).mpr (.inr ⟨c2, rfl⟩), fun z => cb (Option.some.inj (hbk.symm.trans z))⟩
        rw [decide_eq_false (show ¬ V.int (v : Int) = V.int (e.1 : Int) from fun z => c1 (by have := V.int.inj z; omega))]
        refine fin e.1 ok0 (fun m e1 e2 o => ?_) 0 _ rfl rfl
        obtain ⟨m1, m2, m3, m4⟩ := m
        obtain ⟨o1, o2, o3⟩ := o
        dsimp only at e1 e2 o1 o2 o3
        subst e1
        subst e2
        rw [hv] at o1
        cases Option.some.inj o1
        rcases (JA _ _).mp o2 with h | h
        · exact absurd h.1 c1
        · rw [h.2]
    · rintro σ H5 ⟨ts, qs, y8, y9, rfl, sm5, hp5, ql5, len5, mem5⟩
      rw [nv_len] at len5 mem5
      refine ⟨ts, qs, _, _, _, _, _, rfl, sm5, hp5, ql5, by omega, fun m => ?_⟩
      rw [mem5 m]
      exact ⟨fun h => ⟨by omega, h.2⟩, fun h => ⟨by have := get_lt h.2.1; omega, h.2⟩⟩
  · rintro σ H2 ⟨ts, qs, y5, y6, y7, y8, y9, rfl, sm, hp, ql, len, mem⟩
    refine ⟨_, rfl, qn H2 p ts qs sm np hp ql (fun m => ?_) (by rw [List.length_map, hlen] at len; omega)⟩
    rw [mem m]
    refine ⟨fun h => h.2, fun h => ⟨?_, h⟩⟩
    rw [List.length_map, hlen]
    exact joins_lt h.2.1
end
end K5

namespace K5
open PySem PySem.Spec PyProof.Rows L2
theorem nil_or_snoc (N : List Nat) : N = [] ∨ ∃ N' y, N = N' ++ [y] := by
  rcases List.eq_nil_or_concat N with h | ⟨N', y, h⟩
  · exact .inl h
  · exact .inr ⟨N', y, by rw [h, List.concat_eq_append]⟩
def spRState (K : PySem.W.Frag) : Sp := fun vs H Q _ => ∃ (g a : Addr) (b p n : Nat) (ds : List (Nat × Nat)), vs = [.ref g, .ref a, .int (p : Int)] ∧ GenAt H g b ∧ HouseAt K H a ds ∧ Tree n ds ∧ n ≤ 60 ∧ 1 ≤ p ∧ p ≤ 10 ∧ b < 2 ^ 59 ∧
  ∀ (H' : Hp) (s : Addr) (S : S2), But g H H' → GenAt H' g (b + 200) → StateAt K H' s S → StOk n ds S → S.1.length = p → Q (.ref s) H'
section
variable {P : Program} {w : World} {K : PySem.W.Frag}
      {mg : Str → Option Value} {base : Heap}
theorem ok_random_state (T : Bl mg) (D : Def K mg "_law_random_state" s_l_random_state) (C_l_random : Cal P w K mg base "_law_random" ["_law_generator_here", "_law_bound"] 2 spRand) : Cal P w K mg base "_law_random_state" ["_law_generator_here", "_law_layout", "_law_count"] 3 (spRState K) := by
  refine D.ok sc_l_random_state (fun _ _ _ _ _ _ us hl => match us, hl with | [_, _, _], _ => rfl) (fun vs H Q E h => ?_) (fun f cdv A outer s H vs Q E hr h => ?_)
  · obtain ⟨g, a, b, p, n, ds, rfl, _⟩ := h
    rfl
  obtain ⟨g, a, b, p, n, ds, rfl, hg, hH, tree, hn, hp1, hp4, hb, q⟩ := h
  obtain ⟨rs, hrs, hlen, hds⟩ := id hH
  have hdn := tree.len
  have hn1 : 1 ≤ n := by omega
  obtain ⟨f_l_random, fd_l_random, g_l_random, k_l_random, b_l_random, G_l_random⟩ := C_l_random
  refine ⟨_, (pss_cons (ps_set (i := 3) sc_l_random_state.nd rfl (.inr rfl) (pe_lc (own := [("_law_who", 4)]) (g := gName 4)  (te := (tCall spRand [] E0 (tCons (tVar 0) (tCons (tOp (rI0 fun i j => .int (i + j)) (tCB (fun xs H Q => ∃ p ys, xs = [V.ref p] ∧ (SqL K H p ys ∨ SqT K H p ys) ∧ Q (.int ys.length) H) (tCons (tVar 1) tNil)) (tC (.int 1))) tNil)))) rfl sc_l_random_state.nd (pi_range1 rfl T.range (pa_cons (pv 2) pa_nil)) (blkOk_by (N := N_l_random_state) (sc := defScope s_l_random_state) (own := [("_law_who", 4)]) (by decide +kernel)) (fun _ _ _ _ _ => (pg_name (i := 4) sc_l_random_state.nd rfl (.inl rfl) (.inr rfl))) (fun _ _ _ _ _ => pts_nil) (fun _ _ _ _ _ => (pe_call G_l_random (hr.mono (by decide)) (by rfl) g_l_random k_l_random b_l_random .nil pass0 (pa_cons (pv 0) (pa_cons (pe_op op_add (pe_callB call_len_seq (by rfl) T.len PySem.boot_len (pa_cons (pv 1) pa_nil)) pe_int) pa_nil))))))
    (pss_cons (ps_set (i := 5) sc_l_random_state.nd rfl (.inl rfl) (pe_lst pa_nil))
    (pss_cons (ps_set (i := 6) sc_l_random_state.nd rfl (.inr rfl) (pe_cmpR op_gt (pe_call G_l_random (hr.mono (by decide)) (by rfl) g_l_random k_l_random b_l_random .nil pass0 (pa_cons (pv 0) (pa_cons pe_int pa_nil))) pe_int (nomark _)))
    (pss_cons (ps_for PassesOwn.never rfl (pi_tup (pv 1)) (pg_tup (n := 2) rfl (pgs_cons (pg_name (i := 7) sc_l_random_state.nd rfl (.inr rfl)) (pgs_cons (pg_name (i := 8) sc_l_random_state.nd rfl (.inr rfl)) pgs_nil)))
    (pss_cons (ps_setLc (i := 9) (own := [("_law_who", 4)]) (g := gName 4)  (tt := (tAnd (fun σ H Q => tVar 6 σ H fun x H1 => ∃ k, TruV K x H1 k ∧ Q k H1) (tTest (tOp (rIn K false) (tOp (rIxL K) (tVar 3) (tVar 4)) (tTup (tCons (tVar 7) (tCons (tVar 8) tNil))))))) rfl sc_l_random_state.nd rfl rfl (sw_true rfl rfl rfl (by decide +kernel)) (pi_range1 rfl T.range (pa_cons (pv 2) pa_nil)) (blkOk_by (N := N_l_random_state) (sc := defScope s_l_random_state) (own := [("_law_who", 4)]) (by decide +kernel)) (fun _ _ _ _ _ => (pg_name (i := 4) sc_l_random_state.nd rfl (.inl rfl) (.inr rfl))) (fun _ _ _ _ _ => (pts_one (PW.pt (pw_and (pt_truth (pv 6) (by intro _; rfl)) (pw_and1 (pt_cmpR op_in_seq (pe_ix ix_list (pv 3) (pv 4) (fun _ _ => rfl)) (pe_tup (pa_cons (pv 7) (pa_cons (pv 8) pa_nil))) (by rfl))))))) (fun _ _ _ _ _ => (pv 4)))
    (pss_cons (ps_set (i := 10) sc_l_random_state.nd rfl (.inl rfl) (pe_ix ix_list (pe_orT (pv 9) (pe_one (pe_listRg rfl (by rfl) T.list (prg_1 (by rfl) T.range (pv 2))))) (pe_call G_l_random (hr.mono (by decide)) (by rfl) g_l_random k_l_random b_l_random .nil pass0 (pa_cons (pv 0) (pa_cons (pe_orT (pe_callB call_len_seq (by rfl) T.len PySem.boot_len (pa_cons (pv 9) pa_nil)) (pe_one (pv 2))) pa_nil))) (fun _ _ => rfl)))
    (pss_one (ps_expr (pe_bm PySem.F.plainAttrs_list PySem.F.slot_list_append PySem.F.type_list_append mt_append (pv 5) (pa_cons (pe_ix ix_list (pe_lst (pa_cons (pv 10) (pa_cons (pe_call G_l_random (hr.mono (by decide)) (by rfl) g_l_random k_l_random b_l_random .nil pass0 (pa_cons (pv 0) (pa_cons (pv 2) pa_nil))) pa_nil))) (pe_callTy call_int1 (by rfl) T.int (by decide +kernel) (pa_cons (pe_cmpR op_eq (pe_call G_l_random (hr.mono (by decide)) (by rfl) g_l_random k_l_random b_l_random .nil pass0 (pa_cons (pv 0) (pa_cons pe_int pa_nil))) pe_int (nomark _)) pa_nil)) (fun _ _ => rfl)) pa_nil)))))))
    (pss_one (ps_ret (pe_tup (pa_cons (pe_callTy call_tuple_of (by rfl) T.tuple (by decide +kernel) (pa_cons (pv 3) pa_nil)) (pa_cons (pe_callTy call_tuple_of (by rfl) T.tuple (by decide +kernel) (pa_cons (pv 5) pa_nil)) pa_nil))))))))), ?_⟩
  have en : (((rs.map V.ref).length : Nat) : Int) + 1 = ((n : Nat) : Int) := by
    rw [List.length_map, hlen]
    omega
  obtain ⟨gx, hgx⟩ := hg.lst
  refine ⟨_, rfl, (p : Int), rfl, by omega, by omega, fun pd npd => ?_⟩
  have npdg : pd ≠ g := hg.ne npd
  refine lc_range (lo := 0) (n := p) (fun i H3 => ∃ L : List Nat, But g H H3 ∧ GenAt H3 g (b + i) ∧ H3 pd = some (.lst (nv L)) ∧ L.length = i ∧ ∀ x ∈ L, x < n) ?_ ?_ ?_
  · exact ⟨[], (Same.upd npd).but, hg.at npdg, upd_same, rfl, fun x hx => (List.not_mem_nil hx).elim⟩
  · rintro i H3 hi ⟨L, bt3, g3, hL, hl, lt⟩
    refine ⟨rfl, lcYes ?_⟩
    refine ⟨_, rfl, _, rfl, _, _, rfl, .inr (bt3.tup hgx hrs), _, _, rfl, rfl, ?_⟩
    refine ⟨g, b + i, n, congrArg (fun z => [V.ref g, V.int z]) en, g3, by omega, by omega, by omega, fun H4 z bt4 g4 hz => ?_⟩
    refine ⟨_, bt4 _ _ npdg hL, by rw [nv_len]; exact small1000 (by omega), L ++ [z], (bt3.trans bt4).at npd _, g4.at npdg, by rw [upd_same, nv_snoc], by simp [hl], fun x hx => ?_⟩
    rcases List.mem_append.mp hx with hx | hx
    · exact lt x hx
    · rw [List.mem_singleton] at hx
      rw [hx]
      exact hz
  · rintro H3 ⟨L, bt3, g3, hL, hl, lt⟩
    refine ⟨Nat.zero_le _, fun pe npe => ?_⟩
    have npeg : pe ≠ g := g3.ne npe
    have hped : pd ≠ pe := ne_of_none hL npe
    have btA := bt3.at (bt3.free npeg npe) (.lst [])
    have gA := g3.at (o := .lst []) npeg
    have hA : (upd H3 pe (.lst [])) pe = some (.lst []) := upd_same
    have hLA : (upd H3 pe (.lst [])) pd = some (.lst (nv L)) := by rw [upd_ne hped]; exact hL
    generalize upd H3 pe (.lst []) = H4 at btA gA hA hLA
    refine ⟨_, rfl, g, b + p, 3, rfl, gA, by decide, by decide, by omega, fun H5 u bt5 g5 hu => ?_⟩
    refine ⟨_, _, rfl, rfl, ?_⟩
    have btB := btA.trans bt5
    refine ⟨_, rfl, a, rfl, ⟨_, btB.tup hgx hrs⟩, ?_⟩
    have npe0 : H pe = none := bt3.free npeg npe
    refine for_it (walk_tup (K := K) (a := a) (xs := rs.map V.ref)) (fun i σ H6 => ∃ (M : List Nat) (y7 y8 y9 y10 : Option V), σ = [some (.ref g), some (.ref a), some (.int (p : Int)), some (.ref pd), none, some (.ref pe), some (.bl (decide ((0 : Int) < (u : Int)))), y7, y8, y9, y10] ∧ But g H H6 ∧ GenAt H6 g (b + p + 1 + 3 * i) ∧ H6 pd = some (.lst (nv L)) ∧ H6 pe = some (.lst (nv M)) ∧ M.length = i ∧ ∀ y ∈ M, y < p)
      ⟨[], _, _, _, _, rfl, btB, g5, bt5 _ _ npdg hLA, bt5 _ _ npeg hA, rfl, fun x hx => (List.not_mem_nil hx).elim⟩ (fun i σ H6 _ ⟨_, _, _, _, _, _, bt6, _⟩ => bt6.tup hgx hrs) ?_ ?_
    · rintro i x σ H6 H7 hi ⟨M, y7, y8, y9, y10, rfl, bt6, g6, hL6, hM, hlM, ltM⟩ ⟨rfl, ex⟩
      have hi' : i < ds.length := by
        rw [List.length_map, hlen] at hi
        exact hi
      obtain ⟨r, hr1⟩ : ∃ r, rs[i]? = some r := get_of rfl (by rw [hlen]; exact hi')
      obtain ⟨e, he⟩ : ∃ e, ds[i]? = some e := get_of rfl hi'
      rw [List.getElem?_map, hr1] at ex
      cases ex
      have hre := hds i r e hr1 he
      refine ⟨r, _, rfl, bt6.tup hgx hre, rfl, _, _, rfl, _, _, rfl, rfl, ?_⟩
      refine ⟨_, rfl, (p : Int), rfl, by omega, by omega, fun pn npn => ?_⟩
      have npng : pn ≠ g := g6.ne npn
      have s7 := Same.upd (o := .lst []) npn
      refine lc_range (lo := 0) (n := p) (fun k H8 => ∃ N : List Nat, Same H7 H8 ∧ H8 pn = some (.lst (nv N)) ∧ N.length ≤ k ∧ ∀ y ∈ N, y < p) ⟨[], s7, upd_same, Nat.zero_le _, fun x hx => (List.not_mem_nil hx).elim⟩ ?_ ?_
      · rintro k H8 hk ⟨N, s8, hN, hlN, ltN⟩
        rw [Int.zero_add]
        refine ⟨rfl, _, rfl, decide ((0 : Int) < (u : Int)), rfl, ?_⟩
        cases hlo : decide ((0 : Int) < (u : Int)) with
        | false => exact iteF (iteF ⟨N, s8, hN, by omega, ltN⟩)
        | true =>
          obtain ⟨z, hz⟩ : ∃ z, L[k]? = some z := get_of hl hk
          refine iteT ?_
          refine ⟨_, rfl, _, rfl, pd, _, _, _, rfl, rfl, SqL.of (s8 _ _ hL6), nv_at hz, ?_⟩
          refine ⟨_, rfl, _, rfl, by show 2 ≤ sizeLine; decide, fun tp ntp => ?_⟩
          have s9 := s8.trans (Same.upd (o := .tup [.int (e.1 : Int), .int (e.2 : Int)]) ntp)
          refine ⟨tp, _, rfl, .inr (SqT.of upd_same), rfl, rfl, ?_⟩
          have npp : pn ≠ tp := ne_of_none hN ntp
          have hN9 : (upd H8 tp (.tup [.int (e.1 : Int), .int (e.2 : Int)])) pn = some (.lst (nv N)) := by rw [upd_ne npp]; exact hN
          refine ⟨_, rfl, ?_⟩
          generalize inV _ _ = c
          cases c with
          | false => exact iteF ⟨N, s9, hN9, by omega, ltN⟩
          | true =>
            refine iteT ⟨_, rfl, _, hN9, by rw [nv_len]; exact small1000 (by omega), N ++ [k], s9.at npn, by rw [upd_same, nv_snoc], by rw [List.length_append, List.length_singleton]; omega, fun y hy => ?_⟩
            rcases List.mem_append.mp hy with hy | hy
            · exact ltN y hy
            · rw [List.mem_singleton] at hy
              rw [hy]
              exact hk
      · rintro H8 ⟨N, s8, hN, hlN, ltN⟩
        have b8 : But g H H8 := bt6.trans s8.but
        have g8 := g6.same s8
        have hM8 := s8 _ _ hM
        have bp : b + p + 1 + 3 * i < 2 ^ 60 := by omega
        rcases nil_or_snoc N with rfl | ⟨N', y, rfl⟩
        refine ⟨_, rfl, false, .inl ⟨_, SqL.of hN, rfl⟩, iteF ?_⟩
        refine ⟨_, rfl, _, rfl, .of_le (Int.le_refl _) (by omega) (by omega) (by omega), fun pq npq => ?_⟩
        have en2 : rgV 0 (p : Int) = nv (List.range p) := rgV_nat p
        rw [en2]
        have s9 := Same.upd (o := .lst (nv (List.range p))) npq
        have g9 := g8.same s9
        have hq9 : (upd H8 pq (.lst (nv (List.range p)))) pq = some (.lst (nv (List.range p))) := upd_same
        have hN9 := s9 _ _ hN
        refine ⟨_, rfl, _, rfl, _, _, rfl, .inl (SqL.of hN9), false, rfl, iteF ⟨_, rfl, g, b + p + 1 + 3 * i, p, rfl, g9, by omega, by omega, bp, fun H9 v bt9 g9' hv => ?_⟩⟩
        have nqg : pq ≠ g := g8.ne npq
        refine ⟨pq, _, _, _, rfl, rfl, SqL.of (bt9 _ _ nqg hq9), nv_at (y := v) (by rw [List.getElem?_range hv]), ?_⟩
        have b9 : But g H H9 := (b8.trans s9.but).trans bt9
        have hM9 := bt9 _ _ npeg (s9 _ _ hM8)
        have hL9 := bt9 _ _ npdg (s9 _ _ (s8 _ _ hL6))
        have hz : v < p := hv
        generalize v = z at hz ⊢
        rotate_left
        refine ⟨_, rfl, true, .inl ⟨_, SqL.of hN, by simp [nv]⟩, iteT ?_⟩
        have hlp : (N' ++ [y]).length < 2 ^ 29 := Nat.lt_of_le_of_lt hlN (Nat.lt_of_le_of_lt hp4 (by decide))
        have hnz : (((nv (N' ++ [y])).length : Nat) : Int) ≠ 0 := by rw [nv_len, List.length_append, List.length_singleton]; omega
        refine ⟨_, rfl, _, rfl, _, _, rfl, .inl (SqL.of hN), true, (bne_iff_ne.mpr hnz).symm, iteT ⟨g, b + p + 1 + 3 * i, (N' ++ [y]).length, congrArg (fun z : Nat => [V.ref g, V.int (z : Int)]) (nv_len _), g8, by rw [List.length_append, List.length_singleton]; omega, hlp, bp, fun H9 v bt9 g9' hv => ?_⟩⟩
        obtain ⟨z, hzv⟩ : ∃ z, (N' ++ [y])[v]? = some z := get_of rfl hv
        refine ⟨pn, _, _, _, rfl, rfl, SqL.of (bt9 _ _ npng hN), nv_at hzv, ?_⟩
        have b9 : But g H H9 := b8.trans bt9
        have hM9 := bt9 _ _ npeg hM8
        have hL9 := bt9 _ _ npdg (s8 _ _ hL6)
        have hz : z < p := ltN z (List.mem_of_getElem? hzv)
        all_goals
          refine ⟨_, rfl, .inl ⟨rfl, _, SqL.of hM9⟩, _, rfl, _, rfl, _, rfl, g, b + p + 1 + 3 * i + 1, p, rfl, g9', by omega, by omega, by omega, fun H10 v2 bt10 g10 hv2 => ?_⟩
          refine ⟨by show 2 ≤ sizeLine; decide, fun pl npl => ?_⟩
          have nplg : pl ≠ g := g10.ne npl
          have gB := g10.at (o := .lst [.int (z : Int), .int (v2 : Int)]) nplg
          have bB := (b9.trans bt10).at ((b9.trans bt10).free nplg npl) (.lst [.int (z : Int), .int (v2 : Int)])
          refine ⟨_, rfl, g, b + p + 1 + 3 * i + 2, 5, rfl, gB, by decide, by decide, by omega, fun H11 v3 bt11 g11 hv3 => ?_⟩
          obtain ⟨ix, w, e1, e2, hw⟩ : ∃ (ix w : Nat), (if decide (V.int (v3 : Int) = V.int 0) = true then (1 : Int) else 0) = (ix : Int) ∧ ([z, v2] : List Nat)[ix]? = some w ∧ w < p := by
            by_cases c0 : V.int (v3 : Int) = V.int 0
            · exact ⟨1, v2, by rw [decide_eq_true c0]; rfl, rfl, hv2⟩
            · exact ⟨0, z, by rw [decide_eq_false c0]; rfl, rfl, hz⟩
          have hl11 := bt11 _ _ nplg (show (upd H10 pl (.lst [.int (z : Int), .int (v2 : Int)])) pl = some _ from upd_same)
          have hM11 := bt11 _ _ npeg (show (upd H10 pl (.lst [.int (z : Int), .int (v2 : Int)])) pe = some (.lst (nv M)) from by rw [upd_ne (ne_of_none (bt10 _ _ npeg hM9) npl)]; exact bt10 _ _ npeg hM9)
          have hL11 := bt11 _ _ npdg (show (upd H10 pl (.lst [.int (z : Int), .int (v2 : Int)])) pd = some (.lst (nv L)) from by rw [upd_ne (ne_of_none (bt10 _ _ npdg hL9) npl)]; exact bt10 _ _ npdg hL9)
          have bE := bB.trans bt11
          refine ⟨rfl, .inr ⟨_, rfl, pl, _, _, _, rfl, rfl, SqL.of hl11, (show atI (nv [z, v2]) (if decide (V.int (v3 : Int) = V.int 0) = true then (1 : Int) else 0) = some (V.int (w : Int)) from by rw [e1]; exact nv_at e2), ?_⟩⟩
          refine ⟨pe, _, _, rfl, rfl, hM11, by rw [nv_len, hlM]; exact small1000 (by omega), M ++ [w], _, _, _, _, rfl, bE.at npe0 _, (g11.at npeg).mono (by omega), by rw [upd_ne hped]; exact hL11, by rw [upd_same, nv_snoc], by rw [List.length_append, hlM]; rfl, fun y hy => ?_⟩
          rcases List.mem_append.mp hy with hy | hy
          · exact ltM y hy
          · rw [List.mem_singleton] at hy
            rw [hy]
            exact hw
    · rintro σ H6 ⟨M, y7, y8, y9, y10, rfl, bt6, g6, hL6, hM, hlM, ltM⟩
      rw [List.length_map, hlen] at hlM g6
      refine ⟨_, rfl, pd, _, rfl, .inl ⟨SqL.of hL6, fun t1 nt1 => ?_⟩⟩
      have nt1g : t1 ≠ g := g6.ne nt1
      have hM1 : (upd H6 t1 (.tup (nv L))) pe = some (.lst (nv M)) := by rw [upd_ne (ne_of_none hM nt1)]; exact hM
      refine ⟨_, rfl, pe, _, rfl, .inl ⟨SqL.of hM1, fun t2 nt2 => ?_⟩⟩
      have g7 := g6.at (o := .tup (nv L)) nt1g
      have nt2g : t2 ≠ g := g7.ne nt2
      refine ⟨by show 2 ≤ sizeLine; decide, fun t3 nt3 => ?_⟩
      have g8 := g7.at (o := .tup (nv M)) nt2g
      have n3g : t3 ≠ g := g8.ne nt3
      have s1 := Same.upd (o := .tup (nv L)) nt1
      have s2 := Same.upd (o := .tup (nv M)) nt2
      have s3 := Same.upd (o := .tup [.ref t1, .ref t2]) nt3
      have btE := ((bt6.trans s1.but).trans s2.but).trans s3.but
      refine q _ t3 (L, M) btE ((g8.at n3g).mono (by omega)) ⟨t1, t2, SqT.of upd_same, SqT.of (s3 _ _ (s2 _ _ upd_same)), SqT.of (s3 _ _ upd_same)⟩ ⟨?_, ?_, ?_, hlM, ?_⟩ hl
      · show 1 ≤ L.length
        omega
      · show L.length ≤ 10
        omega
      · exact lt
      · intro y hy
        show y < L.length
        rw [hl]
        exact ltM y hy
end
end K5

namespace K5
open PySem PySem.Spec PyProof.Rows L2
def tri (m : Q4) : Mv := (m.1, m.2.1, m.2.2.1)
def dQ (m : Q4) : PyData := .tuple [.int (m.1 : Int), .int (m.2.1 : Int), .int (m.2.2.1 : Int), .int (m.2.2.2 : Int)]
def dQs (l : List Q4) : PyData := .list (l.map dQ)
theorem dQ_lay (z : Q4) : (dQ z).canLay0 = true := by simp [dQ, PyData.canLay0, PyData.canLayAll0]
theorem dQ_depth (z : Q4) : (dQ z).depth ≤ 2 := by simp [dQ, PyData.depth, PyData.depthAll]
theorem dQs_lay : ∀ zs : List Q4, PyData.canLayAll0 (zs.map dQ) = true
  | [] => by simp [PyData.canLayAll0]
  | z :: zs => by simp [PyData.canLayAll0, dQ_lay z, dQs_lay zs]
theorem dQs_depth : ∀ zs : List Q4, PyData.depthAll (zs.map dQ) ≤ 2
  | [] => by simp [PyData.depthAll]
  | z :: zs => by
    have h1 := dQs_depth zs
    have h2 := dQ_depth z
    simp only [List.map_cons, PyData.depthAll]
    omega
theorem dQs_shaped (l : List Q4) : SeqAt.shaped (dQs l) = true := by
  have h := dQs_depth l
  refine shaped_mk ?_ ?_
  · simp only [dQs, PyData.canLay0]
    exact dQs_lay l
  · simp only [dQs, PyData.depth]
    omega
theorem dM_shaped (m : Mv) : SeqAt.shaped (dM m) = true := shaped_mk (dM_lay m) (by have := dM_depth m; omega)
theorem dQs_nil (l : List Q4) : PyData.eqv (dQs l) (dQs []) = decide (l = []) := by
  cases l with
  | nil => exact d_refl (dQs_shaped [])
  | cons m r =>
    rw [decide_eq_false (by simp)]
    simp only [dQs, List.map_cons, List.map_nil, PyData.eqv, PyData.eqvAll]
theorem dM_eqv (a b : Mv) : PyData.eqv (dM a) (dM b) = decide (a = b) := by
  obtain ⟨a1, a2, a3⟩ := a
  obtain ⟨b1, b2, b3⟩ := b
  by_cases h : (a1, a2, a3) = (b1, b2, b3)
  · rw [h, decide_eq_true rfl]
    exact d_refl (dM_shaped _)
  · rw [decide_eq_false h]
    simp only [dM, PyData.eqv, PyData.eqvAll]
    simp only [Prod.mk.injEq] at h
    rw [Bool.eq_false_iff]
    intro z
    simp at z
    exact h (by omega)
theorem dp_Q {K : PySem.W.Frag} {H : Hp} : ∀ (ts : List Addr) (l : List Q4), QL H ts l → DpAll K H (ts.map V.ref) (l.map dQ)
  | [], [], _ => .nil
  | [], m :: l, h => by have := h.1; simp at this
  | t :: ts, [], h => by have := h.1; simp at this
  | t :: ts, m :: l, h => .cons (.tup (SqT.of (h.2 0 t m rfl rfl)) (.cons (.int _) (.cons (.int _) (.cons (.int _) (.cons (.int _) .nil))))) (dp_Q ts l ⟨by have := h.1; simpa using this, fun i t' m' x y => h.2 (i + 1) t' m' x y⟩)
theorem QL.app {H : Hp} {ts : List Addr} {qs : List Q4} {t : Addr} {m : Q4} (h : QL H ts qs) (ht : H t = some (.tup (tQ m))) : QL H (ts ++ [t]) (qs ++ [m]) := by
  refine ⟨by rw [List.length_append, List.length_append, h.1]; rfl, fun i a b x y => ?_⟩
  by_cases hi : i < ts.length
  · rw [List.getElem?_append_left hi] at x
    rw [List.getElem?_append_left (by rw [← h.1]; exact hi)] at y
    exact h.2 i a b x y
  · rw [List.getElem?_append_right (by omega)] at x
    rw [List.getElem?_append_right (by rw [← h.1]; omega), ← h.1] at y
    generalize i - ts.length = j at x y
    match j with
    | 0 => cases x; cases y; exact ht
    | j + 1 => simp at x
theorem QL.but {g : Addr} {H H' : Hp} {ts : List Addr} {qs : List Q4} {xs : List V} (h : QL H ts qs) (hg : H g = some (.lst xs)) (s : But g H H') : QL H' ts qs := ⟨h.1, fun i t m x y => s _ _ (ne_lt hg (h.2 i t m x y)) (h.2 i t m x y)⟩
/-- the moves, one after the other, and where they lead -/
def Run (ds : List (Nat × Nat)) : S2 → List Mv → S2 → Prop
  | S, [], S' => S = S'
  | S, m :: r, S' => ∃ d, QOk ds S (m.1, m.2.1, m.2.2, d) ∧ Run ds (stepS S (m.1, m.2.1, m.2.2, d)) r S'
theorem stepS_ok {n : Nat} {ds : List (Nat × Nat)} {S : S2} {m : Q4} (T : Tree n ds) (h : StOk n ds S) (o : QOk ds S m) : StOk n ds (stepS S m) := by
  obtain ⟨o1, o2, o3⟩ := o
  have lt := get_lt o1
  have l2 := (o2.lt T).2.1
  refine ⟨?_, ?_, ?_, ?_, ?_⟩
  · show 1 ≤ (S.1.set _ _).length
    rw [List.length_set]; exact h.one
  · show (S.1.set _ _).length ≤ _
    rw [List.length_set]; exact h.few
  · intro x hx
    rcases List.mem_or_eq_of_mem_set hx with hx | rfl
    · exact h.rooms x hx
    · exact l2
  · show (S.2.set _ _).length = _
    rw [List.length_set]; exact h.doors
  · intro y hy
    show y < (S.1.set _ _).length
    rw [List.length_set]
    rcases List.mem_or_eq_of_mem_set hy with hy | rfl
    · exact h.bars y hy
    · exact lt
theorem set_ne' {α : Type} {l : List α} {i j : Nat} {x : α} (h : i ≠ j) : (l.set i x)[j]? = l[j]? := List.getElem?_set_ne h
/-- a door that a move uses is explained behind it, and so are those explained before -/
theorem Ex.used {ds : List (Nat × Nat)} {S : S2} {m : Q4} (o : QOk ds S m) (h2 : m.2.2.2 < S.2.length) : Ex ds (stepS S m) m.2.2.2 := by
  obtain ⟨o1, o2, o3⟩ := o
  have l1 := get_lt o1
  refine .mk (p := m.1) (r := m.2.2.1) (u := []) ?_ ?_ o2.symm (.nil _) (fun _ h => nomatch h)
  · show (S.2.set m.2.2.2 m.1)[m.2.2.2]? = _
    rw [List.getElem?_set_self h2]
  · show (S.1.set m.1 m.2.2.1)[m.1]? = _
    rw [List.getElem?_set_self l1]
theorem Ex.kept {ds : List (Nat × Nat)} {S : S2} {m : Q4} (o : QOk ds S m) (h2 : m.2.2.2 < S.2.length) {e : Nat} (h : Ex ds S e) : Ex ds (stepS S m) e := by
  have hd := Ex.used o h2
  obtain ⟨o1, o2, o3⟩ := o
  have l1 := get_lt o1
  induction h with
  | @mk e q r x y u hq hr j w hu ih =>
    by_cases ce : e = m.2.2.2
    · rw [ce]
      exact hd
    · have hq' : (stepS S m).2[e]? = some q := by
        show (S.2.set m.2.2.2 m.1)[e]? = _
        rw [List.getElem?_set_ne (Ne.symm ce)]
        exact hq
      by_cases cq : q = m.1
      · subst cq
        rw [o1] at hr
        cases hr
        refine .mk hq' (r := m.2.2.1) ?_ j (.cons o2.symm w) fun f hf => ?_
        · show (S.1.set m.1 m.2.2.1)[m.1]? = _
          rw [List.getElem?_set_self l1]
        · rcases List.mem_cons.mp hf with rfl | hf
          · exact hd
          · exact ih f hf
      · refine .mk hq' (r := r) ?_ j w fun f hf => ih f hf
        show (S.1.set m.1 m.2.2.1)[q]? = _
        rw [List.getElem?_set_ne (Ne.symm cq)]
        exact hr
end K5

namespace K5
open PySem PySem.Spec PyProof.Rows L2
theorem Run.snoc {ds : List (Nat × Nat)} {m : Q4} : ∀ {l : List Mv} {S S' : S2}, Run ds S l S' → QOk ds S' m → Run ds S (l ++ [tri m]) (stepS S' m)
  | [], S, S', h, o => by
    have h : S = S' := h
    subst h
    exact ⟨m.2.2.2, o, rfl⟩
  | a :: r, S, S', ⟨d, h1, h2⟩, o => ⟨d, h1, Run.snoc h2 o⟩
theorem Run.last {ds : List (Nat × Nat)} {m : Mv} : ∀ {l : List Mv} {S S' : S2}, Run ds S (l ++ [m]) S' → ∃ Sm d, Run ds S l Sm ∧ QOk ds Sm (m.1, m.2.1, m.2.2, d) ∧ S' = stepS Sm (m.1, m.2.1, m.2.2, d)
  | [], S, S', ⟨d, h1, h2⟩ => ⟨S, d, rfl, h1, h2.symm⟩
  | a :: r, S, S', ⟨d, h1, h2⟩ => by
    obtain ⟨Sm, d2, a1, a2, a3⟩ := Run.last h2
    exact ⟨Sm, d2, ⟨d, h1, a1⟩, a2, a3⟩
def spRPlay (K : PySem.W.Frag) : Sp := fun vs H Q _ => ∃ (g a s : Addr) (b n most : Nat) (ds : List (Nat × Nat)) (S : S2), vs = [.ref g, .ref a, .ref s, .int (most : Int)] ∧ GenAt H g b ∧ HouseAt K H a ds ∧ Tree n ds ∧ n ≤ 60 ∧ StateAt K H s S ∧ StOk n ds S ∧ most ≤ 40 ∧ b < 2 ^ 59 ∧
  ∀ (H' : Hp) (q sl sf : Addr) (l : List Mv) (S' : S2), But g H H' → GenAt H' g (b + 100) → H' q = some (.lst [.ref sl, .ref sf]) → TrisAt H' sl l → sl ≠ g → Run ds S l S' → S'.1.length = S.1.length → l.length ≤ 40 → StateAt K H' sf S' → StOk n ds S' → Q (.ref q) H'
section
variable {P : Program} {w : World} {K : PySem.W.Frag}
      {mg : Str → Option Value} {base : Heap}
theorem TrisAt.but {g q : Addr} {H H' : Hp} {l : List Mv} {xs : List V} (h : TrisAt H q l) (hg : H g = some (.lst xs)) (ne : q ≠ g) (s : But g H H') : TrisAt H' q l := by
  obtain ⟨ts, h1, h2⟩ := h
  exact ⟨ts, s _ _ ne h1, h2.but hg s⟩
theorem ok_random_play (T : Bl mg) (D : Def K mg "_law_random_play" s_l_random_play) (C_l_random : Cal P w K mg base "_law_random" ["_law_generator_here", "_law_bound"] 2 spRand) (C_l_moves : Cal P w K mg base "_law_moves" ["_law_layout", "_law_situation"] 1 (spMoves K))
    (C_l_after_move : Cal P w K mg base "_law_after_move" ["_law_situation", "_law_move"] 1 (spAfter K)) : Cal P w K mg base "_law_random_play" ["_law_generator_here", "_law_layout", "_law_situation", "_law_longest"] 3 (spRPlay K) := by
  refine D.ok sc_l_random_play (fun _ _ _ _ _ _ us hl => match us, hl with | [_, _, _, _], _ => rfl) (fun vs H Q E h => ?_) (fun f cdv A outer s H vs Q E hr h => ?_)
  · obtain ⟨g, a, s, b, n, most, ds, S, rfl, _⟩ := h
    rfl
  obtain ⟨g, a, s, b, n, most, ds, S, rfl, hg, hH, tree, hn, st, ok, hm, hb, q⟩ := h
  have hdn := tree.len
  obtain ⟨gx, hgx⟩ := hg.lst
  obtain ⟨f_l_random, fd_l_random, g_l_random, k_l_random, b_l_random, G_l_random⟩ := C_l_random
  obtain ⟨f_l_moves, fd_l_moves, g_l_moves, k_l_moves, b_l_moves, G_l_moves⟩ := C_l_moves
  obtain ⟨f_l_after_move, fd_l_after_move, g_l_after_move, k_l_after_move, b_l_after_move, G_l_after_move⟩ := C_l_after_move
  refine ⟨_, (pss_cons (ps_set (i := 4) sc_l_random_play.nd rfl (.inl rfl) (pe_lst pa_nil))
    (pss_cons (ps_for PassesOwn.never rfl (pi_range1 rfl T.range (pa_cons (pe_call G_l_random (hr.mono (by decide)) (by rfl) g_l_random k_l_random b_l_random .nil pass0 (pa_cons (pv 0) (pa_cons (pe_op op_add (pv 3) pe_int) pa_nil))) pa_nil)) (pg_name (i := 5) sc_l_random_play.nd rfl (.inl rfl))
    (pss_cons (ps_set (i := 6) sc_l_random_play.nd rfl (.inl rfl) (pe_call G_l_moves (hr.mono (by decide)) (by rfl) g_l_moves k_l_moves b_l_moves .nil pass0 (pa_cons (pv 1) (pa_cons (pv 2) pa_nil))))
    (pss_one (ps_if (pt_cmpR (op_neD hr.units) (pv 6) (pe_lst pa_nil) (nomark _)) (pss_cons (ps_set (i := 7) sc_l_random_play.nd rfl (.inl rfl) (pe_ix ix_list (pv 6) (pe_call G_l_random (hr.mono (by decide)) (by rfl) g_l_random k_l_random b_l_random .nil pass0 (pa_cons (pv 0) (pa_cons (pe_callB call_len_seq (by rfl) T.len PySem.boot_len (pa_cons (pv 6) pa_nil)) pa_nil))) (fun _ _ => rfl)))
    (pss_cons (ps_set (i := 2) sc_l_random_play.nd rfl (.inl rfl) (pe_call G_l_after_move (hr.mono (by decide)) (by rfl) g_l_after_move k_l_after_move b_l_after_move .nil pass0 (pa_cons (pv 2) (pa_cons (pv 7) pa_nil))))
    (pss_one (ps_expr (pe_bm PySem.F.plainAttrs_list PySem.F.slot_list_append PySem.F.type_list_append mt_append (pv 4) (pa_cons (pe_slice sl_tup (pv 7) po_none (po_some pe_int)) pa_nil)))))) pss_nil))))
    (pss_one (ps_ret (pe_lst (pa_cons (pv 4) (pa_cons (pv 2) pa_nil))))))), ?_⟩
  refine ⟨Nat.zero_le _, fun p np => ?_⟩
  have npg : p ≠ g := hg.ne np
  have bt0 : But g H (upd H p (.lst [])) := (Same.upd np).but
  refine ⟨_, rfl, _, rfl, _, _, rfl, rfl, g, b, most + 1, rfl, hg.at npg, by omega, by omega, by omega, fun H1 cnt bt1 g1 hc => ?_⟩
  have bt01 := bt0.trans bt1
  have hp1 : H1 p = some (.lst []) := bt1 _ _ npg upd_same
  refine ⟨(cnt : Int), rfl, by omega, by omega, ?_⟩
  refine for_range (lo := 0) (n := cnt) (fun i σ H2 => ∃ l sa S' y5 y6 y7, σ = [some (.ref g), some (.ref a), some (.ref sa), some (.int (most : Int)), some (.ref p), y5, y6, y7] ∧ But g H H2 ∧ GenAt H2 g (b + 1 + i) ∧ TrisAt H2 p l ∧ StateAt K H2 sa S' ∧ StOk n ds S' ∧ Run ds S l S' ∧ S'.1.length = S.1.length ∧ l.length ≤ i)
    ⟨[], s, S, _, _, _, rfl, bt01, g1, ⟨[], hp1, TL.nil⟩, st.but hgx bt01, ok, rfl, rfl, Nat.zero_le _⟩ ?_ ?_
  · rintro i σ H2 hi ⟨l, sa, S', y5, y6, y7, rfl, bt, g2, tr, st2, ok2, ae, le2, ll⟩
    rw [Int.zero_add]
    have hH2 := hH.but hgx bt
    refine ⟨_, rfl, _, rfl, a, sa, n, ds, S', rfl, hH2, tree, hn, st2, ok2, fun H3 q1 ta qs s3 nq1 f1 f2 mem qlen => ?_⟩
    have g3 := g2.same s3
    have tr3 := tr.same s3
    have st3 := st2.same s3
    have bt3 := bt.trans s3.but
    have nq1g : q1 ≠ g := g2.ne nq1
    refine ⟨_, rfl, Nat.zero_le _, fun pe npe => ?_⟩
    have s4 := Same.upd (o := .lst []) npe
    refine ⟨dQs qs, dQs [], .lst (SqL.of (s4 _ _ f1)) (dp_Q ta qs (f2.same s4)), .lst (SqL.of upd_same) .nil, dQs_shaped _, dQs_shaped _, _, rfl, ?_⟩
    rw [dQs_nil]
    have g4 := g3.same s4
    have tr4 := tr3.same s4
    have st4 := st3.same s4
    have f14 := s4 _ _ f1
    have f24 := f2.same s4
    have bt4 := bt3.trans s4.but
    generalize upd H3 pe (.lst []) = H4 at g4 tr4 st4 f14 f24 bt4
    by_cases ca : qs = []
    · rw [decide_eq_true ca]
      exact iteF ⟨l, sa, S', _, _, _, rfl, bt4, g4.mono (by omega), tr4, st4, ok2, ae, by omega⟩
    · rw [decide_eq_false ca]
      refine iteT ?_
      have al0 : 0 < qs.length := List.length_pos_iff.mpr ca
      refine ⟨_, rfl, _, rfl, _, rfl, q1, _, rfl, .inl (SqL.of f14), ?_⟩
      refine ⟨g, b + 1 + i, qs.length, by rw [List.length_map, f24.1]; rfl, g4, al0, by omega, by omega, fun H5 u bt5 g5 hu => ?_⟩
      obtain ⟨gx4, hgx4⟩ := g4.lst
      obtain ⟨t1, ht1⟩ : ∃ t1, ta[u]? = some t1 := get_of f24.1 hu
      obtain ⟨m, hm'⟩ : ∃ m, qs[u]? = some m := get_of rfl hu
      have qok : QOk ds S' m := (mem m).mp (List.mem_of_getElem? hm')
      have h5m := bt5 _ _ (ne_lt hgx4 (f24.2 u t1 m ht1 hm')) (f24.2 u t1 m ht1 hm')
      refine ⟨q1, _, _, .ref t1, rfl, rfl, SqL.of (bt5 _ _ nq1g f14), atI_nat (by rw [List.getElem?_map, ht1]; rfl), ?_⟩
      have st5 := st4.but hgx4 bt5
      have tr5 := tr4.but hgx4 npg bt5
      have bt05 := bt4.trans bt5
      have l1 := get_lt qok.1
      have l2 : m.2.2.2 < S'.2.length := by rw [ok2.doors]; exact joins_lt qok.2.1
      have few := ok2.few
      have drs := ok2.doors
      refine ⟨_, rfl, _, rfl, sa, t1, S', m, rfl, st5, h5m, l1, l2, by omega, by omega, fun H6 q2 s6 st6 => ?_⟩
      have h6m := s6 _ _ h5m
      obtain ⟨tl, e1, e2⟩ := tr5.same s6
      have g6 := g5.same s6
      refine ⟨_, rfl, .inl ⟨rfl, _, SqL.of e1⟩, _, rfl, _, rfl, t1, _, rfl, SqT.of h6m, (show ¬ (HT.sIx 4 0 none = 0 ∧ HT.sIx 4 4 (some 3) = 4) by decide +kernel), fun p1 np1 => ?_⟩
      have hc : cutV (tQ m) none (some 3) = tI (tri m) := rfl
      rw [hc]
      have s7 := Same.upd (o := .tup (tI (tri m))) np1
      have hp1 : (upd H6 p1 (.tup (tI (tri m)))) p1 = some (.tup (tI (tri m))) := upd_same
      have e17 := s7 _ _ e1
      have e27 := e2.same s7
      have g7 := g6.same s7
      have st7 := st6.same s7
      have bt07 := (bt05.trans s6.but).trans s7.but
      generalize upd H6 p1 (.tup (tI (tri m))) = H7 at hp1 e17 e27 g7 st7 bt07
      refine ⟨p, _, _, rfl, rfl, e17, by rw [List.length_map, e27.1]; exact small1000 (by omega), ?_⟩
      have btp : But p H7 (upd H7 p (.lst (tl.map V.ref ++ [.ref p1]))) := But.upd (But.refl _ _) _
      exact ⟨l ++ [tri m], q2, stepS S' m, _, _, _, rfl, bt07.at np _, (g7.at npg).mono (by omega), ⟨tl ++ [p1], by rw [upd_same, List.map_append]; rfl, (e27.append (TL.one hp1)).but e17 btp⟩, st7.but e17 btp, stepS_ok tree ok2 qok, ae.snoc qok, (by show (S'.1.set _ _).length = _; rw [List.length_set]; exact le2), by simp; omega⟩
  · rintro σ H2 ⟨l, sa, S', y5, y6, y7, rfl, bt, g2, tr, st2, ok2, ae, le2, ll⟩
    refine ⟨_, rfl, _, rfl, by show 2 ≤ sizeLine; decide, fun q0 nq0 => ?_⟩
    have s3 := Same.upd (o := .lst [.ref p, .ref sa]) nq0
    exact q _ q0 p sa l S' (bt.trans s3.but) ((g2.same s3).mono (by omega)) upd_same (tr.same s3) npg ae le2 (by omega) (st2.same s3) ok2
end
end K5

namespace K5
open PySem PySem.Spec PyProof.Rows L2
def spPlay (K : PySem.W.Frag) : Sp := fun vs H Q _ => ∃ (a s t : Addr) (n : Nat) (ds : List (Nat × Nat)) (S S' : S2) (ms : List Mv), vs = [.ref a, .ref s, .ref t] ∧ HouseAt K H a ds ∧ Tree n ds ∧ n ≤ 60 ∧ StateAt K H s S ∧ StOk n ds S ∧ TrisAt H t ms ∧ Run ds S ms S' ∧
  ∀ (H' : Hp) (q : Addr), Same H H' → StateAt K H' q S' → Q (.ref q) H'
section
variable {P : Program} {w : World} {K : PySem.W.Frag}
      {mg : Str → Option Value} {base : Heap}
theorem ok_l_play (T : Bl mg) (D : Def K mg "_law_play" s_l_play) (C_l_moves : Cal P w K mg base "_law_moves" ["_law_layout", "_law_situation"] 1 (spMoves K)) (C_l_after_move : Cal P w K mg base "_law_after_move" ["_law_situation", "_law_move"] 1 (spAfter K)) : Cal P w K mg base "_law_play" ["_law_layout", "_law_situation", "_law_moves_here"] 2 (spPlay K) := by
  refine D.ok sc_l_play (fun _ _ _ _ _ _ us hl => match us, hl with | [_, _, _], _ => rfl) (fun vs H Q E h => ?_) (fun f cdv A outer s0 H vs Q E hr h => ?_)
  · obtain ⟨a, s, t, n, ds, S, S', ms, rfl, _⟩ := h
    rfl
  obtain ⟨a, s, t, n, ds, S, S', ms, rfl, hH, tree, hn, st, ok, ⟨ts, ht, tl⟩, run, qn⟩ := h
  have hdn := tree.len
  obtain ⟨f_l_moves, fd_l_moves, g_l_moves, k_l_moves, b_l_moves, G_l_moves⟩ := C_l_moves
  obtain ⟨f_l_after_move, fd_l_after_move, g_l_after_move, k_l_after_move, b_l_after_move, G_l_after_move⟩ := C_l_after_move
  refine ⟨_, (pss_cons (ps_for PassesOwn.never rfl (pi_list (pv 2)) (pg_tup (n := 3) rfl (pgs_cons (pg_name (i := 3) sc_l_play.nd rfl (.inr rfl)) (pgs_cons (pg_name (i := 4) sc_l_play.nd rfl (.inr rfl)) (pgs_cons (pg_name (i := 5) sc_l_play.nd rfl (.inr rfl)) pgs_nil))))
    (pss_cons (ps_setLc (i := 6) (own := [("_law_move", 7)]) (g := gName 7)  (tt := (tTest (tOp (rEqD K) (tSl (rSlT K) (tVar 7) tNoPart (tPart (tC (.int 3)))) (tTup (tCons (tVar 3) (tCons (tVar 4) (tCons (tVar 5) tNil))))))) rfl sc_l_play.nd rfl rfl (sw_true rfl rfl rfl (by decide +kernel)) (pi_list (pe_call G_l_moves (hr.mono (by decide)) (by rfl) g_l_moves k_l_moves b_l_moves .nil pass0 (pa_cons (pv 0) (pa_cons (pv 1) pa_nil)))) (blkOk_by (N := N_l_play) (sc := defScope s_l_play) (own := [("_law_move", 7)]) (by decide +kernel)) (fun _ _ _ _ _ => (pg_name (i := 7) sc_l_play.nd rfl (.inl rfl) (.inr rfl))) (fun _ _ _ _ _ => (pts_one (pt_cmpR (op_eqD hr.units) (pe_slice sl_tup (pv 7) po_none (po_some pe_int)) (pe_tup (pa_cons (pv 3) (pa_cons (pv 4) (pa_cons (pv 5) pa_nil)))) (nomark _)))) (fun _ _ _ _ _ => (pv 7)))
    (pss_cons (ps_if (pt_cmpR (op_eqD hr.units) (pv 6) (pe_lst pa_nil) (nomark _)) (pss_one (ps_ret pe_non)) pss_nil)
    (pss_one (ps_set (i := 1) sc_l_play.nd rfl (.inl rfl) (pe_call G_l_after_move (hr.mono (by decide)) (by rfl) g_l_after_move k_l_after_move b_l_after_move .nil pass0 (pa_cons (pv 1) (pa_cons (pe_ix ix_list (pv 6) pe_int (fun _ _ => rfl)) pa_nil))))))))
    (pss_one (ps_ret (pv 1)))), ?_⟩
  refine ⟨_, rfl, t, rfl, ⟨_, SqL.of ht⟩, ?_⟩
  refine for_it (walk_list (K := K) (a := t) (xs := ts.map V.ref)) (fun i σ H2 => ∃ (si : Addr) (Si : S2) (y3 y4 y5 y6 y7 : Option V), σ = [some (.ref a), some (.ref si), some (.ref t), y3, y4, y5, y6, y7] ∧ Same H H2 ∧ StateAt K H2 si Si ∧ StOk n ds Si ∧ Run ds Si (ms.drop i) S')
    ⟨s, S, _, _, _, _, _, rfl, Same.refl _, st, ok, run⟩ (fun i σ H2 _ ⟨_, _, _, _, _, _, _, _, sm, _⟩ => SqL.of (sm _ _ ht)) ?_ ?_
  · rintro i x σ H2 H3 hi ⟨si, Si, y3, y4, y5, y6, y7, rfl, sm, sti, oki, rui⟩ ⟨rfl, ex⟩
    have hi' : i < ms.length := by
      rw [List.length_map, tl.1] at hi
      exact hi
    obtain ⟨t1, ht1⟩ : ∃ t1, ts[i]? = some t1 := get_of tl.1 hi'
    obtain ⟨m, hm⟩ : ∃ m, ms[i]? = some m := get_of rfl hi'
    have ex : (ts.map V.ref)[i]? = some x := ex
    rw [List.getElem?_map, ht1] at ex
    cases ex
    have dh : ms.drop i = m :: ms.drop (i + 1) := by
      rw [List.drop_eq_getElem_cons hi']
      rw [List.getElem?_eq_getElem hi'] at hm
      rw [Option.some.inj hm]
    rw [dh] at rui
    obtain ⟨d, qok, rui⟩ := rui
    refine ⟨t1, _, rfl, SqT.of (sm _ _ (tl.2 i t1 m ht1 hm)), rfl, _, _, rfl, _, _, rfl, _, _, rfl, rfl, ?_⟩
    refine ⟨_, rfl, _, rfl, a, si, n, ds, Si, rfl, hH.same sm, tree, hn, sti, oki, fun H4 q fs qs s4 nq hq ql mem qlen => ?_⟩
    refine ⟨q, rfl, ⟨_, SqL.of hq⟩, fun pd npd => ?_⟩
    refine lc_it (walk_list (K := K) (a := q) (xs := fs.map V.ref)) (fun j H5 => ∃ (gs : List Addr), Same H4 H5 ∧ H5 pd = some (.lst (gs.map V.ref)) ∧ QL H5 gs ((qs.take j).filter fun z => decide (tri z = m)))
      ⟨[], Same.upd npd, upd_same, ⟨rfl, fun i t m x y => by simp at x⟩⟩ (fun j H5 _ ⟨_, h, _⟩ => SqL.of (h _ _ hq)) ?_ ?_
    · rintro j x H5 H6 hj ⟨gs, s5, hp5, ql5⟩ ⟨rfl, ex⟩
      have hj' : j < qs.length := by
        rw [List.length_map, ql.1] at hj
        exact hj
      obtain ⟨t2, ht2⟩ : ∃ t2, fs[j]? = some t2 := get_of ql.1 hj'
      obtain ⟨z, hz⟩ : ∃ z, qs[j]? = some z := get_of rfl hj'
      have ex : (fs.map V.ref)[j]? = some x := ex
      rw [List.getElem?_map, ht2] at ex
      cases ex
      have htz := s5 _ _ (ql.2 j t2 z ht2 hz)
      refine ⟨rfl, ?_⟩
      refine ⟨_, rfl, _, rfl, t2, _, rfl, SqT.of htz, (show ¬ (HT.sIx 4 0 none = 0 ∧ HT.sIx 4 4 (some 3) = 4) by decide +kernel), fun p1 np1 => ?_⟩
      have hc : cutV (tQ z) none (some 3) = tI (tri z) := rfl
      rw [hc]
      have sa := Same.upd (o := .tup (tI (tri z))) np1
      have hp1 : (upd H6 p1 (.tup (tI (tri z)))) p1 = some (.tup (tI (tri z))) := upd_same
      have s5a := s5.trans sa
      have hp5a := sa _ _ hp5
      have ql5a := ql5.same sa
      have htz5a := sa _ _ htz
      generalize upd H6 p1 (.tup (tI (tri z))) = H7 at sa hp1 s5a hp5a ql5a htz5a
      refine ⟨_, rfl, _, rfl, _, rfl, by show 3 ≤ sizeLine; decide, fun p2 np2 => ?_⟩
      have sb := Same.upd (o := .tup (tI m)) np2
      refine ⟨dM (tri z), dM m, .tup (SqT.of (sb _ _ hp1)) (.cons (.int _) (.cons (.int _) (.cons (.int _) .nil))), .tup (SqT.of upd_same) (.cons (.int _) (.cons (.int _) (.cons (.int _) .nil))), dM_shaped _, dM_shaped _, _, rfl, ?_⟩
      rw [dM_eqv]
      have s5b := s5a.trans sb
      have hp5b := sb _ _ hp5a
      have ql5b := ql5a.same sb
      have htz5b := sb _ _ htz5a
      have tk : (qs.take (j + 1)).filter (fun z => decide (tri z = m)) = (qs.take j).filter (fun z => decide (tri z = m)) ++ if tri z = m then [z] else [] := by
        rw [List.take_succ, hz, List.filter_append]
        congr 1
        by_cases c : tri z = m
        · simp [c]
        · simp [c]
      rw [tk]
      by_cases c : tri z = m
      · rw [decide_eq_true c, if_pos c]
        have gl : gs.length ≤ qs.length := by
          rw [ql5b.1]
          refine Nat.le_trans (List.length_filter_le _ _) ?_
          rw [List.length_take]
          omega
        refine iteT ⟨_, rfl, _, hp5b, by rw [List.length_map]; exact small1000 (by omega), gs ++ [t2], s5b.at (s4.free npd |> fun _ => npd), by rw [upd_same, List.map_append]; rfl, ?_⟩
        exact (ql5b.app htz5b).but hp5b (But.upd (But.refl _ _) _)
      · rw [decide_eq_false c, if_neg c, List.append_nil]
        exact iteF ⟨gs, s5b, hp5b, ql5b⟩
    · rintro H5 ⟨gs, s5, hp5, ql5⟩
      rw [List.length_map, ql.1, List.take_length] at ql5
      have inq : (m.1, m.2.1, m.2.2, d) ∈ qs := (mem _).mpr qok
      obtain ⟨z, zs, hzs⟩ : ∃ z zs, qs.filter (fun z => decide (tri z = m)) = z :: zs := by
        cases e : qs.filter (fun z => decide (tri z = m)) with
        | nil =>
          have : (m.1, m.2.1, m.2.2, d) ∈ qs.filter (fun z => decide (tri z = m)) := List.mem_filter.mpr ⟨inq, decide_eq_true rfl⟩
          rw [e] at this
          cases this
        | cons z zs => exact ⟨z, zs, rfl⟩
      have hzm : z ∈ qs.filter (fun z => decide (tri z = m)) := by rw [hzs]; exact List.mem_cons_self
      obtain ⟨z1, z2⟩ := List.mem_filter.mp hzm
      have z2 := of_decide_eq_true z2
      have z3 := (mem z).mp z1
      have ez : z = (m.1, m.2.1, m.2.2, d) := by
        obtain ⟨a1, a2, a3, a4⟩ := z
        cases z2
        rw [show a4 = d from tree.one_door z3.2.1 qok.2.1]
        rfl
      rw [hzs, ez] at ql5
      have s35 := (sm.trans s4).trans s5
      have sti5 := sti.same (s4.trans s5)
      refine ⟨_, rfl, Nat.zero_le _, fun pe npe => ?_⟩
      have se := Same.upd (o := .lst []) npe
      refine ⟨dQs _, dQs [], .lst (SqL.of (se _ _ hp5)) (dp_Q _ _ (ql5.same se)), .lst (SqL.of upd_same) .nil, dQs_shaped _, dQs_shaped _, _, rfl, ?_⟩
      rw [dQs_nil, decide_eq_false (by simp)]
      refine iteF ?_
      have s36 := s35.trans se
      have sti6 := sti5.same se
      have hp6 := se _ _ hp5
      have ql6 := ql5.same se
      obtain ⟨g0, gr, rfl⟩ : ∃ g0 gr, gs = g0 :: gr := by
        cases gs with
        | nil => have := ql5.1; simp at this
        | cons g0 gr => exact ⟨g0, gr, rfl⟩
      have hg0 := ql6.2 0 g0 _ rfl rfl
      have oki2 := stepS_ok tree oki qok
      have f1 := oki.few
      have f2 := oki.doors
      refine ⟨_, rfl, _, rfl, pd, _, _, V.ref g0, rfl, rfl, SqL.of hp6, atI_nat (j := 0) rfl, si, g0, Si, _, rfl, sti6, hg0, get_lt qok.1, by rw [f2]; exact joins_lt qok.2.1, by omega, by omega, fun H7 q7 s7 st7 => ?_⟩
      exact ⟨q7, _, _, _, _, _, _, rfl, s36.trans s7, st7, oki2, rui⟩
  · rintro σ H2 ⟨si, Si, y3, y4, y5, y6, y7, rfl, sm, sti, oki, rui⟩
    rw [List.length_map, tl.1, List.drop_length] at rui
    refine ⟨_, rfl, qn H2 si sm ?_⟩
    rw [← show Si = S' from rui]
    exact sti
end
end K5

namespace L2
open PySem PySem.Spec PyProof.Rows
/-! own rule: list(o.values()), values of any kind -/
theorem vals_by_at : ∀ (xs : List V) (us : List Value), us.length = xs.length → (∀ (i : Nat) (x : V) (u : Value), xs[i]? = some x → us[i]? = some u → RelV x u) → Vals xs us
  | [], [], _, _ => .nil
  | [], _ :: _, h, _ => by simp at h
  | _ :: _, [], h, _ => by simp at h
  | x :: xs, u :: us, h, hr => .cons (hr 0 x u rfl rfl) (vals_by_at xs us (by simpa using h) fun i x' u' a b => hr (i + 1) x' u' a b)
def tListVals (td : TE) : TE := fun σ H Q => td σ H fun x H1 => ∃ a kvs, x = V.ref a ∧ H1 a = some (.dK kvs) ∧ ∀ p, H1 p = none → Q (.ref p) (upd H1 p (.lst (kvs.map fun kv => kv.2)))
section
variable {X : Cx} {o : Expr} {p pos apos mpos : Pos} {td : TE}
theorem pe_listVals (hc : X.calm = true) (hg : Gl X "list") (hm : X.mg "list" = none) (hd : PE X o td) (hbase : attributeBase o "values" X.env (eval o X.env) = eval o X.env := by rfl) (hline : (apos.endLine == mpos.line) = true := by rfl)
    (hse : starEach [Expr.Call (.Attribute o "values" apos) [] [] mpos] X.env = [(false,
          eval (Expr.Call (.Attribute o "values" apos) [] [] mpos) X.env)] := by rfl) :
    PE X (.Call (.Name "list" p) [.Call (.Attribute o "values" apos) [] [] mpos] [] pos) (tListVals td) := by
  refine ⟨fun pins s σ H Q I h => ?_⟩
  refine wpAny_Call_Name_kw (ld_blt I hg hm (u := .type "list") (by first | rfl | decide +kernel) ?_ (by first | decide +kernel | decide) (by first | decide +kernel | decide))
  rw [hse]
  refine PySem.callWith_type1 (wpAny_Call_method0_late hbase hline (thn (hd.run pins s σ H _ I h) fun v s1 ⟨x, H1, I1, r1, a, kvs, ex, ha, q⟩ => ?_))
  subst ex
  obtain rfl : v = Value.ref a := r1
  obtain ⟨z, hsys, vs, rel, dof⟩ := dk_of I1.hok ha
  obtain ⟨ep, dat⟩ := dof.dictAt
  have dat' := dat
  obtain ⟨ob, es, ho, ex, hdat,
        hko, hpr, hnd⟩ := dat'
  refine ⟨"dict", "dict.values", PySem.F.plainAttrs_dict, PySem.F.slot_dict_values, PySem.F.type_dict_values, ⟨ob, ho, ex.1⟩, fun b e => ?_, Calls.callWith_builtin rfl (PySem.evalArgs_none ?_)⟩
  · cases e
    exact ⟨ob, ho, ex.2.1⟩
  refine call_meetsIn PySem.F.slot_dict_values ⟨ob, ho, ex.1⟩ PySem.F.entry_dict_values (PySem.F.args_dict_values_1 _) (meets_dict_values (mixKind X.prog X.w) a hsys) ⟨⟨vs, dof⟩, ?_⟩
  have k1 : ∀ b u, s1.heap.get? b = some u →
      (s1.heap.push { cls := .type "dict_values", data := .fields #[.ref a] }).get? b = some u :=
    fun b u e => Heap.get?_push_of_some _ e
  have dat1 :
      (s1.heap.push { cls := .type "dict_values", data := .fields #[.ref a] }).DictAt (mixKind X.prog X.w) a vs ep :=
    dat.keep k1
  have hlv : vs.length = kvs.length := (KV.length rel).symm
  refine PySem.W.kdl_call (PySem.W.kdl_values (knd := mixKind X.prog X.w) (d := a) (r := s1.heap.objs.size) (kvs := vs) (ep := ep)) (I.ok.hd hc) ⟨⟨_, Heap.get?_push_size _ rfl, rfl, rfl⟩, dat1⟩ (by rw [hlv]; exact z) fun h' tk acc c' hk hD hacc => ?_
  have I2 := I1.kept (t' := s1.toks) k1
  have hv : Vals (kvs.map fun kv => kv.2) acc.toList := vals_by_at _ _ (by rw [Array.length_toList, List.length_map, ← hlv]; exact hacc.1) fun i x u e1 e2 => by
    obtain ⟨k, hk2⟩ := hacc.2 i u (by rw [← Array.getElem?_toList]; exact e2)
    obtain ⟨y, h1, h2⟩ := KV.at' rel hk2
    rw [List.getElem?_map, h1] at e1
    cases e1
    exact h2
  refine ⟨.ref _, upd H1 _ (.lst (kvs.map fun kv => kv.2)), I2.laid (t' := tk) hk (Nat.le_refl _) ⟨by rw [List.length_map]; exact z, acc.toList, c', hv, by rw [Array.toArray_toList]; exact hD⟩, rfl, q _ (I2.hok.fresh (Nat.le_refl _))⟩
end
end L2

namespace L2
open PySem PySem.Spec PyProof.Rows
/-! own rules: min(t) of a tuple of whole numbers; sorted(set(l)) of a list of whole numbers -/
def rMinT (K : PySem.W.Frag) : List V → Hp → VK → Prop := fun vs H Q => ∃ (a : Addr) (ns : List Int), vs = [V.ref a] ∧ SqT K H a (ns.map V.int) ∧ 0 < ns.length ∧ ∀ m, m ∈ ns → (∀ y, y ∈ ns → m ≤ y) → Q (.int m) H
section
variable {P : Program} {w : World} {A : Around}
      {E : Value → Shared → Prop} {s : Shared}
theorem least_tup {Q : Value → Shared → Prop} {l : Addr} {its : List Value} {ns : List Int} (hh : A.handled = none) (hl : s.heap.IsTuple l its.toArray) (hi : IntsAre its ns) (hne : 0 < ns.length)
    (h : ∀ h' tk M t', (∀ b o, s.heap.get? b = some o → h'.get? b = some o) → M ∈ ns → (∀ a, a ∈ ns → M ≤ a) → Q (.int M t') { s with heap := h', toks := tk }) : wpAny (model P w) A (call (.builtin "min") [.ref l]) Q E s := by
  have lt : l < s.heap.objs.size := by
    obtain ⟨o, e, _⟩ := hl
    exact Heap.lt_size e
  obtain ⟨xs, e⟩ := hi.allInts.items
  have nn : (xs.toList.map (·.1)) = ns := by
    have h1 : numsOf (intItems xs).toList = ns := by
      rw [← e]
      exact hi.numsOf
    rw [nums_intItems] at h1
    exact h1
  rw [e] at hl
  have pos : 0 < xs.size := by rw [← nn] at hne; simpa using hne
  refine call_min_walk (wpAny_pyIter_tuple hl ⟨_, _, _, _, _, _, _, rfl, Walks.tuple (A := A.in1) hh _ l (Nat.ne_of_lt lt) (intItems xs), ⟨⟨_, Heap.get?_push_size _ rfl, rfl, rfl⟩, hl.push _⟩, fun b hb => ?_, by simpa [intItems] using pos,
    CmpOf.ints_lt (numAt xs) (fun _ _ => intItems_at), fun v h' tk hP hk => ?_⟩)
  · show b < (s.heap.push _).objs.size
    rw [Heap.size_push]
    rcases List.mem_cons.mp hb with rfl | hb
    · exact Nat.lt_succ_self _
    · rw [List.mem_singleton.mp hb]
      exact Nat.lt_succ_of_lt lt
  · have hv : (intItems xs)[argBest (fun i j => decide (numAt xs i < numAt xs j)) (xs.size - 1)]? = some v := by simpa [intItems] using hP
    obtain ⟨t, rfl⟩ := intItems_at hv
    obtain ⟨b1, b2⟩ := argBest_lt (numAt xs) (xs.size - 1)
    refine h h' tk _ t (fun b o eo => hk b o (fun hm => ?_) (Heap.get?_push_of_some _ eo)) ?_ fun a ha => ?_
    · rw [List.mem_singleton] at hm
      exact absurd (hm ▸ Heap.lt_size eo) (Nat.lt_irrefl _)
    · rw [numAt_eq, ← nn]
      exact PySem.getD_mem (by rw [List.length_map, Array.length_toList]; omega)
    · rw [← nn] at ha
      obtain ⟨j, hj, rfl⟩ := mem_getD ha
      rw [List.length_map, Array.length_toList]
            at hj
      rw [← numAt_eq]
      exact b2 j (by omega)
end
theorem cr_minT {X : Cx} (hc : X.calm = true) : CallR X (.builtin "min") (rMinT X.K) := by
  rintro pins s σ H vs us Q I r ⟨a, ns, rfl, hs, hne, q⟩
  obtain ⟨its, rv, hl, _⟩ := I.tuple hs
  rw [Vals.ref1 r]
  exact least_tup (I.ok.hd hc) hl rv.ints hne fun h' tk m t' hk h1 h2 => ⟨.int _, H, I.kept hk, ⟨_, rfl⟩, q m h1 h2⟩
end L2

namespace L2
open PySem PySem.Spec PyProof.Rows
/-- an empty set as the model lays it -/
abbrev eset (w : World) : Obj := { cls := .type "set", dict := none, data := .set #[] 0 (.fresh 0 0 (!w.params.followText "set-order")) }
section
variable {P : Program} {w : World} {A : Around}
      {E : Value → Shared → Prop} {s : Shared}
set_option maxHeartbeats 8000000 in
/-- set(l), the order of its table known -/
theorem set_of_ints {l : Addr} {items : Array Value} (ns : List Int) {Q : Value → Shared → Prop} (hh : A.handled = none) (hl : s.heap.IsList l items) (hit : IntsAre items.toList ns) (hb : ns.length + 1 < scanBound)
    (h : ∀ (h' : Heap) (tk c : Nat), SetR w h' s.heap.objs.size (fun j => decide (j ∈ ns)) c → c ≤ ns.length → (∀ b o,
          s.heap.get? b = some o → h'.get? b = some o) → Q (.ref s.heap.objs.size) { s with heap := h', toks := tk }) :
    wpAny (model P w) A (call (.type
          "set") [.ref l]) Q E s := by
  have size : items.size = ns.length := by rw [← Array.length_toList]; exact IntsAre.length hit
  obtain ⟨c0, tl0, mro⟩ := F.called_set.mro
  have made := F.called_set.made
  have subs := F.called_set.sub
  refine wpAny_call (codeAny_of_tree ?_)
  show wpAny _ _ (callAny
        (.type "set") _) _ _ _
  refine wpAny_pure ⟨Code.quiet_builtin _ (by decide +kernel),
    codeAny_builtin F.entry_type_call ?_⟩
  rw [Around.under_plain (weight_type_call_type
        "set" [.ref l] []) rfl]
  have nt := F.called_set.notType
  have cc := F.called_set.canCreate
  have tc := F.typeCall_set_1 (.ref l)
  repeat (any_goals (first
        | assumption | wp_step))

  refine codeAny_mono (code_set_led1 (.ref l) (E := E) (Q₁ := fun obj s₁ => obj = .ref s.heap.objs.size ∧ s₁ = { s with heap := s.heap.push (eset w) }) ⟨rfl, rfl⟩) fun r s₁ hr => ?_
  rcases r with e | fl
  · exact hr
  cases fl
  case ret obj =>
    obtain ⟨rfl, rfl⟩ := hr
    have at0 : (s.heap.push (eset w)).get? s.heap.objs.size = some (eset w) := Heap.get?_push_size _ rfl
    have ty0 : Shared.TypeIs { s with heap := s.heap.push (eset w) } (.ref s.heap.objs.size) "set" := ⟨_, at0, rfl⟩
    have li := F.called_set.init.lookup
    have bi := F.called_set.init.bind (.ref s.heap.objs.size)
    repeat (any_goals (first
          | assumption | wp_step))

    refine codeAny_mono (codeAny_call_builtin (R := wants (fun r s₂ => r = .none ∧ ∃ h' tk c, s₂ = { s with heap := h', toks := tk } ∧ SetR w h' s.heap.objs.size (fun j => decide (j ∈ ns)) c ∧ c ≤ ns.length ∧ (∀ b o, s.heap.get? b = some o → h'.get? b = some o)) E)
      F.called_set.init.plain F.entry_set_init (check_set_init_1 ty0 ?_)) fun r₂ s₂ hr₂ => ?_
    · have lS : l < s.heap.objs.size := by
        obtain ⟨o, e, _⟩ := hl
        exact Heap.lt_size e
      obtain ⟨⟨lc, ld, lda, lsl⟩, hol, q1, nl, q2⟩ := hl
      simp only at q1 q2
      subst q1
      subst q2
      have hol1 : (s.heap.push (eset w)).get? l = some { cls := .type "list", dict := ld, data := .seq items nl, slots := lsl } := Heap.get?_push_of_some _ hol
      have lists : (s.heap.push (eset w)).IsList l items := ⟨_, hol1, rfl, nl, rfl⟩
      have sub1 := F.sub_list_set
      have sub2 := F.sub_list_frozenset
      have nodict : (Value.type "list" == Value.type "dict") = false := by decide
      unfold Builtin.«set.__init__» noKeywords
            Builtin.Frozenset.updateFrom
      generalize hPI : pyIter = PI
      wp_walk
      subst hPI
      refine wpAny_pyIter_list lists ?_
      refine wpAny_bind (wpAny_runValue ?_)
      have none3 : A.in1.in1.in1.handled = none := by simp [hh]
      have sz1 : (s.heap.push (eset w)).objs.size = s.heap.objs.size + 1 := Heap.size_push ..
      have apart1 : l ≠ (s.heap.push (eset w)).objs.size := by
        rw [sz1]
        exact Nat.ne_of_lt (Nat.lt_succ_of_lt lS)
      have apart2 : s.heap.objs.size ∉ [(s.heap.push (eset w)).objs.size, l] := by
        rw [sz1]
        intro z
        rcases List.mem_cons.mp z with z | z
        · exact Nat.ne_of_lt (Nat.lt_succ_self _) z
        · exact Nat.ne_of_gt lS (List.mem_singleton.mp z)
      have itv : ∀ (i : Nat) (v : Value), items[i]? = some v → ∃ k t, ns[i]? = some k ∧ v = .int k t := fun i v hv => by
        have hi : i < ns.length := by
          rw [← size]
          exact (Array.getElem?_eq_some_iff.mp hv).1
        have hv2 : items.toList[i]? = some v := by
          rw [Array.getElem?_toList]
          exact hv
        obtain ⟨t, e⟩ := PyProof.Rows.IntsAre.int_at hit i v hv2
        have en : ns.getD i 0 = ns[i] := by rw [List.getD_eq_getElem?_getD, List.getElem?_eq_getElem hi]; rfl
        exact ⟨ns[i], t, List.getElem?_eq_getElem hi, by rw [e, en]⟩
      refine set_update_ints ((Walks.list none3 _ l apart1 items).toS) s.heap.objs.size apart2 ns size hb itv (items.size - 0) 0 _ (by omega) (Nat.zero_le _)
        ⟨⟨_, Heap.get?_push_size _ rfl, rfl, rfl⟩, (lists.push _)⟩ ⟨0, Nat.le_refl 0, setR_new_at (Heap.get?_push_of_some _ at0)⟩ ?_
      intro s' c' mv hc' hS'
      obtain ⟨h', g2, d', tk', os'⟩ := s'
      obtain rfl : g2 = s.gens := mv.gens
      obtain rfl : d' = s.drawn := mv.drawn
      obtain rfl : os' = s.os := mv.os
      show wpAny _ _ _ _ _ _
      refine wpAny_pure ?_
      show wpAny _ _ (ret Value.none) _ _ _
      rw [size] at hc'
      refine wpAny_pure ⟨rfl, h', tk', c',
            rfl, hS', hc', fun b o e => ?_⟩
      have lb : b < s.heap.objs.size := Heap.lt_size e
      refine mv.heap b o (fun z => ?_) (Heap.get?_push_of_some _ (Heap.get?_push_of_some _ e))
      rcases List.mem_cons.mp z with z | z
      · exact Nat.ne_of_lt lb z
      · rw [List.mem_singleton, sz1] at z
        exact Nat.ne_of_lt (Nat.lt_succ_of_lt lb) z
    · rcases r₂ with e | fl₂
      · exact hr₂
      cases fl₂
      case ret r =>
        obtain ⟨rfl, h', tk, c, rfl, k1, k2, k3⟩ := hr₂
        repeat (any_goals (first
              | assumption | wp_step))
        exact h _ _ _ k1 k2 k3
      all_goals exact hr₂.elim
  all_goals exact hr.elim
end
/-- sorted(set(l)), l whole numbers -/
def tSortedSet (K : PySem.W.Frag) (ta : TE) : TE := fun σ H Q => ta σ H fun x H1 => ∃ (l : Addr) (ns : List Int), x = V.ref l ∧ SqL K H1 l (ns.map V.int) ∧ ns.length < 64 ∧ ∀ (ms : List Int) (p : Addr), ms.Pairwise (· < ·) → (∀ k, k ∈ ms ↔ k ∈ ns) → H1 p = none → Q (.ref p) (upd H1 p (.lst (ms.map V.int)))
theorem pe_sortedSet {X : Cx} {a : Expr} {ta : TE} {p p2 q pos : Pos} (hc : X.calm = true) (gl : Gl X "sorted") (ml : X.mg "sorted" = none) (gs : Gl X "set") (ms : X.mg "set" = none) (ha : PE X a ta)
    (one : starEach [a] X.env = (false, eval a X.env) :: starEach [] X.env := by rfl) : PE X (.Call (.Name "sorted" p) [.Call (.Name "set" p2) [a] [] q] [] pos) (tSortedSet X.K ta) := by
  constructor
  intro pins s σ H Q I h
  refine Call_ (ld_blt I gl ml (u := .builtin "sorted") (by decide +kernel) (PyProof.Rows.callWith_builtin1 (PyProof.Rows.args_cons ?_ rfl) rfl rfl))
  refine Call_ (ld_blt I gs ms PyProof.Rows.boot_set (PyProof.Rows.callWith_type1 (PyProof.Rows.args_cons (thn (ha.run pins s σ H _ I h) ?_) one) one rfl))
  rintro v s1 ⟨x, H1, I1, rx, l, ns, rfl, seq, few, z⟩
  obtain rfl : v = Value.ref l := rx
  refine PyProof.Rows.args_nil ?_
  obtain ⟨its, rv, at_l, _⟩ := I1.list seq
  refine set_of_ints ns (I1.ok.hd hc) at_l.isList (intsAre_of rv) (by unfold scanBound; omega) fun h' tk c R hc' keep => ?_
  refine PyProof.Rows.args_nil ?_
  have I2 : Inv X pins σ H1 { s1 with heap := h', toks := tk } := I1.kept fun b o e => keep b o e
  refine sorted_set R (I1.ok.hd hc) (by omega) fun s' p out c2 ms2 k1 k2 k3 hp hL hi lt mem len => ?_
  have short : (ms2.map V.int).length ≤ sizeLine := by
    rw [List.length_map, len, sizeLine_eq]
    omega
  have J : Inv X pins σ (upd H1 p (.lst (ms2.map V.int))) { s1 with heap := s'.heap, gens := s'.gens, drawn := s'.drawn, toks := s'.toks } :=
    Inv.call (s := { s1 with heap := h', toks := tk }) I2 (ch := []) (Un.laid k1 hp (I2.hok.fresh hp)) (I2.hok.laid k1 hp ⟨short, out.toList, c2, vals_of_ints hi, hL⟩) (by rw [k2]; exact I2.bare) (fun _ e => nomatch e)
  have same : s' = { s1 with heap := s'.heap, gens := s'.gens, drawn := s'.drawn, toks := s'.toks } := by
    obtain ⟨_, _, _, _, _⟩ := s'
    obtain ⟨_, _, _, _, _⟩ := s1
    cases k3
    rfl
  rw [same]
  exact ⟨.ref p, _, J, rfl, z ms2 p lt (fun k => by rw [mem k, decide_eq_true_eq]) (I2.hok.fresh hp)⟩
end L2

namespace L2
open PySem PySem.Spec PyProof.Rows
/-! own rule: sorted(t) of a tuple of whole numbers -/
section
variable {P : Program} {w : World} {A : Around}
      {E : Value → Shared → Prop} {s : Shared}
theorem sorted_of_tup {l : Addr} {vs : List Value} {ns : List Int} {Q : Value → Shared → Prop} (hl : s.heap.IsTuple l vs.toArray) (hi : IntsAre vs ns) (few : ns.length < 64)
    (hQ : ∀ h' p (out : Array Value) (c : Nat) (ms : List Int), (∀ b o, s.heap.get? b = some o → h'.get? b = some o) → s.heap.get? p = none → h'.get? p = some (seqObj "list" out c) → IntsAre out.toList ms → ms.Perm ns → ms.Pairwise (· ≤ ·) → Q (.ref p) { s with heap := h' }) :
    wpAny (model P w) A (call (.builtin "sorted") [.ref l]) Q E s := by
  have len : vs.length = ns.length := IntsAre.length hi
  have f64 : vs.length < 64 := by omega
  obtain ⟨o, ho, hc, n, hd⟩ := hl
  refine Calls.call_function_entry kind_sorted plain_sorted
        entry_sorted (args_sorted1 _) ?_
  unfold Builtin.«sorted»
  refine wpAny_bind (m := checkCount
        "sorted" 1 1 _) (wpAny_pure ?_)
  refine wpAny_bind (wpAny_collect_seq l (.inr rfl) ho hc hd (fun h1 k1 => ?_) (by rw [List.size_toArray, sizeLine_eq]; omega))
  refine wpAny_bind (wpAny_newList ?_ (by rw [sizeLine_eq]; show vs.length ≤ _; omega))
  have at1 : (h1.push (seqObj "list" vs.toArray 0)).get? h1.objs.size = some (seqObj "list" vs.toArray 0) := Heap.get?_push_size _ rfl
  refine wpAny_bind (wpAny_holding (wpAny_call_entry slot_list_sort ⟨_, at1, rfl⟩ entry_list_sort (list_sort_tree at1 hi f64 fun out ms a1 a2 a3 => ⟨_, rfl, ?_⟩) (args_list_sort _)))
  obtain ⟨c, hp⟩ := sortedHeap_at (vs := vs) (out := out) at1
  have above : s.heap.get? h1.objs.size = none := by
    cases e : s.heap.get? h1.objs.size with
    | none => rfl
    | some u => exact absurd (Heap.lt_size (k1 _ _ e)) (Nat.lt_irrefl _)
  refine wpAny_pure ⟨_, rfl, hQ _ h1.objs.size out c ms (fun b u e => ?_) above hp a1 a2 a3⟩
  have e1 := k1 b u e
  have lb := Heap.lt_size e1
  rw [sortedHeap_old (Nat.ne_of_lt lb) (by rw [size_push']; exact Nat.lt_succ_of_lt lb)]
  exact Heap.get?_push_of_some _ e1
end
def rSortTup (K : PySem.W.Frag) : List V → Hp → VK → Prop := fun vs H Q => ∃ (a : Addr) (ns : List Int), vs = [V.ref a] ∧ SqT K H a (ns.map V.int) ∧ ns.length < 64 ∧ ∀ (ms : List Int) (p : Addr), ms.Perm ns → ms.Pairwise (· ≤ ·) → H p = none → Q (.ref p) (upd H p (.lst (ms.map V.int)))
theorem cr_sortTup {X : Cx} (hc : X.calm = true) : CallR X (.builtin "sorted") (rSortTup X.K) := by
  rintro pins s σ H vs us Q I r ⟨a, ns, rfl, hs, few, q⟩
  obtain ⟨its, rv, hl, _⟩ := I.tuple hs
  rw [Vals.ref1 r]
  refine sorted_of_tup hl rv.ints few fun h' p out c ms k up hp hi pm pw => ?_
  have short : (ms.map V.int).length ≤ sizeLine := by
    rw [List.length_map, pm.length_eq, sizeLine_eq]
    omega
  exact ⟨.ref p, _, I.laidN (t' := s.toks) (o := .lst (ms.map V.int)) k up (I.hok.gone up) ⟨short, out.toList, c, vals_of_ints hi, hp⟩, rfl, q ms p pm pw (I.hok.gone up)⟩
end L2

namespace L2
open PySem PySem.Spec PyProof.Rows PySem.W
/-! own rule: sorted(l) of a list of tuples of any data -/
def rSortedD (K : PySem.W.Frag) : List V → Hp → VK → Prop := fun vs H Q => ∃ (a : Addr) (xs : List V) (ds : List PyData), vs = [V.ref a] ∧ SqL K H a xs ∧ DpAll K H xs ds ∧ AllAlike ds ∧ Sortable ds ∧ (∀ d ∈ ds, d.depth ≤ 60) ∧
  ∀ p, H p = none → Q (.ref p) (upd H p (.lst (((xs.zip ds).mergeSort (dataLe false Prod.snd)).map Prod.fst)))
theorem each_zip {X : Cx} {pins : List (Addr × Obj)} {σ : St} {H : Hp} {s : Shared} (I : Inv X pins σ H s) : ∀ (xs : List V) (ds : List PyData) (us : List Value), Vals xs us → DpAll X.K H xs ds →
    EachIs (fun (v : Value) (b : V × PyData) => RelV b.1 v) us (xs.zip ds) ∧ EachIs (fun (v : Value) (b : V × PyData) => ∃ as, Reads s.heap v b.2 as) us (xs.zip ds)
  | _, _, _, .nil, .nil => ⟨.nil, .nil⟩
  | _, _, _, .cons r rs, .cons d ds => by
    obtain ⟨h1, h2⟩ := each_zip I _ _ _ rs ds
    exact ⟨.cons r h1, .cons (Dp.reads I _ _ _ d r) h2⟩
theorem vals_of_each : ∀ {us : List Value} {bs : List (V × PyData)}, EachIs (fun (v : Value) (b : V × PyData) => RelV b.1 v) us bs → Vals (bs.map Prod.fst) us
  | _, _, .nil => .nil
  | _, _, .cons h t => .cons h (vals_of_each t)
theorem DpAll.len {K : PySem.W.Frag} {H : Hp} : ∀ {xs : List V} {ds : List PyData}, DpAll K H xs ds → xs.length = ds.length
  | _, _, .nil => rfl
  | _, _, .cons _ t => by rw [List.length_cons, List.length_cons, DpAll.len t]
theorem cr_sortedD {X : Cx} (hu : X.A.units + 64 < cLine) : CallR X (.builtin "sorted") (rSortedD X.K) := by
  rintro pins s σ H vs us Q I r ⟨a, xs, ds, rfl, hs, hd, al, so, dep, q⟩
  obtain ⟨its, rv, hl, few⟩ := I.list hs
  rw [Vals.ref1 r]
  obtain ⟨e1, e2⟩ := each_zip I xs ds its rv hd
  have ms : (xs.zip ds).map Prod.snd = ds := List.map_snd_zip (by rw [hd.len]; exact Nat.le_refl _)
  have zl : (xs.zip ds).length = xs.length := by rw [List.length_zip, hd.len, Nat.min_self]
  refine sorted_data (enc := Prod.snd) hl.isList e1 e2 (by rw [ms]; exact al) (by rw [ms]; exact so) (by rw [zl]; exact few) (fun b hb => ?_) fun out lo eo => ?_
  · have := dep b.2 (by rw [← ms]; exact List.mem_map.mpr ⟨b, hb, rfl⟩)
    omega
  · obtain ⟨c, at'⟩ := PyProof.Rows.sortedAll_at s.heap its (List.toArray out)
    have v := vals_of_each eo
    have short : ((((xs.zip ds).mergeSort (dataLe false Prod.snd)).map Prod.fst)).length ≤ sizeLine := by
      rw [List.length_map, List.length_mergeSort, zl]
      exact few
    exact ⟨.ref _, _, I.laid (t' := s.toks) (o := .lst (((xs.zip ds).mergeSort (dataLe false Prod.snd)).map Prod.fst)) (fun _ _ => PyProof.Rows.sortedAll_old) (Nat.le_succ _) ⟨short, out, c, v, at'⟩, rfl, q _ (I.hok.fresh (Nat.le_succ _))⟩
end L2

namespace K5
open PySem PySem.Spec PyProof.Rows L2
def spRepl (K : PySem.W.Frag) : Sp := fun vs H Q _ => ∃ (a : Addr) (L : List Nat) (k v : Nat), vs = [.ref a, .int (k : Int), .int (v : Int)] ∧ SqT K H a (nv L) ∧ k < L.length ∧ L.length ≤ 1000 ∧ ∀ (H' : Hp) (q : Addr), Same H H' → SqT K H' q (nv (L.set k v)) → Q (.ref q) H'
section
variable {P : Program} {w : World} {K : PySem.W.Frag}
      {mg : Str → Option Value} {base : Heap}
theorem ok_replaced (T : Bl mg) (D : Def K mg "replaced" s_replaced) : Cal P w K mg base "replaced" ["values", "index", "value"] 1 (spRepl K) := by
  refine D.ok sc_replaced (fun _ _ _ _ _ _ us hl => match us, hl with | [_, _, _], _ => rfl) (fun vs H Q E h => ?_) (fun f cdv A outer s0 H vs Q E hr h => ?_)
  · obtain ⟨a, L, k, v, rfl, _⟩ := h
    rfl
  obtain ⟨a, L, k, v, rfl, h2, v1, few, qn⟩ := h
  refine ⟨_, (pss_one (ps_ret (pe_op op_catA (pe_op op_catA (pe_slice sl_tup (pv 0) po_none (po_some (pv 1))) (pe_tup (pa_cons (pv 2) pa_nil))) (pe_slice sl_tup (pv 0) (po_some (pe_op op_add (pv 1) pe_int)) po_none)))), ?_⟩
  have sz4 : (4 : Nat) + 1000 ≤ sizeLine := Nat.le_of_lt (small3k (by decide))
  obtain ⟨c1, c2⟩ := cut_to v1
  obtain ⟨c3, c4⟩ := cut_from v1
  refine ⟨_, rfl, _, rfl, _, rfl, a, _, rfl, h2, c2, fun p1 np1 => ?_⟩
  rw [c1]
  have sa := Same.upd (o := .tup (nv (L.take k))) np1
  refine ⟨_, rfl, by show 1 ≤ sizeLine; decide, fun p2 np2 => ?_⟩
  have sb := sa.trans (Same.upd (o := .tup [.int (v : Int)]) np2)
  have hp1 : (upd (upd H p1 (.tup (nv (L.take k)))) p2 (.tup [.int (v : Int)])) p1 = some (.tup (nv (L.take k))) := by rw [upd_ne (ne_of_none upd_same np2), upd_same]
  refine catA_of (SqT.of hp1) (SqT.of upd_same) (by rw [nv_len, List.length_take, List.length_singleton]; omega) fun H4 p3 s4 h4 => ?_
  have sc := sb.trans s4
  refine ⟨_, rfl, _, rfl, _, _, rfl, rfl, _, rfl, a, _, rfl, sc.tup h2, c4, fun p4 np4 => ?_⟩
  rw [c3]
  have s5 := Same.upd (o := .tup (nv (L.drop (k + 1)))) np4
  refine catA_of (s5.tup h4) (SqT.of upd_same) (by rw [List.length_append, nv_len, List.length_take, List.length_singleton, nv_len, List.length_drop]; omega) fun H6 p5 s6 h6 => ?_
  rw [nv_cut _ _ _ v1] at h6
  exact qn _ p5 ((sc.trans s5).trans s6) h6
end
end K5

namespace K5
open PySem PySem.Spec PyProof.Rows L2 PySem.W
theorem in_pair (x a b : Int) : inV (.int x) [.int a, .int b] = (decide (x = a) || decide (x = b)) := by
  show ((a == x) || ((b == x) || false)) = _
  by_cases h1 : x = a
  · subst h1
    simp
  · by_cases h2 : x = b
    · subst h2
      simp
    · have e1 : (a == x) = false := by simpa using fun z => h1 z.symm
      have e2 : (b == x) = false := by simpa using fun z => h2 z.symm
      rw [e1, e2, decide_eq_false h1, decide_eq_false h2]
      rfl
theorem ite_var {σ : L2.St} {H : Hp} {Q : VK} {i j : Nat} {c : Bool} {v : V} (h1 : c = true → σ[i]? = some (some v)) (h2 : c = false → σ[j]? = some (some v)) (q : Q v H) : if c = true then tVar i σ H Q else tVar j σ H Q := by
  cases c with
  | true => exact iteT ⟨v, h1 rfl, q⟩
  | false => exact iteF ⟨v, h2 rfl, q⟩
/-- rooms before, door, person -/
abbrev Lm := List Nat × Nat × Nat
def oth (e : Nat × Nat) (r : Nat) : Nat := if r = e.1 then e.2 else e.1
/-- the move through door d, where it can have been the last one -/
def lmOf (e : Nat × Nat) (S : S2) (d p : Nat) : List Lm := if S.1.getD p 0 = e.1 ∨ S.1.getD p 0 = e.2 then [(S.1.set p (oth e (S.1.getD p 0)), d, p)] else []
def lms (ds : List (Nat × Nat)) (S : S2) : Nat → List Lm
  | 0 => []
  | k + 1 => lms ds S k ++ lmOf (ds.getD k (0, 0)) S k (S.2.getD k 0)
theorem lms_len (ds : List (Nat × Nat)) (S : S2) : ∀ k, (lms ds S k).length ≤ k
  | 0 => Nat.le_refl _
  | k + 1 => by
    have h := lms_len ds S k
    have h2 : (lmOf (ds.getD k (0, 0)) S k (S.2.getD k 0)).length ≤ 1 := by
      unfold lmOf
      split
      · exact Nat.le_refl _
      · exact Nat.zero_le _
    show (lms ds S k ++ lmOf (ds.getD k (0, 0)) S k (S.2.getD k 0)).length ≤ k + 1
    rw [List.length_append]
    omega
def dLm (x : Lm) : PyData := .tuple [.tuple (dIs x.1), .int (x.2.1 : Int), .int (x.2.2 : Int)]
def LmAt (K : PySem.W.Frag) (H : Hp) (ts : List Addr) (l : List Lm) : Prop := ts.length = l.length ∧ ∀ (i : Nat) (t : Addr) (x : Lm), ts[i]? = some t → l[i]? = some x → ∃ r : Addr, H t = some (.tup [.ref r, .int (x.2.1 : Int), .int (x.2.2 : Int)]) ∧ SqT K H r (nv x.1)
theorem LmAt.same {K H H' ts l} (h : LmAt K H ts l) (s : Same H H') : LmAt K H' ts l := ⟨h.1, fun i t x a b => by
  obtain ⟨r, h1, h2⟩ := h.2 i t x a b
  exact ⟨r, s _ _ h1, s.tup h2⟩⟩
theorem LmAt.app {K : PySem.W.Frag} {H : Hp} {ts : List Addr} {l : List Lm} {t r : Addr} {x : Lm} (h : LmAt K H ts l) (ht : H t = some (.tup [.ref r, .int (x.2.1 : Int), .int (x.2.2 : Int)])) (hr : SqT K H r (nv x.1)) : LmAt K H (ts ++ [t]) (l ++ [x]) := by
  refine ⟨by rw [List.length_append, List.length_append, h.1]; rfl, fun i a b e1 e2 => ?_⟩
  by_cases hi : i < ts.length
  · rw [List.getElem?_append_left hi] at e1
    rw [List.getElem?_append_left (by rw [← h.1]; exact hi)] at e2
    exact h.2 i a b e1 e2
  · rw [List.getElem?_append_right (by omega)] at e1
    rw [List.getElem?_append_right (by rw [← h.1]; omega), ← h.1] at e2
    generalize i - ts.length = j at e1 e2
    match j with
    | 0 =>
      cases e1
      cases e2
      exact ⟨r, ht, hr⟩
    | j + 1 => simp at e1
theorem LmAt.but {K H H' p xs ts l} (h : LmAt K H ts l) (hp : H p = some (.lst xs)) (s : But p H H') : LmAt K H' ts l := ⟨h.1, fun i t x a b => by
  obtain ⟨r, h1, h2⟩ := h.2 i t x a b
  exact ⟨r, s _ _ (ne_lt hp h1) h1, s.tup hp h2⟩⟩
/-- in order -/
def Srt (l : List Lm) : Prop := l.Pairwise fun x y => dataLe false dLm x y = true
def spLast (K : PySem.W.Frag) : Sp := fun vs H Q _ => ∃ (a s : Addr) (ds : List (Nat × Nat)) (n : Nat) (S : S2), vs = [.ref a, .ref s] ∧ HouseAt K H a ds ∧ Tree n ds ∧ n ≤ 1000 ∧ StateAt K H s S ∧ StOk n ds S ∧
  ∀ (H' : Hp) (q : Addr) (ts : List Addr) (l : List Lm), Same H H' → H q = none → H' q = some (.lst (ts.map V.ref)) → LmAt K H' ts l → l.Perm (lms ds S ds.length) → Srt l → Q (.ref q) H'
section
variable {P : Program} {w : World} {K : PySem.W.Frag}
      {mg : Str → Option Value} {base : Heap}
theorem dLm_depth (x : Lm) : (dLm x).depth ≤ 60 := by
  have := dIs_depth x.1
  simp only [dLm, PyData.depth, PyData.depthAll]
  omega
theorem dp_lms {H : Hp} : ∀ (ts : List Addr) (l : List Lm), LmAt K H ts l → DpAll K H (ts.map V.ref) (l.map dLm)
  | [], [], _ => .nil
  | [], _ :: _, h => by have := h.1; simp at this
  | _ :: _, [], h => by have := h.1; simp at this
  | t :: ts, x :: l, h => by
    obtain ⟨r, h1, h2⟩ := h.2 0 t x rfl rfl
    exact .cons (.tup (SqT.of h1) (.cons (.tup h2 (dp_is _)) (.cons (.int _) (.cons (.int _) .nil)))) (dp_lms ts l ⟨by have := h.1; simpa using this, fun i t' x' a b => h.2 (i + 1) t' x' a b⟩)
theorem alike_is : ∀ l m : List Nat, alikeAll (dIs l) (dIs m) = true
  | [], _ => by simp [dIs, alikeAll]
  | _ :: _, [] => by simp [dIs, alikeAll]
  | x :: l, y :: m => by
    have ih := alike_is l m
    unfold dIs at ih ⊢
    simp only [List.map_cons, alikeAll, alike, ih, Bool.and_self]
theorem alike_lm (x y : Lm) : alike (dLm x) (dLm y) = true := by
  simp only [dLm, alike, alikeAll, alike_is, Bool.and_self]
theorem ok_last_moves (T : Bl mg) (D : Def K mg "last_moves" s_last_moves) (C_replaced : Cal P w K mg base "replaced" ["values", "index", "value"] 1 (spRepl K)) : Cal P w K mg base "last_moves" ["house", "state"] 2 (spLast K) := by
  refine D.ok sc_last_moves (fun _ _ _ _ _ _ us hl => match us, hl with | [_, _], _ => rfl) (fun vs H Q E h => ?_) (fun f cdv A outer s0 H vs Q E hr h => ?_)
  · obtain ⟨a, s, ds, n, S, rfl, _⟩ := h
    rfl
  obtain ⟨a, s, ds, n, S, rfl, hH, tree, hn, st, ok, q⟩ := h
  obtain ⟨rs, hrs, hlen, hds⟩ := id hH
  obtain ⟨r, b, h1, h2, h3⟩ := id st
  have hdn := tree.len
  have few := ok.few
  obtain ⟨f_replaced, fd_replaced, g_replaced, k_replaced, b_replaced, G_replaced⟩ := C_replaced
  refine ⟨_, (pss_cons (ps_asg (pv 1) (pg_tup (n := 2) rfl (pgs_cons (pg_name (i := 2) sc_last_moves.nd rfl (.inl rfl)) (pgs_cons (pg_name (i := 3) sc_last_moves.nd rfl (.inl rfl)) pgs_nil))))
    (pss_cons (ps_set (i := 4) sc_last_moves.nd rfl (.inl rfl) (pe_lst pa_nil))
    (pss_cons (ps_for PassesOwn.never rfl (pi_enumT (by rfl) T.enumerate (pa_cons (pv 0) pa_nil)) (pg_tup (n := 2) rfl (pgs_cons (pg_name (i := 5) sc_last_moves.nd rfl (.inl rfl)) (pgs_cons (pg_tup (n := 2) rfl (pgs_cons (pg_name (i := 6) sc_last_moves.nd rfl (.inl rfl)) (pgs_cons (pg_name (i := 7) sc_last_moves.nd rfl (.inl rfl)) pgs_nil))) pgs_nil)))
    (pss_cons (ps_set (i := 8) sc_last_moves.nd rfl (.inl rfl) (pe_ix ix_tup (pv 3) (pv 5) (fun _ _ => rfl)))
    (pss_one (ps_if (pt_cmpR op_in_seq (pe_ix ix_tup (pv 2) (pv 8) (fun _ _ => rfl)) (pe_tup (pa_cons (pv 6) (pa_cons (pv 7) pa_nil))) (by rfl)) (pss_cons (ps_set (i := 9) sc_last_moves.nd rfl (.inl rfl) (pe_ifExp (pt_cmpR op_eq (pe_ix ix_tup (pv 2) (pv 8) (fun _ _ => rfl)) (pv 6) (nomark _)) (pv 7) (pv 6)))
    (pss_one (ps_expr (pe_bm PySem.F.plainAttrs_list PySem.F.slot_list_append PySem.F.type_list_append mt_append (pv 4) (pa_cons (pe_tup (pa_cons (pe_call G_replaced (hr.mono (by decide)) (by rfl) g_replaced k_replaced b_replaced .nil pass0 (pa_cons (pv 2) (pa_cons (pv 8) (pa_cons (pv 9) pa_nil)))) (pa_cons (pv 5) (pa_cons (pv 8) pa_nil)))) pa_nil))))) pss_nil))))
    (pss_one (ps_ret (pe_callB (cr_sortedD hr.units) (by rfl) T.sorted (by decide +kernel) (pa_cons (pv 4) pa_nil))))))), ?_⟩
  refine ⟨_, rfl, _, _, rfl, h1, rfl, _, _, rfl, _, _, rfl, rfl, ?_⟩
  refine ⟨Nat.zero_le _, fun pm npm => ?_⟩
  refine ⟨_, rfl, a, _, rfl, (Same.upd npm).tup hrs, ?_⟩
  refine for_it (walk_enumT (K := K) (a := a) (xs := rs.map V.ref)) (fun k σ H2 => ∃ (ts : List Addr) (y5 y6 y7 y8 y9 : Option V), σ = [some (.ref a), some (.ref s), some (.ref r), some (.ref b), some (.ref pm), y5, y6, y7, y8, y9] ∧ Same H H2 ∧ H2 pm = some (.lst (ts.map V.ref)) ∧ LmAt K H2 ts (lms ds S k))
    ⟨[], _, _, _, _, _, rfl, Same.upd npm, upd_same, rfl, fun i t x e => by simp at e⟩ (fun i σ H1 _ ⟨_, _, _, _, _, _, _, sm, _⟩ => sm.tup hrs) ?_ ?_
  · rintro k x σ H2 H3 hk ⟨ts, y5, y6, y7, y8, y9, rfl, s2, hpm, la⟩ ⟨t, x1, x2, rfl, nt, rfl, ex1, ex2⟩
    cases ex1
    have hk' : k < ds.length := by
      rw [List.length_map, hlen] at hk
      exact hk
    obtain ⟨e, he⟩ : ∃ e, ds[k]? = some e := get_of rfl hk'
    obtain ⟨r1, hr0⟩ : ∃ r, rs[k]? = some r := get_of hlen hk'
    have ex2' : V.ref r1 = x2 := by
      have ex2 : (rs.map V.ref)[k]? = some x2 := ex2
      rw [List.getElem?_map, hr0] at ex2
      exact Option.some.inj ex2
    subst ex2'
    obtain ⟨p, hp⟩ : ∃ p, S.2[k]? = some p := get_of ok.doors hk'
    have lp := ok.bars p (List.mem_of_getElem? hp)
    obtain ⟨rm, hrm⟩ : ∃ x, S.1[p]? = some x := get_of rfl lp
    have eg : ds.getD k (0, 0) = e := by rw [List.getD_eq_getElem?_getD, he]; rfl
    have ep : S.2.getD k 0 = p := by rw [List.getD_eq_getElem?_getD, hp]; rfl
    have er : S.1.getD p 0 = rm := by rw [List.getD_eq_getElem?_getD, hrm]; rfl
    have smt : Same H2 (upd H2 t (.tup [.int (k : Nat), .ref r1])) := Same.upd nt
    have s3 := s2.trans smt
    have hpm3 := smt _ _ hpm
    have la3 := la.same smt
    have nx : lms ds S (k + 1) = lms ds S k ++ lmOf e S k p := by
      show lms ds S k ++ lmOf (ds.getD k (0, 0)) S k (S.2.getD k 0) = _
      rw [eg, ep]
    refine ⟨t, _, rfl, SqT.of upd_same, rfl, _, _, rfl, _, _, rfl, ⟨r1, _, rfl, s3.tup (hds k r1 e hr0 he), rfl, _, _, rfl, _, _, rfl, rfl, rfl, ?_⟩⟩
    generalize upd H2 t (.tup [.int (k : Nat), .ref r1]) = H4 at s3 hpm3 la3
    refine ⟨_, rfl, _, rfl, b, _, _, _, rfl, rfl, s3.tup h3, nv_at hp, ?_⟩
    refine ⟨_, rfl, _, rfl, r, _, _, _, rfl, rfl, s3.tup h2, nv_at hrm, _, rfl, _, rfl, by show 2 ≤ sizeLine; decide, fun t2 nt2 => ?_⟩
    have st2 := Same.upd (o := .tup [.int (e.1 : Int), .int (e.2 : Int)]) nt2
    have s5 := s3.trans st2
    have hpm5 := st2 _ _ hpm3
    have la5 := la3.same st2
    refine ⟨t2, _, rfl, .inr (SqT.of upd_same), rfl, rfl, _, rfl, ?_⟩
    generalize upd H4 t2 (.tup [.int (e.1 : Int), .int (e.2 : Int)]) = H5 at s5 hpm5 la5
    show if inV (V.int (rm : Int)) [.int (e.1 : Int), .int (e.2 : Int)] = true then _ else _
    have din : inV (V.int (rm : Int)) [.int (e.1 : Int), .int (e.2 : Int)] = decide (rm = e.1 ∨ rm = e.2) := by
      rw [in_pair, ← Bool.decide_or, decide_eq_decide]
      omega
    rw [din]
    by_cases near : rm = e.1 ∨ rm = e.2
    case neg =>
      rw [decide_eq_false near]
      refine iteF ⟨ts, _, _, _, _, _, rfl, s5, hpm5, ?_⟩
      have : lmOf e S k p = [] := by
        unfold lmOf
        rw [er, if_neg near]
      rw [nx, this, List.append_nil]
      exact la5
    rw [decide_eq_true near]
    have lm1 : lmOf e S k p = [(S.1.set p (oth e rm), k, p)] := by
      unfold lmOf
      rw [er, if_pos near]
    refine iteT ⟨_, rfl, _, rfl, r, _, _, _, rfl, rfl, s5.tup h2, nv_at hrm, _, rfl, rfl, _, rfl, ?_⟩
    refine ite_var (v := V.int ((oth e rm : Nat) : Int)) (fun c => ?_) (fun c => ?_) ?_
    · have c : rm = e.1 := by
        have := V.int.inj (of_decide_eq_true c)
        omega
      show some (some (V.int (e.2 : Int))) = _
      unfold oth
      rw [if_pos c]
    · have c : ¬ rm = e.1 := fun z => by
        have := of_decide_eq_false c
        exact this (by rw [z])
      show some (some (V.int (e.1 : Int))) = _
      unfold oth
      rw [if_neg c]
    refine ⟨_, rfl, .inl ⟨rfl, _, SqL.of hpm5⟩, _, rfl, _, rfl, _, rfl, r, S.1, p, oth e rm, rfl, s5.tup h2, lp, by omega, fun H6 q6 s6 h6 => ⟨_, rfl, _, rfl, by show 3 ≤ sizeLine; decide, fun t4 nt4 => ?_⟩⟩
    have st4 := Same.upd (o := .tup [.ref q6, .int (k : Int), .int (p : Int)]) nt4
    have s7 := (s5.trans s6).trans st4
    have hpm7 := st4 _ _ (s6 _ _ hpm5)
    have la7 := ((la5.same s6).same st4).app (x := (S.1.set p (oth e rm), k, p)) upd_same (st4.tup h6)
    generalize upd H6 t4 (.tup [.ref q6, .int (k : Int), .int (p : Int)]) = H7 at s7 hpm7 la7
    have ll := lms_len ds S k
    have lal := la.1
    refine ⟨pm, _, _, rfl, rfl, hpm7, by rw [List.length_map]; exact small1000 (by omega), ?_⟩
    have btp : But pm H7 (upd H7 pm (.lst (ts.map V.ref ++ [.ref t4]))) := But.upd (But.refl _ _) _
    refine ⟨ts ++ [t4], _, _, _, _, _, rfl, s7.at npm, by rw [upd_same, List.map_append]; rfl, ?_⟩
    rw [nx, lm1]
    exact la7.but hpm7 btp
  · rintro σ H2 ⟨ts, y5, y6, y7, y8, y9, rfl, s2, hpm, la⟩
    rw [List.length_map, hlen] at la
    refine ⟨_, rfl, pm, ts.map V.ref, (lms ds S ds.length).map dLm, rfl, SqL.of hpm, dp_lms ts _ la, ?_, .inl ?_, ?_, fun p np => ?_⟩
    · intro d hd d' hd'
      obtain ⟨x, _, rfl⟩ := List.mem_map.mp hd
      obtain ⟨y, _, rfl⟩ := List.mem_map.mp hd'
      exact alike_lm x y
    · intro d hd
      obtain ⟨x, _, rfl⟩ := List.mem_map.mp hd
      exact ⟨_, _, rfl⟩
    · intro d hd
      obtain ⟨x, _, rfl⟩ := List.mem_map.mp hd
      exact dLm_depth x
    · rw [List.zip_map]
      obtain ⟨zl, ez, pz⟩ := perm_of_map _ _ _ (List.mergeSort_perm (List.map (Prod.map V.ref dLm) (ts.zip (lms ds S ds.length))) (dataLe false Prod.snd))
      have pw := sort_pairwise (sortLe_total (listOrd itemOrd) false fun b : V × PyData => keyToks b.2) (List.map (Prod.map V.ref dLm) (ts.zip (lms ds S ds.length)))
      have pw2 : ((List.map (Prod.map V.ref dLm) (ts.zip (lms ds S ds.length))).mergeSort (dataLe false Prod.snd)).Pairwise fun a b => dataLe false Prod.snd a b = true := pw
      rw [ez] at pw2 ⊢
      rw [List.pairwise_map] at pw2
      have sp := Same.upd (o := .lst ((zl.map (Prod.map V.ref dLm)).map Prod.fst)) np
      have lz := la.1
      refine q _ p (zl.map Prod.fst) (zl.map Prod.snd) (s2.trans sp) (s2.free np) ?_ ⟨by rw [List.length_map, List.length_map], fun i t x e1 e2 => ?_⟩ ?_ ?_
      · rw [upd_same, List.map_map, List.map_map]
        rfl
      · rw [List.getElem?_map] at e1 e2
        cases ei : zl[i]? with
        | none => rw [ei] at e1; cases e1
        | some z =>
          rw [ei] at e1 e2
          cases e1
          cases e2
          obtain ⟨j, hj⟩ := List.mem_iff_getElem?.mp (pz.mem_iff.mp (List.mem_of_getElem? ei))
          obtain ⟨j1, j2⟩ := List.getElem?_zip_eq_some.mp hj
          obtain ⟨r2, a1, a2⟩ := la.2 j z.1 z.2 j1 j2
          exact ⟨r2, sp _ _ a1, sp.tup a2⟩
      · have := pz.map Prod.snd
        rwa [List.map_snd_zip (by rw [lz]; exact Nat.le_refl _)] at this
      · unfold Srt
        rw [List.pairwise_map]
        exact pw2
end
end K5

namespace L2
open PySem PySem.Spec PyProof.Rows
/-- how many have been met: all, where none is met twice -/
theorem met_len (f : Nat → Int) : ∀ i, (((List.range i).map f).Nodup → (firstMet f i).length = i) ∧ (¬ ((List.range i).map f).Nodup → (firstMet f i).length < i)
  | 0 => ⟨fun _ => rfl, fun h => absurd (by simp) h⟩
  | i + 1 => by
    obtain ⟨h1, h2⟩ := met_len f i
    have le := firstMet_length_le f i
    have key : (firstMet f i).any (· == f i) = ((List.range i).map f).any (· == f i) := firstMet_any f i (f i)
    rw [firstMet_succ, List.range_succ, List.map_append]
    unfold step_dedup
    rw [key]
    by_cases c : ((List.range i).map f).any (· == f i) = true
    · rw [if_pos c]
      obtain ⟨x, hx, e⟩ := List.any_eq_true.mp c
      have e : x = f i := eq_of_beq e
      subst e
      refine ⟨fun nd => ?_, fun _ => by omega⟩
      obtain ⟨_, _, z⟩ := List.nodup_append.mp nd
      exact absurd rfl (z _ hx _ (by simp))
    · rw [if_neg c, List.length_append, List.length_singleton]
      have nm : f i ∉ (List.range i).map f := fun hx => c (List.any_eq_true.mpr ⟨f i, hx, beq_self_eq_true _⟩)
      refine ⟨fun nd => ?_, fun nd => ?_⟩
      · rw [h1 (List.nodup_append.mp nd).1]
      · have := h2 fun y => nd (List.nodup_append.mpr ⟨y, by simp, fun a ha b hb => by
          simp only [List.map_cons, List.map_nil,
                List.mem_singleton] at hb
          rintro rfl
          exact nm (hb ▸ ha)⟩)
        omega
/-- len(set(xs)), xs whole numbers -/
def tLenSetA (K : PySem.W.Frag) (ta : TE) : TE := fun σ H Q => ta σ H fun x H1 => ∃ (l : Addr) (ns : List Int), x = V.ref l ∧ SqL K H1 l (ns.map V.int) ∧ ns.length + 1 < scanBound ∧ ∀ n : Nat, (ns.Nodup → n = ns.length) → (¬ ns.Nodup → n < ns.length) → Q (.int (n : Int)) H1
theorem pe_lenSetA {X : Cx} {a : Expr} {ta : TE} {p p2 q pos : Pos} (hc : X.calm = true) (gl : Gl X "len") (ml : X.mg "len" = none) (gs : Gl X "set") (ms : X.mg "set" = none) (ha : PE X a ta)
    (one : starEach [a] X.env = (false, eval a X.env) :: starEach [] X.env := by rfl) : PE X (.Call (.Name "len" p) [.Call (.Name "set" p2) [a] [] q] [] pos) (tLenSetA X.K ta) := by
  constructor
  intro pins s σ H Q I h
  refine Call_ (ld_blt I gl ml PySem.boot_len (PyProof.Rows.callWith_builtin1 (PyProof.Rows.args_cons ?_ rfl) rfl rfl))
  refine Call_ (ld_blt I gs ms PyProof.Rows.boot_set (PyProof.Rows.callWith_type1 (PyProof.Rows.args_cons (thn (ha.run pins s σ H _ I h) ?_) one) one rfl))
  rintro v s1 ⟨x, H1, I1, rx, l, ns, rfl, seq, few, z⟩
  obtain rfl : v = Value.ref l := rx
  refine PyProof.Rows.args_nil ?_
  obtain ⟨its, rv, at_l, _⟩ := I1.list seq
  have len : its.length = ns.length := by rw [← rv.length, List.length_map]
  refine call_set_list (I1.ok.hd hc) at_l.isList (intsAre_of rv) (by rw [List.size_toArray, len]; exact few) fun h' tk made keep => ?_
  have sz : its.toArray.size = ns.length := by rw [List.size_toArray, len]
  rw [sz] at made
  have all : (List.range ns.length).map (fun i => ns.getD i 0) = ns := by
    apply List.ext_getElem?
    intro i
    rw [List.getElem?_map]
    by_cases y : i < ns.length
    · rw [List.getElem?_range y, List.getElem?_eq_getElem y]
      simp [List.getD_eq_getElem?_getD, List.getElem?_eq_getElem y]
    · rw [List.getElem?_eq_none (by simpa using Nat.le_of_not_lt y), List.getElem?_eq_none (Nat.le_of_not_lt y)]
      rfl
  obtain ⟨m1, m2⟩ := met_len (fun i => ns.getD i 0) ns.length
  rw [all] at m1 m2
  have bound := firstMet_length_le (fun i => ns.getD i 0) ns.length
  have small : scanBound ≤ 2 ^ 62 := by decide
  refine PyProof.Rows.args_nil ?_
  obtain ⟨o, es, ep, t, ho, ex, hd, _, _, _, hf, hn⟩ := made
  have I2 : Inv X pins σ H1 { s1 with heap := h', toks := tk } := I1.kept fun b o e => keep b o (Heap.lt_size e) e
  exact call_len_set ho ex hd hf (by rw [hn]; omega) ⟨.int _, H1, I2.tok _, ⟨_, by rw [hn]⟩, z _ m1 m2⟩
end L2

namespace L2
open PySem PySem.Spec PyProof.Rows
/-- f(c = .., b = .., a = ..): all by name, in the reverse order -/
def rev3 {α : Type} : List α → List α → List α
  | [], [c, b, a] => [a, b, c]
  | _, _ => []
theorem rev3_vals {vs zs : List V} {us ws : List Value} (r : Vals vs us) (q : Vals zs ws) : Vals (rev3 vs zs) (rev3 us ws) := by
  cases r with
  | nil =>
    cases q with
    | nil => exact .nil
    | cons h1 q =>
      cases q with
      | nil => exact .nil
      | cons h2 q =>
        cases q with
        | nil => exact .nil
        | cons h3 q =>
          cases q with
          | nil => exact .cons h3 (.cons h2 (.cons h1 .nil))
          | cons h4 q => exact .nil
  | cons h r => exact .nil
def rev4 {α : Type} : List α → List α → List α
  | [], [d, c, b, a] => [a, b, c, d]
  | _, _ => []
theorem rev4_vals {vs zs : List V} {us ws : List Value} (r : Vals vs us) (q : Vals zs ws) : Vals (rev4 vs zs) (rev4 us ws) := by
  cases r with
  | nil =>
    cases q with
    | nil => exact .nil
    | cons h1 q =>
      cases q with
      | nil => exact .nil
      | cons h2 q =>
        cases q with
        | nil => exact .nil
        | cons h3 q =>
          cases q with
          | nil => exact .nil
          | cons h4 q =>
            cases q with
            | nil => exact .cons h4 (.cons h3 (.cons h2 (.cons h1 .nil)))
            | cons h5 q => exact .nil
  | cons h r => exact .nil
/-- as Cal, and how a call by names binds -/
def CalK (P : Program) (w : World) (K : PySem.W.Frag) (mg : Str → Option Value) (base : Heap) (x : Str) (ps : List Str) (k : Nat) (sp : Sp) (ks : List Str) (g : List Value → List Value → List Value) (gV : List V → List V → List V) : Prop :=
  ∃ (f : Addr) (fd : FuncData), mg x = some (.ref f) ∧ PySem.W.keepIn K (.ref f) = true ∧ Binds K fd ps [] ∧ FnOk P w K mg base CX0 k f fd ps sp ∧ KBinds K fd ps ks g gV
theorem CalK.cal {P w K mg base x ps k sp ks g gV} (C : CalK P w K mg base x ps k sp ks g gV) : Cal P w K mg base x ps k sp := by
  obtain ⟨f, fd, a, b, c, d, _⟩ := C
  exact ⟨f, fd, a, b, c, d⟩
theorem Def.okK {P : Program} {w : World} {K : PySem.W.Frag} {mg : Str → Option Value} {base : Heap} {x : Str} {st : Stmt} {N ps ks : List Str} {k : Nat} {sp : Sp} {g : List Value → List Value → List Value} {gV : List V → List V → List V} (D : Def K mg x st) (S : FnScope N ps (defScope st))
    (hkb : ∀ (kV doc pm : Value) (an : Option Addr) (cdv ct : Value) (us ws : List Value), (g us ws).length = ps.length → bindArgs (PySem.W.fnOf x x (defArgs st) (defBody st) (defScope st) .none kV doc pm an cdv ct) ⟨us, ks.zip ws⟩ = pure (ps.zip (g us ws)))
    (hrel : ∀ {vs : List V} {us : List Value} {zs : List V} {ws : List Value}, Vals vs us → Vals zs ws → Vals (gV vs zs) (g us ws))
    (hb : ∀ (kV doc pm : Value) (an : Option Addr) (cdv ct : Value) (us : List Value), us.length = ps.length → bindArgs (PySem.W.fnOf x x (defArgs st) (defBody st) (defScope st) .none kV doc pm an cdv ct) ⟨us, []⟩ = pure (ps.zip us))
    (ar : ∀ vs H Q E, sp vs H Q E → vs.length = ps.length)
    (hbody : ∀ (f : Addr) (cdv : Value) (A : Around) (outer : List Env) (s : Shared) (H : Hp) (vs : List V) (Q : VK) (E : XK), Room k (A.deeper (envOfC x (defScope st) s.heap.objs.size f cdv)) → sp vs H Q E →
      ∃ t, PSs (cxOf CX0 P w K mg base N x (defScope st) f cdv A outer s H E).nox (defBody st) t ∧ t { nx := fun _ H' => Q .non H', rt := Q } (start N vs) H) : CalK P w K mg base x ps (k + 1) sp ks g gV := by
  obtain ⟨f, fd, F, m⟩ := D
  refine ⟨f, fd, m, F.kp, F.binds hb, F.ok S ar fun cdv A outer s H vs Q E hr h => hbody f cdv A outer s H vs Q E hr h, ?_, hrel⟩
  obtain ⟨oc, od, kV, doc, pm, an, cdv,
        ct, osl, rfl, lk, hcd⟩ := F.ex
  intro s us ws _ hl
  exact BindsTo.of_eq (hkb kV doc pm an cdv ct us ws hl)
section
variable {X : Cx} {CX : CXT} {k : Nat} {f : Addr} {fd : FuncData} {ps ks : List Str} {sp : Sp} {E : XK} {x : Str} {p pos : Pos} {kws : List Keyword} {tk : TA} {g : List Value → List Value → List Value} {gV : List V → List V → List V}
/-- f(k = v, ..), nothing by position -/
theorem pe_callK0 (F : FnOk X.prog X.w X.K X.mg X.base CX k f fd ps sp) (hr : Room k X.A) (hg : Gl X x) (hm : X.mg x = some (.ref f)) (hk : PySem.W.keepIn X.K (.ref f) = true) (hb : KBinds X.K fd ps ks g gV) (hx : Passes CX X E)
    (hkw : PK X kws tk) (hall : (backToKw pos (keywordEach kws X.env)).all (·.1.isSome) = true := by rfl) (hks : (backToKw pos (keywordEach kws X.env)).filterMap (·.1) = ks := by rfl)
    (hdb : (x == ("__debug__" : Str)) = false := by decide)
    (hpl : ((backTo pos (starEach [] X.env)).any (·.1) || (backToKw pos
          (keywordEach kws X.env)).any (·.1.isNone)) = false := by rfl) :
    PE X (.Call (.Name x p) [] kws pos) (tCallK sp gV E tNil tk) := by
  refine ⟨fun pins s σ H Q I h => ?_⟩
  refine wpAny_Call_Name_kw
        (ld_glob I hg hm ?_ hdb)
  have h : tk σ H (fun zs H2 => sp (gV [] zs) H2 Q E) := h
  refine PySem.W.callWith_KW0 (h₀ := X.base) I.ok.mod.kin hk hall (thn (hkw.run pos pins s σ H _ I h) fun ws s2 ⟨zs, H2, I2, rz, q2⟩ => ⟨I2.kIn, ?_⟩) hpl
  rw [hks]
  exact run_fnk (us := []) (vs := []) F hr hb hx I2 .nil rz q2
end
end L2

namespace L2
open PySem PySem.Spec PyProof.Rows
def rev2 {α : Type} : List α → List α → List α
  | [], [b, a] => [a, b]
  | _, _ => []
theorem rev2_vals {vs zs : List V} {us ws : List Value} (r : Vals vs us) (q : Vals zs ws) : Vals (rev2 vs zs) (rev2 us ws) := by
  cases r with
  | nil =>
    cases q with
    | nil => exact .nil
    | cons h1 q =>
      cases q with
      | nil => exact .nil
      | cons h2 q =>
        cases q with
        | nil => exact .cons h2 (.cons h1 .nil)
        | cons h3 q => exact .nil
  | cons h r => exact .nil
end L2

namespace K5
open PySem PySem.Spec PyProof.Rows L2 PySem.W
theorem toks_is : ∀ (l m : List Nat) (s t : List (Int ⊕ List Nat)), keyToksAll (dIs l) ++ s = keyToksAll (dIs m) ++ t → l = m ∧ s = t
  | [], [], s, t, h => by
    simp only [dIs, List.map_nil, keyToksAll, List.cons_append, List.nil_append, List.cons.injEq, true_and] at h
    exact ⟨rfl, h⟩
  | [], y :: m, s, t, h => by
    simp only [dIs, List.map_nil, List.map_cons, keyToksAll, List.cons_append, List.cons.injEq, Sum.inl.injEq] at h
    exact absurd h.1 (by decide)
  | x :: l, [], s, t, h => by
    simp only [dIs, List.map_nil, List.map_cons, keyToksAll, List.cons_append, List.cons.injEq, Sum.inl.injEq] at h
    exact absurd h.1 (by decide)
  | x :: l, y :: m, s, t, h => by
    have h2 : ((x : Int) = (y : Int)) ∧ keyToksAll (dIs l) ++ s = keyToksAll (dIs m) ++ t := by
      simp only [dIs, List.map_cons, keyToksAll, keyToks, List.cons_append, List.nil_append, List.cons.injEq, Sum.inl.injEq, true_and] at h
      exact h
    obtain ⟨a, b⟩ := toks_is l m s t h2.2
    exact ⟨by rw [a, show x = y by omega], b⟩
theorem toks_lm {x y : Lm} (h : keyToks (dLm x) = keyToks (dLm y)) : x = y := by
  obtain ⟨L, d, p⟩ := x
  obtain ⟨M, e, q⟩ := y
  simp only [dLm, keyToks, keyToksAll, List.cons.injEq, true_and] at h
  obtain ⟨a, b⟩ := toks_is L M _ _ h
  simp only [List.cons_append, List.nil_append, List.cons.injEq, Sum.inl.injEq, true_and, and_true] at b
  rw [a, show d = e by omega, show p = q by omega]
theorem le_anti {x y : Lm} (h1 : dataLe false dLm x y = true) (h2 : dataLe false dLm y x = true) : x = y := by
  refine toks_lm ((listOrd itemOrd).total _ _ ?_ ?_)
  · have h2 : (!(listOrd itemOrd).blt (keyToks (dLm x)) (keyToks (dLm y))) = true := h2
    simpa using h2
  · have h1 : (!(listOrd itemOrd).blt (keyToks (dLm y)) (keyToks (dLm x))) = true := h1
    simpa using h1
/-- one order only -/
theorem Srt.unique : ∀ {l m : List Lm}, l.Perm m → Srt l → Srt m → l = m
  | [], m, p, _, _ => p.symm.eq_nil.symm
  | a :: r, [], p, _, _ => by have := p.eq_nil; cases this
  | a :: r, b :: s, p, h1, h2 => by
    obtain ⟨h1a, h1b⟩ := List.pairwise_cons.mp h1
    obtain ⟨h2a, h2b⟩ := List.pairwise_cons.mp h2
    have e : a = b := by
      rcases List.mem_cons.mp (p.mem_iff.mp List.mem_cons_self) with e | q
      · exact e
      · rcases List.mem_cons.mp (p.symm.mem_iff.mp List.mem_cons_self) with e | q2
        · exact e.symm
        · exact le_anti (h1a b q2) (h2a a q)
    subst e
    rw [Srt.unique ((List.perm_cons a).mp p) h1b h2b]
/-- the last moves, in order -/
noncomputable def srtd (ds : List (Nat × Nat)) (S : S2) : List Lm := (lms ds S ds.length).mergeSort (dataLe false dLm)
theorem srtd_is {ds : List (Nat × Nat)} {S : S2} {l : List Lm} (p : l.Perm (lms ds S ds.length)) (h : Srt l) : l = srtd ds S :=
  Srt.unique (p.trans (List.mergeSort_perm _ _).symm) h (sort_pairwise (sortLe_total (listOrd itemOrd) false fun x : Lm => keyToks (dLm x)) _)
theorem srtd_len (ds : List (Nat × Nat)) (S : S2) : (srtd ds S).length ≤ ds.length := by
  unfold srtd
  rw [List.length_mergeSort]
  exact lms_len ds S _
def spCount (K : PySem.W.Frag) : Sp := fun vs H Q _ => ∃ (a s : Addr) (ds : List (Nat × Nat)) (n : Nat) (S : S2), vs = [.ref a, .ref s] ∧ HouseAt K H a ds ∧ Tree n ds ∧ n ≤ 1000 ∧ StateAt K H s S ∧ StOk n ds S ∧
  ∀ H', Same H H' → Q (.int (((srtd ds S).length * (S.1.length - 1) : Nat) : Int)) H'
def spBefore (K : PySem.W.Frag) : Sp := fun vs H Q _ => ∃ (s r : Addr) (S : S2) (L : List Nat) (d p : Nat), vs = [.ref s, .ref r, .int (d : Int), .int (p : Int)] ∧ StateAt K H s S ∧ SqT K H r (nv L) ∧ d < S.2.length ∧ S.2.length ≤ 1000 ∧
  ∀ (H' : Hp) (q : Addr), Same H H' → StateAt K H' q (L, S.2.set d p) → Q (.ref q) H'
def spAsMany (K : PySem.W.Frag) : Sp := fun vs H Q _ => ∃ (a s t : Addr) (ds : List (Nat × Nat)) (n : Nat) (S S' : S2), vs = [.ref a, .ref s, .ref t] ∧ HouseAt K H a ds ∧ Tree n ds ∧ n ≤ 1000 ∧ StateAt K H s S ∧ StateAt K H t S' ∧ StOk n ds S' ∧ S'.1.length = S.1.length ∧ ∀ H', Same H H' → Q .non H'
section
variable {P : Program} {w : World} {K : PySem.W.Frag}
      {mg : Str → Option Value} {base : Heap}
theorem ok_state_before (T : Bl mg) (D : Def K mg "state_before" s_state_before) (C_replaced : Cal P w K mg base "replaced" ["values", "index", "value"] 1 (spRepl K)) : Cal P w K mg base "state_before" ["state", "rooms", "door", "before"] 2 (spBefore K) := by
  refine D.ok sc_state_before (fun _ _ _ _ _ _ us hl => match us, hl with | [_, _, _, _], _ => rfl) (fun vs H Q E h => ?_) (fun f cdv A outer s0 H vs Q E hr h => ?_)
  · obtain ⟨s, r, S, L, d, p, rfl, _⟩ := h
    rfl
  obtain ⟨s, r, S, L, d, p, rfl, ⟨ra, b, h1, h2, h3⟩, hr2, hd, few, q⟩ := h
  obtain ⟨f_replaced, fd_replaced, g_replaced, k_replaced, b_replaced, G_replaced⟩ := C_replaced
  refine ⟨_, (pss_one (ps_ret (pe_tup (pa_cons (pv 1) (pa_cons (pe_call G_replaced (hr.mono (by decide)) (by rfl) g_replaced k_replaced b_replaced .nil pass0 (pa_cons (pe_ix ix_tup (pv 0) pe_int (fun _ _ => rfl)) (pa_cons (pv 2) (pa_cons (pv 3) pa_nil)))) pa_nil))))), ?_⟩
  refine ⟨_, rfl, _, rfl, s, _, _, _, rfl, rfl, h1, atI_nat (j := 1) rfl, _, rfl, _, rfl, b, S.2, d, p, rfl, h3, hd, few, fun H1 q1 s1 hq1 => ⟨by show 2 ≤ sizeLine; decide, fun t nt => ?_⟩⟩
  have st := Same.upd (o := .tup [.ref r, .ref q1]) nt
  exact q _ t (s1.trans st) ⟨r, q1, SqT.of upd_same, st.tup (s1.tup hr2), st.tup hq1⟩
theorem ok_need_state_of_as_many (T : Bl mg) (D : Def K mg "need_state_of_as_many" s_need_state_of_as_many) (C_need_state : Cal P w K mg base "need_state" ["house", "state"] 7 (spSt K)) : Cal P w K mg base "need_state_of_as_many" ["house", "state", "other"] 8 (spAsMany K) := by
  refine D.ok sc_need_state_of_as_many (fun _ _ _ _ _ _ us hl => match us, hl with | [_, _, _], _ => rfl) (fun vs H Q E h => ?_) (fun f cdv A outer s0 H vs Q E hr h => ?_)
  · obtain ⟨a, s, t, ds, n, S, S', rfl, _⟩ := h
    rfl
  obtain ⟨a, s, t, ds, n, S, S', rfl, hH, tree, hn, st, st', ok', el, q⟩ := h
  obtain ⟨r, b, h1, h2, h3⟩ := id st
  obtain ⟨r', b', h1', h2', h3'⟩ := id st'
  obtain ⟨f_need_state, fd_need_state, g_need_state, k_need_state, b_need_state, G_need_state⟩ := C_need_state
  refine ⟨_, (pss_cons (ps_expr (pe_call G_need_state (hr.mono (by decide)) (by rfl) g_need_state k_need_state b_need_state .nil pass0 (pa_cons (pv 0) (pa_cons (pv 2) pa_nil))))
    (pss_one (ps_if (pt_cmpR op_ne (pe_callB call_len_seq (by rfl) T.len PySem.boot_len (pa_cons (pe_ix ix_tup (pv 2) pe_int (fun _ _ => rfl)) pa_nil)) (pe_callB call_len_seq (by rfl) T.len PySem.boot_len (pa_cons (pe_ix ix_tup (pv 1) pe_int (fun _ _ => rfl)) pa_nil)) (nomark _)) pss_never pss_nil))), ?_⟩
  refine ⟨_, rfl, _, rfl, a, t, ds, n, S', rfl, hH, tree, hn, st', ok', fun H1 s1 => ?_⟩
  refine ⟨_, rfl, t, _, _, _, rfl, rfl, s1.tup h1', atI_nat (j := 0) rfl, r', _, rfl, .inr (s1.tup h2'), _, rfl, s, _, _, _, rfl, rfl, s1.tup h1, atI_nat (j := 0) rfl, r, _, rfl, .inr (s1.tup h2), rfl, _, rfl, ?_⟩
  rw [nv_len, nv_len, el, decide_eq_true rfl]
  exact iteF (q H1 s1)
theorem ok_count_previous (T : Bl mg) (D : Def K mg "count_previous" s_count_previous) (C_need_state : Cal P w K mg base "need_state" ["house", "state"] 7 (spSt K)) (C_last_moves : Cal P w K mg base "last_moves" ["house", "state"] 2 (spLast K)) : CalK P w K mg base "count_previous" ["house", "state"] 8 (spCount K) ["state", "house"] rev2 rev2 := by
  refine D.okK sc_count_previous (fun _ _ _ _ _ _ us ws hl => match us, ws, hl with | [], [_, _], _ => rfl) rev2_vals (fun _ _ _ _ _ _ us hl => match us, hl with | [_, _], _ => rfl) (fun vs H Q E h => ?_) (fun f cdv A outer s0 H vs Q E hr h => ?_)
  · obtain ⟨a, s, ds, n, S, rfl, _⟩ := h
    rfl
  obtain ⟨a, s, ds, n, S, rfl, hH, tree, hn, st, ok, q⟩ := h
  obtain ⟨r, b, h1, h2, h3⟩ := id st
  have one := ok.one
  obtain ⟨f_need_state, fd_need_state, g_need_state, k_need_state, b_need_state, G_need_state⟩ := C_need_state
  obtain ⟨f_last_moves, fd_last_moves, g_last_moves, k_last_moves, b_last_moves, G_last_moves⟩ := C_last_moves
  refine ⟨_, (pss_cons (ps_expr (pe_call G_need_state (hr.mono (by decide)) (by rfl) g_need_state k_need_state b_need_state .nil pass0 (pa_cons (pv 0) (pa_cons (pv 1) pa_nil))))
    (pss_one (ps_ret (pe_op op_mul (pe_callB call_len_seq (by rfl) T.len PySem.boot_len (pa_cons (pe_call G_last_moves (hr.mono (by decide)) (by rfl) g_last_moves k_last_moves b_last_moves .nil pass0 (pa_cons (pv 0) (pa_cons (pv 1) pa_nil))) pa_nil)) (pe_op op_sub (pe_callB call_len_seq (by rfl) T.len PySem.boot_len (pa_cons (pe_ix ix_tup (pv 1) pe_int (fun _ _ => rfl)) pa_nil)) pe_int))))), ?_⟩
  refine ⟨_, rfl, _, rfl, a, s, ds, n, S, rfl, hH, tree, hn, st, ok, fun H1 s1 => ?_⟩
  refine ⟨_, rfl, _, rfl, a, s, ds, n, S, rfl, hH.same s1, tree, hn, st.same s1, ok, fun H2 q2 ts l s2 nq2 hq2 la pl so => ?_⟩
  have el := srtd_is pl so
  subst el
  have s12 := s1.trans s2
  refine ⟨q2, _, rfl, .inl (SqL.of hq2), _, rfl, s, _, _, _, rfl, rfl, s12.tup h1, atI_nat (j := 0) rfl, r, _, rfl, .inr (s12.tup h2), _, _, rfl, rfl, ?_⟩
  have sl := srtd_len ds S
  have hdn := tree.len
  have e : (((ts.map V.ref).length : Nat) : Int) * (((nv S.1).length : Int) - 1) = (((srtd ds S).length * (S.1.length - 1) : Nat) : Int) := by
    rw [List.length_map, la.1, nv_len, Int.natCast_mul, Int.natCast_sub one]
    rfl
  have lt : (ts.map V.ref).length ≤ 1000 := by
    rw [List.length_map, la.1]
    omega
  refine ⟨_, _, rfl, rfl, .inl ⟨by omega, by omega⟩, ?_⟩
  exact (congrArg (fun z => Q (V.int z) H2) e).mpr (q _ s12)
end
end K5

namespace K5
open PySem PySem.Spec PyProof.Rows L2 PySem.W
theorem mem_lms {ds : List (Nat × Nat)} {S : S2} {x : Lm} : ∀ {k : Nat}, x ∈ lms ds S k → x.2.1 < k ∧ x.2.2 = S.2.getD x.2.1 0 ∧ x ∈ lmOf (ds.getD x.2.1 (0, 0)) S x.2.1 x.2.2
  | 0, h => nomatch h
  | k + 1, h => by
    have h : x ∈ lms ds S k ++ lmOf (ds.getD k (0, 0)) S k (S.2.getD k 0) := h
    rcases List.mem_append.mp h with h | h
    · obtain ⟨a, b, c⟩ := mem_lms h
      exact ⟨by omega, b, c⟩
    · have h0 := h
      unfold lmOf at h
      split at h
      · rw [List.mem_singleton] at h
        subst h
        exact ⟨Nat.lt_succ_self _, rfl, h0⟩
      · cases h
/-- the person whom the door barred before -/
def bef (o p : Nat) : Nat := if o < p then o else o + 1
def spPrevAt (K : PySem.W.Frag) : Sp := fun vs H Q _ => ∃ (a s : Addr) (ds : List (Nat × Nat)) (n i : Nat) (S : S2) (x : Lm), vs = [.ref a, .ref s, .int (i : Int)] ∧ HouseAt K H a ds ∧ Tree n ds ∧ n ≤ 1000 ∧ StateAt K H s S ∧ StOk n ds S ∧ i < (srtd ds S).length * (S.1.length - 1) ∧
  (srtd ds S)[i / (S.1.length - 1)]? = some x ∧ ∀ (H' : Hp) (q : Addr), Same H H' → StateAt K H' q (x.1, S.2.set x.2.1 (bef (i % (S.1.length - 1)) x.2.2)) → Q (.ref q) H'
section
variable {P : Program} {w : World} {K : PySem.W.Frag}
      {mg : Str → Option Value} {base : Heap}
theorem ok_previous_at (T : Bl mg) (D : Def K mg "previous_at" s_previous_at) (C_count_previous : Cal P w K mg base "count_previous" ["house", "state"] 8 (spCount K)) (C_is_index : Cal P w K mg base "is_index" ["value", "count"] 2 spIndex) (C_last_moves : Cal P w K mg base "last_moves" ["house", "state"] 2 (spLast K))
    (C_state_before : Cal P w K mg base "state_before" ["state", "rooms", "door", "before"] 2 (spBefore K)) : CalK P w K mg base "previous_at" ["house", "state", "index"] 9 (spPrevAt K) ["index", "state", "house"] rev3 rev3 := by
  refine D.okK sc_previous_at (fun _ _ _ _ _ _ us ws hl => match us, ws, hl with | [], [_, _, _], _ => rfl) rev3_vals (fun _ _ _ _ _ _ us hl => match us, hl with | [_, _, _], _ => rfl) (fun vs H Q E h => ?_) (fun f cdv A outer s0 H vs Q E hr h => ?_)
  · obtain ⟨a, s, ds, n, i, S, x, rfl, _⟩ := h
    rfl
  obtain ⟨a, s, ds, n, i, S, x, rfl, hH, tree, hn, st, ok, hi, hx, q⟩ := h
  obtain ⟨r, b, h1, h2, h3⟩ := id st
  have one := ok.one
  have few := ok.few
  have hdn := tree.len
  have drs := ok.doors
  obtain ⟨f_count_previous, fd_count_previous, g_count_previous, k_count_previous, b_count_previous, G_count_previous⟩ := C_count_previous
  obtain ⟨f_is_index, fd_is_index, g_is_index, k_is_index, b_is_index, G_is_index⟩ := C_is_index
  obtain ⟨f_last_moves, fd_last_moves, g_last_moves, k_last_moves, b_last_moves, G_last_moves⟩ := C_last_moves
  obtain ⟨f_state_before, fd_state_before, g_state_before, k_state_before, b_state_before, G_state_before⟩ := C_state_before
  refine ⟨_, (pss_cons (ps_set (i := 3) sc_previous_at.nd rfl (.inl rfl) (pe_call G_count_previous (hr.mono (by decide)) (by rfl) g_count_previous k_count_previous b_count_previous .nil pass0 (pa_cons (pv 0) (pa_cons (pv 1) pa_nil))))
    (pss_cons (ps_if (pt_not (pt_val (pe_call G_is_index (hr.mono (by decide)) (by rfl) g_is_index k_is_index b_is_index .nil pass0 (pa_cons (pv 2) (pa_cons (pv 3) pa_nil))))) pss_never pss_nil)
    (pss_cons (ps_asg (pe_callB call_divmod (by rfl) T.divmod (by decide +kernel) (pa_cons (pv 2) (pa_cons (pe_op op_sub (pe_callB call_len_seq (by rfl) T.len PySem.boot_len (pa_cons (pe_ix ix_tup (pv 1) pe_int (fun _ _ => rfl)) pa_nil)) pe_int) pa_nil))) (pg_tup (n := 2) rfl (pgs_cons (pg_name (i := 4) sc_previous_at.nd rfl (.inl rfl)) (pgs_cons (pg_name (i := 5) sc_previous_at.nd rfl (.inl rfl)) pgs_nil))))
    (pss_cons (ps_asg (pe_ix ix_list (pe_call G_last_moves (hr.mono (by decide)) (by rfl) g_last_moves k_last_moves b_last_moves .nil pass0 (pa_cons (pv 0) (pa_cons (pv 1) pa_nil))) (pv 4) (fun _ _ => rfl)) (pg_tup (n := 3) rfl (pgs_cons (pg_name (i := 6) sc_previous_at.nd rfl (.inl rfl)) (pgs_cons (pg_name (i := 7) sc_previous_at.nd rfl (.inl rfl)) (pgs_cons (pg_name (i := 8) sc_previous_at.nd rfl (.inl rfl)) pgs_nil)))))
    (pss_cons (ps_set (i := 9) sc_previous_at.nd rfl (.inl rfl) (pe_ifExp (pt_cmpR op_lt (pv 5) (pv 8) (nomark _)) (pv 5) (pe_op op_add (pv 5) pe_int)))
    (pss_one (ps_ret (pe_call G_state_before (hr.mono (by decide)) (by rfl) g_state_before k_state_before b_state_before .nil pass0 (pa_cons (pv 1) (pa_cons (pv 6) (pa_cons (pv 7) (pa_cons (pv 9) pa_nil)))))))))))), ?_⟩
  refine ⟨_, rfl, _, rfl, a, s, ds, n, S, rfl, hH, tree, hn, st, ok, fun H1 s1 => ?_⟩
  refine ⟨_, rfl, _, rfl, (i : Int), _, rfl, ?_⟩
  refine ⟨_, rfl, ?_⟩
  rw [decide_eq_true (show (0 : Int) ≤ (i : Int) ∧ (i : Int) < (((srtd ds S).length * (S.1.length - 1) : Nat) : Int) by omega)]
  refine iteF ?_
  have pos : 0 < S.1.length - 1 := by
    refine Nat.pos_of_ne_zero fun z => ?_
    rw [z, Nat.mul_zero] at hi
    omega
  generalize hP : S.1.length - 1 = m at pos hi hx q
  have eP : ((nv S.1).length : Int) - 1 = (m : Int) := by
    rw [nv_len]
    omega
  refine ⟨_, rfl, _, rfl, s, _, _, _, rfl, rfl, s1.tup h1, atI_nat (j := 0) rfl, r, _, rfl, .inr (s1.tup h2), _, _, rfl, rfl, (i : Int), (m : Int), congrArg (fun z => [V.int (i : Int), V.int z]) eP, ⟨by omega, by omega⟩, fun pt npt => ?_⟩
  have ed : (i : Int) / (m : Int) = ((i / m : Nat) : Int) := rfl
  have em : (i : Int) % (m : Int) = ((i % m : Nat) : Int) := rfl
  rw [ed, em]
  have s2 := s1.trans (Same.upd (o := .tup [.int ((i / m : Nat) : Int), .int ((i % m : Nat) : Int)]) npt)
  refine ⟨pt, _, rfl, SqT.of upd_same, rfl, _, _, rfl, _, _, rfl, rfl, ?_⟩
  generalize upd H1 pt (.tup [.int ((i / m : Nat) : Int), .int ((i % m : Nat) : Int)]) = H2 at s2
  refine ⟨_, rfl, _, rfl, a, s, ds, n, S, rfl, hH.same s2, tree, hn, st.same s2, ok, fun H3 q3 ts l s3 nq3 hq3 la pl so => ?_⟩
  have el := srtd_is pl so
  subst el
  obtain ⟨tx, htx⟩ : ∃ t, ts[i / m]? = some t := get_of la.1 (get_lt hx)
  obtain ⟨rx, hx1, hx2⟩ := la.2 _ tx x htx hx
  have s4 := s2.trans s3
  refine ⟨_, rfl, q3, _, _, V.ref tx, rfl, rfl, SqL.of hq3, atI_nat (by rw [List.getElem?_map, htx]; rfl), ?_⟩
  refine ⟨tx, _, rfl, SqT.of hx1, rfl, _, _, rfl, _, _, rfl, _, _, rfl, rfl, ?_⟩
  obtain ⟨dl, _, _⟩ := mem_lms (pl.mem_iff.mp (List.mem_of_getElem? hx))
  have fin : ∀ (H' : Hp) (q' : Addr), Same H3 H' → StateAt K H' q' (x.1, S.2.set x.2.1 (bef (i % m) x.2.2)) → Q (.ref q') H' := fun H' q' s' st' => q H' q' (s4.trans s') st'
  refine ⟨_, rfl, _, rfl, _, _, rfl, rfl, _, rfl, ?_⟩
  by_cases c : i % m < x.2.2
  · rw [decide_eq_true (show ((i % m : Nat) : Int) < (x.2.2 : Int) by omega)]
    have eb : bef (i % m) x.2.2 = i % m := by
      unfold bef
      rw [if_pos c]
    rw [eb] at fin
    exact iteT ⟨_, rfl, _, rfl, _, rfl, _, rfl, _, rfl, s, rx, S, x.1, x.2.1, i % m, rfl, st.same s4, hx2, by omega, by omega, fin⟩
  · rw [decide_eq_false (show ¬ ((i % m : Nat) : Int) < (x.2.2 : Int) by omega)]
    have eb : bef (i % m) x.2.2 = i % m + 1 := by
      unfold bef
      rw [if_neg c]
    rw [eb] at fin
    exact iteF ⟨_, rfl, _, _, rfl, rfl, _, rfl, _, rfl, _, rfl, _, rfl, s, rx, S, x.1, x.2.1, i % m + 1, rfl, st.same s4, hx2, by omega, by omega, fin⟩
end
end K5

namespace K5
open PySem PySem.Spec PyProof.Rows L2 PySem.W
theorem eqvAll_is : ∀ l m : List Nat, PyData.eqvAll (dIs l) (dIs m) = decide (l = m)
  | [], [] => by simp [dIs, PyData.eqvAll]
  | [], _ :: _ => by simp [dIs, PyData.eqvAll]
  | _ :: _, [] => by simp [dIs, PyData.eqvAll]
  | x :: l, y :: m => by
    have ih := eqvAll_is l m
    have hx : (((x : Int) == (y : Int)) : Bool) = decide (x = y) := by
      by_cases c : x = y
      · subst c; simp
      · rw [decide_eq_false c]
        simp
        omega
    unfold dIs at ih ⊢
    simp only [List.map_cons, PyData.eqvAll, PyData.eqv, ih, hx]
    by_cases c : x = y <;> by_cases d : l = m <;> simp [c, d]
theorem dS_eqv (A B : S2) : PyData.eqv (dS A) (dS B) = decide (A = B) := by
  obtain ⟨a, b⟩ := A
  obtain ⟨c, d⟩ := B
  simp only [dS, PyData.eqv, PyData.eqvAll, eqvAll_is, Bool.and_true, Prod.mk.injEq, Bool.decide_and]
/-- the state is one move before, by the last move x -/
def Bfr (S S' : S2) (x : Lm) : Prop := S'.2.getD x.2.1 0 ≠ x.2.2 ∧ S' = (x.1, S.2.set x.2.1 (S'.2.getD x.2.1 0))
/-- its number among the persons whom the door can have barred -/
def unbef (b p : Nat) : Nat := if b < p then b else b - 1
def spPrevIdx (K : PySem.W.Frag) : Sp := fun vs H Q _ => ∃ (a s t : Addr) (ds : List (Nat × Nat)) (n : Nat) (S S' : S2), vs = [.ref a, .ref s, .ref t] ∧ HouseAt K H a ds ∧ Tree n ds ∧ n ≤ 1000 ∧ StateAt K H s S ∧ StOk n ds S ∧ StateAt K H t S' ∧ StOk n ds S' ∧ S'.1.length = S.1.length ∧
  (∀ H', Same H H' → (∀ (k : Nat) (x : Lm), (srtd ds S)[k]? = some x → ¬ Bfr S S' x) → Q .non H') ∧
  (∀ (H' : Hp) (k : Nat) (x : Lm), Same H H' → (srtd ds S)[k]? = some x → Bfr S S' x → (∀ (j : Nat) (y : Lm), j < k → (srtd ds S)[j]? = some y → ¬ Bfr S S' y) → Q (.int ((k * (S.1.length - 1) + unbef (S'.2.getD x.2.1 0) x.2.2 : Nat) : Int)) H')
section
variable {P : Program} {w : World} {K : PySem.W.Frag}
      {mg : Str → Option Value} {base : Heap}
theorem ok_previous_index (T : Bl mg) (D : Def K mg "previous_index" s_previous_index) (C_need_state : Cal P w K mg base "need_state" ["house", "state"] 7 (spSt K)) (C_need_state_of_as_many : Cal P w K mg base "need_state_of_as_many" ["house", "state", "other"] 8 (spAsMany K))
    (C_last_moves : Cal P w K mg base "last_moves" ["house", "state"] 2 (spLast K)) (C_state_before : Cal P w K mg base "state_before" ["state", "rooms", "door", "before"] 2 (spBefore K)) : CalK P w K mg base "previous_index" ["house", "state", "previous"] 9 (spPrevIdx K) ["previous", "state", "house"] rev3 rev3 := by
  refine D.okK sc_previous_index (fun _ _ _ _ _ _ us ws hl => match us, ws, hl with | [], [_, _, _], _ => rfl) rev3_vals (fun _ _ _ _ _ _ us hl => match us, hl with | [_, _, _], _ => rfl) (fun vs H Q E h => ?_) (fun f cdv A outer s0 H vs Q E hr h => ?_)
  · obtain ⟨a, s, t, ds, n, S, S', rfl, _⟩ := h
    rfl
  obtain ⟨a, s, t, ds, n, S, S', rfl, hH, tree, hn, st, ok, st', ok', el, q1, q2⟩ := h
  obtain ⟨r, b, h1, h2, h3⟩ := id st
  obtain ⟨r', b', h1', h2', h3'⟩ := id st'
  have one := ok.one
  have few := ok.few
  have hdn := tree.len
  have drs := ok.doors
  have drs' := ok'.doors
  have sl := srtd_len ds S
  obtain ⟨f_need_state, fd_need_state, g_need_state, k_need_state, b_need_state, G_need_state⟩ := C_need_state
  obtain ⟨f_need_state_of_as_many, fd_need_state_of_as_many, g_need_state_of_as_many, k_need_state_of_as_many, b_need_state_of_as_many, G_need_state_of_as_many⟩ := C_need_state_of_as_many
  obtain ⟨f_last_moves, fd_last_moves, g_last_moves, k_last_moves, b_last_moves, G_last_moves⟩ := C_last_moves
  obtain ⟨f_state_before, fd_state_before, g_state_before, k_state_before, b_state_before, G_state_before⟩ := C_state_before
  refine ⟨_, (pss_cons (ps_expr (pe_call G_need_state (hr.mono (by decide)) (by rfl) g_need_state k_need_state b_need_state .nil pass0 (pa_cons (pv 0) (pa_cons (pv 1) pa_nil))))
    (pss_cons (ps_expr (pe_call G_need_state_of_as_many (hr.mono (by decide)) (by rfl) g_need_state_of_as_many k_need_state_of_as_many b_need_state_of_as_many .nil pass0 (pa_cons (pv 0) (pa_cons (pv 1) (pa_cons (pv 2) pa_nil)))))
    (pss_cons (ps_for PassesOwn.never rfl (pi_enum (by rfl) T.enumerate (pa_cons (pe_call G_last_moves (hr.mono (by decide)) (by rfl) g_last_moves k_last_moves b_last_moves .nil pass0 (pa_cons (pv 0) (pa_cons (pv 1) pa_nil))) pa_nil)) (pg_tup (n := 2) rfl (pgs_cons (pg_name (i := 3) sc_previous_index.nd rfl (.inl rfl)) (pgs_cons (pg_tup (n := 3) rfl (pgs_cons (pg_name (i := 4) sc_previous_index.nd rfl (.inl rfl)) (pgs_cons (pg_name (i := 5) sc_previous_index.nd rfl (.inl rfl)) (pgs_cons (pg_name (i := 6) sc_previous_index.nd rfl (.inl rfl)) pgs_nil)))) pgs_nil)))
    (pss_cons (ps_set (i := 7) sc_previous_index.nd rfl (.inl rfl) (pe_ix ix_tup (pe_ix ix_tup (pv 2) pe_int (fun _ _ => rfl)) (pv 5) (fun _ _ => rfl)))
    (pss_one (ps_if (PW.pt (pw_and (pt_cmpR op_ne (pv 7) (pv 6) (nomark _)) (pw_and1 (pt_cmpR (op_eqD hr.units) (pv 2) (pe_call G_state_before (hr.mono (by decide)) (by rfl) g_state_before k_state_before b_state_before .nil pass0 (pa_cons (pv 1) (pa_cons (pv 4) (pa_cons (pv 5) (pa_cons (pv 7) pa_nil))))) (nomark _))))) (pss_cons (ps_set (i := 8) sc_previous_index.nd rfl (.inl rfl) (pe_ifExp (pt_cmpR op_lt (pv 7) (pv 6) (nomark _)) (pv 7) (pe_op op_sub (pv 7) pe_int)))
    (pss_one (ps_ret (pe_op op_add (pe_op op_mul (pv 3) (pe_op op_sub (pe_callB call_len_seq (by rfl) T.len PySem.boot_len (pa_cons (pe_ix ix_tup (pv 1) pe_int (fun _ _ => rfl)) pa_nil)) pe_int)) (pv 8))))) pss_nil))))
    (pss_one (ps_ret pe_non))))), ?_⟩
  refine ⟨_, rfl, _, rfl, a, s, ds, n, S, rfl, hH, tree, hn, st, ok, fun H1 s1 => ?_⟩
  refine ⟨_, rfl, _, rfl, _, rfl, a, s, t, ds, n, S, S', rfl, hH.same s1, tree, hn, st.same s1, st'.same s1, ok', el, fun H2 s2 => ?_⟩
  have s12 := s1.trans s2
  refine ⟨_, rfl, _, rfl, a, s, ds, n, S, rfl, hH.same s12, tree, hn, st.same s12, ok, fun H3 q3 ts l s3 nq3 hq3 la pl so => ?_⟩
  have es := srtd_is pl so
  subst es
  have s13 := s12.trans s3
  refine ⟨q3, _, rfl, SqL.of hq3, ?_⟩
  refine for_it (walk_enum (K := K) (a := q3) (xs := ts.map V.ref)) (fun k σ H4 => ∃ (y3 y4 y5 y6 y7 y8 : Option V), σ = [some (.ref a), some (.ref s), some (.ref t), y3, y4, y5, y6, y7, y8] ∧ Same H3 H4 ∧ ∀ (j : Nat) (y : Lm), j < k → (srtd ds S)[j]? = some y → ¬ Bfr S S' y)
    ⟨_, _, _, _, _, _, rfl, Same.refl _, fun j y h => absurd h (Nat.not_lt_zero _)⟩ (fun i σ H1 _ ⟨_, _, _, _, _, _, _, sm, _⟩ => SqL.of (sm _ _ hq3)) ?_ ?_
  · rintro k x σ H4 H5 hk ⟨y3, y4, y5, y6, y7, y8, rfl, s4, no⟩ ⟨tt, x1, x2, rfl, nt, rfl, ex1, ex2⟩
    cases ex1
    have hk' : k < (srtd ds S).length := by
      rw [List.length_map, la.1] at hk
      exact hk
    obtain ⟨tx, htx⟩ : ∃ t, ts[k]? = some t := get_of la.1 hk'
    obtain ⟨x, hx⟩ : ∃ x, (srtd ds S)[k]? = some x := get_of rfl hk'
    have ex2' : V.ref tx = x2 := by
      have ex2 : (ts.map V.ref)[k]? = some x2 := ex2
      rw [List.getElem?_map, htx] at ex2
      exact Option.some.inj ex2
    subst ex2'
    obtain ⟨rx, hx1, hx2⟩ := la.2 _ tx x htx hx
    obtain ⟨dl, _, _⟩ := mem_lms (pl.mem_iff.mp (List.mem_of_getElem? hx))
    have smt : Same H4 (upd H4 tt (.tup [.int (k : Nat), .ref tx])) := Same.upd nt
    have s5 := s4.trans smt
    refine ⟨tt, _, rfl, SqT.of upd_same, rfl, _, _, rfl, _, _, rfl, ⟨tx, _, rfl, SqT.of (s5 _ _ hx1), rfl, _, _, rfl, _, _, rfl, _, _, rfl, rfl, rfl, ?_⟩⟩
    generalize upd H4 tt (.tup [.int (k : Nat), .ref tx]) = H6 at s5
    have s6 := s13.trans s5
    obtain ⟨bf, hbf⟩ : ∃ bf, S'.2[x.2.1]? = some bf := get_of drs' dl
    have eb : S'.2.getD x.2.1 0 = bf := by rw [List.getD_eq_getElem?_getD, hbf]; rfl
    refine ⟨_, rfl, t, _, _, _, rfl, rfl, s6.tup h1', atI_nat (j := 1) rfl, _, rfl, b', _, _, _, rfl, rfl, s6.tup h3', nv_at hbf, ?_⟩
    refine ⟨_, rfl, _, rfl, rfl, _, rfl, ?_⟩
    have step : ¬ Bfr S S' x → ∀ (j : Nat) (y : Lm), j < k + 1 → (srtd ds S)[j]? = some y → ¬ Bfr S S' y := fun nb j y hj hy => by
      rcases Nat.lt_succ_iff_lt_or_eq.mp hj with hj | hj
      · exact no j y hj hy
      · rw [hj, hx] at hy
        cases hy
        exact nb
    by_cases cb : bf = x.2.2
    · rw [decide_eq_true (show V.int (bf : Int) = V.int (x.2.2 : Int) by rw [cb])]
      exact iteF (iteF ⟨_, _, _, _, _, _, rfl, s5, step fun z => z.1 (by rw [eb, cb])⟩)
    rw [decide_eq_false (show ¬ V.int (bf : Int) = V.int (x.2.2 : Int) from fun z => cb (by have := V.int.inj z; omega))]
    refine iteT ⟨_, rfl, _, rfl, _, rfl, _, rfl, _, rfl, s, rx, S, x.1, x.2.1, bf, rfl, st.same s6, s5.tup hx2, by omega, by omega, fun H7 q7 s7 stq => ?_⟩
    refine ⟨dS S', dS (x.1, S.2.set x.2.1 bf), dp_S ((st'.same s6).same s7), dp_S stq, dS_shaped _, dS_shaped _, _, rfl, ?_⟩
    rw [dS_eqv]
    by_cases ce : S' = (x.1, S.2.set x.2.1 bf)
    case neg =>
      rw [decide_eq_false ce]
      exact iteF ⟨_, _, _, _, _, _, rfl, s5.trans s7, step fun z => ce (by have := z.2; rwa [eb] at this)⟩
    rw [decide_eq_true ce]
    have bfr : Bfr S S' x := ⟨by rw [eb]; exact cb, by rw [eb]; exact ce⟩
    have s8 := s6.trans s7
    have fin := q2 H7 k x s8 hx bfr fun j y hj hy => no j y hj hy
    rw [eb] at fin
    have e1 : (k : Int) * (((nv S.1).length : Int) - 1) = ((k * (S.1.length - 1) : Nat) : Int) := by
      rw [nv_len, Int.natCast_mul, Int.natCast_sub one]
      rfl
    refine iteT ⟨_, rfl, _, rfl, _, _, rfl, rfl, _, rfl, ?_⟩
    by_cases c : bf < x.2.2
    · rw [decide_eq_true (show (bf : Int) < (x.2.2 : Int) by omega)]
      refine iteT ⟨_, rfl, _, rfl, _, rfl, s, _, _, _, rfl, rfl, s8.tup h1, atI_nat (j := 0) rfl, r, _, rfl, .inr (s8.tup h2), _, _, rfl, rfl, _, _, rfl, rfl, .inl ⟨by omega, by omega⟩, _, rfl, _, _, rfl, rfl, ?_⟩
      have e2 : (k : Int) * (((nv S.1).length : Int) - 1) + (bf : Int) = ((k * (S.1.length - 1) + unbef bf x.2.2 : Nat) : Int) := by
        unfold unbef
        rw [if_pos c, e1, Int.natCast_add]
      exact (congrArg (fun z => Q (V.int z) H7) e2).mpr fin
    · rw [decide_eq_false (show ¬ (bf : Int) < (x.2.2 : Int) by omega)]
      have hb1 : 1 ≤ bf := by omega
      refine iteF ⟨_, rfl, _, _, rfl, rfl, _, rfl, _, rfl, s, _, _, _, rfl, rfl, s8.tup h1, atI_nat (j := 0) rfl, r, _, rfl, .inr (s8.tup h2), _, _, rfl, rfl, _, _, rfl, rfl, .inl ⟨by omega, by omega⟩, _, rfl, _, _, rfl, rfl, ?_⟩
      have e2 : (k : Int) * (((nv S.1).length : Int) - 1) + ((bf : Int) - 1) = ((k * (S.1.length - 1) + unbef bf x.2.2 : Nat) : Int) := by
        unfold unbef
        rw [if_neg c, e1, Int.natCast_add, Int.natCast_sub hb1]
        rfl
      exact (congrArg (fun z => Q (V.int z) H7) e2).mpr fin
  · rintro σ H4 ⟨y3, y4, y5, y6, y7, y8, rfl, s4, no⟩
    rw [List.length_map, la.1] at no
    exact q1 H4 (s13.trans s4) fun k x hx => no k x (get_lt hx) hx
end
end K5

namespace L2
open PySem
/-! how long a text of nested data may be -/
theorem shown_int64 : ∀ x : Fin 64, (PyData.shown (.int (x.val : Int))).length ≤ 2 := by decide +kernel
theorem shown_nat {x : Nat} (h : x < 64) : (PyData.shown (.int (x : Int))).length ≤ 2 := shown_int64 ⟨x, h⟩
theorem textFrom_le : ∀ (ts : List Str) (m k : Nat) (acc : Str), (∀ t ∈ ts, t.length ≤ m) → (textFrom k acc ts).length ≤ acc.length + ts.length * (m + 2)
  | [], m, k, acc, h => by show acc.length ≤ _; simp
  | t :: r, m, k, acc, h => by
    have ih := textFrom_le r m (k + 1) (acc ++ (if k > 0 then ", " else "" : String) ++ t) fun t ht => h t (List.mem_cons_of_mem _ ht)
    have h1 := h t List.mem_cons_self
    have e : (acc ++ Str.ofString (if k > 0 then ", " else "" : String) ++ t).length ≤ acc.length + 2 + t.length := by
      rw [strLen_append, strLen_append]
      have : (Str.ofString (if k > 0 then ", " else "" : String)).length ≤ 2 := by
        split <;> decide +kernel
      omega
    show (textFrom (k + 1) (acc ++ Str.ofString (if k > 0 then ", " else "" : String) ++ t) r).length ≤ _
    refine Nat.le_trans ih ?_
    rw [List.length_cons, Nat.succ_mul]
    exact Nat.le_trans (Nat.add_le_add_right e _) (by omega)
theorem piled_le : ∀ (ts : List Str) (m : Nat), (∀ t ∈ ts, t.length ≤ m) → piled ts ≤ ts.length * (m + 2)
  | [], m, h => by simp [piled]
  | t :: r, m, h => by
    have ih := piled_le r m fun t ht => h t (List.mem_cons_of_mem _ ht)
    have h1 := h t List.mem_cons_self
    rw [piled_cons, List.length_cons, Nat.succ_mul]
    omega
theorem listText_le (ts : List Str) (m : Nat) (h : ∀ t ∈ ts, t.length ≤ m) : (listText ts).length ≤ ts.length * (m + 2) + 2 := by
  unfold listText
  rw [strLen_append]
  have := textFrom_le ts m 0 "[" h
  have e1 : ((("[" : String) : Str)).length = 1 := rfl
  have e2 : ((("]" : String) : Str)).length = 1 := rfl
  omega
theorem tupleText_le (ts : List Str) (m : Nat) (h : ∀ t ∈ ts, t.length ≤ m) : (tupleText ts).length ≤ ts.length * (m + 2) + 3 := by
  unfold tupleText
  rw [strLen_append, strLen_append]
  have e1 : ((("(" : String)
        : Str)).length = 1 := rfl
  have e3 : (((if ts.length == 1 then ",)" else ")" : String) : Str)).length ≤ 2 := by split <;> decide
  have h2 := piled_le ts m h
  cases ts with
  | nil =>
    have e4 : (Str.join ", " ([] : List Str)).length = 0 := rfl
    omega
  | cons x r =>
    have := join_length_add (x :: r) (by simp)
    omega
theorem shownAll_map : ∀ l : List PyData, PyData.shownAll l = l.map PyData.shown
  | [] => rfl
  | x :: r => by
    rw [PyData.shownAll, shownAll_map r]
    rfl
theorem shown_tup_le (l : List PyData) (m : Nat) (h : ∀ d ∈ l, d.shown.length ≤ m) : (PyData.tuple l).shown.length ≤ l.length * (m + 2) + 3 := by
  have := tupleText_le (l.map PyData.shown) m fun t ht => by
    obtain ⟨d, hd, rfl⟩ := List.mem_map.mp ht
    exact h d hd
  rw [List.length_map] at this
  rw [PyData.shown, shownAll_map]
  exact this
theorem shown_list_le (l : List PyData) (m : Nat) (h : ∀ d ∈ l, d.shown.length ≤ m) : (PyData.list l).shown.length ≤ l.length * (m + 2) + 2 := by
  have := listText_le (l.map PyData.shown) m fun t ht => by
    obtain ⟨d, hd, rfl⟩ := List.mem_map.mp ht
    exact h d hd
  rw [List.length_map] at this
  rw [PyData.shown, shownAll_map]
  exact this
end L2

namespace L2
open PySem PySem.Spec PyProof.Rows
/-- as Cal, where no guard stands -/
def CalG (P : Program) (w : World) (K : PySem.W.Frag) (mg : Str → Option Value) (base : Heap) (x : Str) (ps : List Str) (k : Nat) (sp : Sp) : Prop :=
  ∃ (f : Addr) (fd : FuncData), mg x = some (.ref f) ∧ PySem.W.keepIn K (.ref f) = true ∧ Binds K fd ps [] ∧ FnG P w K mg base k f fd ps sp
theorem Def.okG {P : Program} {w : World} {K : PySem.W.Frag} {mg : Str → Option Value} {base : Heap} {x : Str} {st : Stmt} {N ps : List Str} {k : Nat} {sp : Sp} (D : Def K mg x st) (S : FnScope N ps (defScope st))
    (hb : ∀ (kV doc pm : Value) (an : Option Addr) (cdv ct : Value) (us : List Value), us.length = ps.length → bindArgs (PySem.W.fnOf x x (defArgs st) (defBody st) (defScope st) .none kV doc pm an cdv ct) ⟨us, []⟩ = pure (ps.zip us))
    (ar : ∀ vs H Q E, sp vs H Q E → vs.length = ps.length)
    (hbody : ∀ (f : Addr) (cdv : Value) (A : Around) (outer : List Env) (s : Shared) (H : Hp) (vs : List V) (Q : VK) (E : XK), Room k (A.deeper (envOfC x (defScope st) s.heap.objs.size f cdv)) → (A.deeper (envOfC x (defScope st) s.heap.objs.size f cdv)).guards = some [] → sp vs H Q E →
      ∃ t, PSs (cxOf CX0 P w K mg base N x (defScope st) f cdv A outer s H E).nox (defBody st) t ∧ t { nx := fun _ H' => Q .non H', rt := Q } (start N vs) H) : CalG P w K mg base x ps (k + 1) sp := by
  obtain ⟨f, fd, F, m⟩ := D
  exact ⟨f, fd, m, F.kp, F.binds hb, F.okG S ar fun cdv A outer s H vs Q E hr hq h => hbody f cdv A outer s H vs Q E hr hq h⟩
end L2

namespace K5
open PySem PySem.Spec PyProof.Rows L2
/-! the house and the state as text -/
def dE (e : Nat × Nat) : PyData := .tuple [.int (e.1 : Int), .int (e.2 : Int)]
def dH (ds : List (Nat × Nat)) : PyData := .tuple (ds.map dE)
def dHS (ds : List (Nat × Nat)) (S : S2) : PyData := .list [dH ds, dS S]
section
variable {K : PySem.W.Frag} {H : Hp} {a s : Addr} {ds : List (Nat × Nat)} {S : S2}
theorem dp_Es : ∀ (rs : List Addr) (ds : List (Nat × Nat)), rs.length = ds.length → (∀ (d : Nat) (r : Addr) (e : Nat × Nat), rs[d]? = some r → ds[d]? = some e → SqT K H r [.int e.1, .int e.2]) → DpAll K H (rs.map V.ref) (ds.map dE)
  | [], [], _, _ => .nil
  | [], _ :: _, h, _ => by simp at h
  | _ :: _, [], h, _ => by simp at h
  | r :: rs, e :: ds, h, hd => .cons (.tup (hd 0 r e rfl rfl) (.cons (.int _) (.cons (.int _) .nil))) (dp_Es rs ds (by simpa using h) fun d r' e' x y => hd (d + 1) r' e' x y)
theorem dp_H (h : HouseAt K H a ds) : Dp K H (.ref a) (dH ds) := by
  obtain ⟨rs, h1, h2, h3⟩ := h
  exact .tup h1 (dp_Es rs ds h2 h3)
theorem dp_HS {p : Addr} (hp : SqL K H p [.ref a, .ref s]) (h : HouseAt K H a ds) (st : StateAt K H s S) : Dp K H (.ref p) (dHS ds S) := .lst hp (.cons (dp_H h) (.cons (dp_S st) .nil))
theorem dE_lay (z : Nat × Nat) : (dE z).canLay0 = true := by simp [dE, PyData.canLay0, PyData.canLayAll0]
theorem dEs_lay : ∀ zs : List (Nat × Nat), PyData.canLayAll0 (zs.map dE) = true
  | [] => by simp [PyData.canLayAll0]
  | z :: zs => by simp [PyData.canLayAll0, dE_lay z, dEs_lay zs]
theorem dE_depth (z : Nat × Nat) : (dE z).depth ≤ 2 := by simp [dE, PyData.depth, PyData.depthAll]
theorem dEs_depth : ∀ zs : List (Nat × Nat), PyData.depthAll (zs.map dE) ≤ 2
  | [] => by simp [PyData.depthAll]
  | z :: zs => by
    have h1 := dEs_depth zs
    have h2 := dE_depth z
    simp only [List.map_cons, PyData.depthAll]
    omega
theorem dHS_nodict : (dHS ds S).hasDict = false := by
  refine PyData.hasDict_of_canLay _ ?_
  simp only [dHS, dH, dS, PyData.canLay0, PyData.canLayAll0, dEs_lay, dIs_lay, Bool.and_true]
theorem dHS_depth : (dHS ds S).depth ≤ 20 := by
  have h1 := dEs_depth ds
  have h2 := dIs_depth S.1
  have h3 := dIs_depth S.2
  simp only [dHS, dH, dS, PyData.depth, PyData.depthAll]
  omega
theorem small_show {x : Nat} (h : x < 64) : PyData.showable (.int (x : Int)) = true := by
  have : ∀ x : Fin 64, PyData.showable (.int (x.val : Int)) = true := by decide +kernel
  exact this ⟨x, h⟩
theorem showIs : ∀ l : List Nat, (∀ x ∈ l, x < 64) → PyData.showableAll (dIs l) = true
  | [], _ => by simp [dIs, PyData.showableAll]
  | x :: r, h => by
    have ih := showIs r fun y hy => h y (List.mem_cons_of_mem _ hy)
    unfold dIs at ih ⊢
    rw [List.map_cons, List.map_cons, PyData.showableAll, ih, small_show (h x List.mem_cons_self)]
    rfl
theorem showEs : ∀ l : List (Nat × Nat), (∀ e ∈ l, e.1 < 64 ∧ e.2 < 64) → PyData.showableAll (l.map dE) = true
  | [], _ => by simp [PyData.showableAll]
  | e :: r, h => by
    have ih := showEs r fun y hy => h y (List.mem_cons_of_mem _ hy)
    obtain ⟨h1, h2⟩ := h e List.mem_cons_self
    rw [List.map_cons, PyData.showableAll, ih, dE]
    simp only [PyData.showable, PyData.showableAll] at *
    have a1 := small_show h1
    have a2 := small_show h2
    simp only [PyData.showable] at a1 a2
    rw [a1, a2]
    rfl
theorem dHS_show {n : Nat} (T : Tree n ds) (ok : StOk n ds S) (hn : n ≤ 60) : (dHS ds S).showable = true := by
  have h1 := showEs ds fun e he => by
    have := T.lt e he
    omega
  have h2 := showIs S.1 fun x hx => by
    have := ok.rooms x hx
    omega
  have h3 := showIs S.2 fun x hx => by
    have := ok.bars x hx
    have := ok.few
    omega
  simp only [dHS, dH, dS, PyData.showable, PyData.showableAll, h1, h2, h3]
  rfl
theorem dHS_len {n : Nat} (T : Tree n ds) (ok : StOk n ds S) (hn : n ≤ 60) : (dHS ds S).shown.length ≤ sizeLine := by
  have hdn := T.len
  have hE : ∀ d ∈ ds.map dE, d.shown.length ≤ 11 := fun d hd => by
    obtain ⟨e, he, rfl⟩ := List.mem_map.mp hd
    have hl := T.lt e he
    refine shown_tup_le [.int (e.1 : Int), .int (e.2 : Int)] 2 fun d hd => ?_
    simp only [List.mem_cons, List.not_mem_nil, or_false] at hd
    rcases hd with rfl | rfl
    · exact shown_nat (by omega)
    · exact shown_nat (by omega)
  have hI : ∀ l : List Nat, (∀ x ∈ l, x < 64) → ∀ d ∈ dIs l, d.shown.length ≤ 2 := fun l h d hd => by
    unfold dIs at hd
    rw [List.map_map] at hd
    obtain ⟨x, hx, rfl⟩ := List.mem_map.mp hd
    exact shown_nat (h x hx)
  have l1 := shown_tup_le (ds.map dE) 11 hE
  have l2 := shown_tup_le (dIs S.1) 2 (hI S.1 fun x hx => by have := ok.rooms x hx; omega)
  have l3 := shown_tup_le (dIs S.2) 2 (hI S.2 fun x hx => by have := ok.bars x hx; have := ok.few; omega)
  have e2 : (dIs S.1).length = S.1.length := by simp [dIs]
  have e3 : (dIs S.2).length = S.2.length := by simp [dIs]
  rw [List.length_map] at l1
  rw [e2] at l2
  rw [e3] at l3
  have few := ok.few
  have hd := ok.doors
  have l4 := shown_tup_le [.tuple (dIs S.1), .tuple (dIs S.2)] 400 fun d hd => by
    simp only [List.mem_cons, List.not_mem_nil, or_false] at hd
    rcases hd with rfl | rfl <;> omega
  have l5 := shown_list_le [dH ds, dS S] 2000 fun d hd => by
    simp only [List.mem_cons, List.not_mem_nil, or_false] at hd
    rcases hd with rfl | rfl
    · show (PyData.tuple (ds.map dE)).shown.length ≤ 2000
      omega
    · show (PyData.tuple [.tuple (dIs S.1), .tuple (dIs S.2)]).shown.length ≤ 2000
      have : ([.tuple (dIs S.1), .tuple (dIs S.2)] : List PyData).length = 2 := rfl
      omega
  refine Nat.le_trans l5 ?_
  show 2 * 2002 + 2 ≤ sizeLine
  decide
end
end K5

/-! own error classes with __init__(self, ..=None), of any one or two fields; defs that raise them -/
namespace L2
open PySem PySem.Spec PyProof.Rows
/-- what the top holds of an error's class -/
structure ErrK (K : PySem.W.Frag) (mg : Str → Option Value) (x : Str) (C fI : Addr) (flds : List Str) : Prop where
  g : mg x = some (.ref C)
  o : OexC K C
  f : XfC K C
  i : PySem.W.findIn K (.ref C) "__init__" = some (some (.ref fI))
  t : PySem.W.typeIn K (.ref fI) = some (.type "function")
  r : ∀ q ∈ flds, PySem.W.findIn K (.ref C) q = some none
  xm : PySem.W.exmOne K (.ref C) (.ref C) = some true
/-- one field: the value is stored -/
def spE1 (C : Addr) (q : Str) : Sp := fun vs H Q _ => ∃ (a : Addr) (y : V), vs = [.ref a, y] ∧ H a = some (exo a C none) ∧ ∀ d, H d = none → d ≠ a → Q .non (upd (upd H d (exd d [(q, y)])) a (exo a C (some d)))
/-- two fields -/
def spE2 (C : Addr) (q1 q2 : Str) : Sp := fun vs H Q _ => ∃ (a : Addr) (x y : V), vs = [.ref a, x, y] ∧ H a = some (exo a C none) ∧
  ∀ d, H d = none → d ≠ a → Q .non (upd (upd (upd H d (exd d [(q1, x)])) a (exo a C (some d))) d (exd d [(q2, y), (q1, x)]))
def ErrOkK (P : Program) (w : World) (K : PySem.W.Frag) (mg : Str → Option Value) (base : Heap) (x : Str) (C : Addr) (ps flds : List Str) (sp : Sp) : Prop :=
  ∃ (fI : Addr) (fd : FuncData), ErrK K mg x C fI flds ∧ FnOk P w K mg base CX0 1 fI fd ps sp ∧ Binds K fd ps []
/-- the heap behind a raise: the error's dict is new, the error itself flies -/
theorem Same.err {H G : Hp} {b d : Addr} {y : HO} (nb : H b = none) (nd : H d = none) (h : ∀ c, c ≠ b → c ≠ d → G c = H c) : Same H (L2.upd (L2.del G b) d y) := fun c o e => by
  have h1 := ne_of_none e nb
  have h2 := ne_of_none e nd
  rw [L2.upd_ne h2, L2.del_ne h1, h c h1 h2]
  exact e
/-- a def that may raise -/
def CalX (P : Program) (w : World) (K : PySem.W.Frag) (mg : Str → Option Value) (base : Heap) (x : Str) (ps : List Str) (k : Nat) (sp : Sp) : Prop :=
  ∃ (f : Addr) (fd : FuncData), mg x = some (.ref f) ∧ PySem.W.keepIn K (.ref f) = true ∧ Binds K fd ps [] ∧ FnOk P w K mg base (L2.CX P w) k f fd ps sp
theorem Def.okX {P : Program} {w : World} {K : PySem.W.Frag} {mg : Str → Option Value} {base : Heap} {x : Str} {st : Stmt} {N ps : List Str} {k : Nat} {sp : Sp} (D : Def K mg x st) (S : FnScope N ps (defScope st))
    (hb : ∀ (kV doc pm : Value) (an : Option Addr) (cdv ct : Value) (us : List Value), us.length = ps.length → bindArgs (PySem.W.fnOf x x (defArgs st) (defBody st) (defScope st) .none kV doc pm an cdv ct) ⟨us, []⟩ = pure (ps.zip us))
    (ar : ∀ vs H Q E, sp vs H Q E → vs.length = ps.length)
    (hbody : ∀ (f : Addr) (cdv : Value) (A : Around) (outer : List Env) (s : Shared) (H : Hp) (vs : List V) (Q : VK) (E : XK), Room k (A.deeper (envOfC x (defScope st) s.heap.objs.size f cdv)) → sp vs H Q E →
      ∃ t, PSs (cxOf (L2.CX P w) P w K mg base N x (defScope st) f cdv A outer s H E) (defBody st) t ∧ t { nx := fun _ H' => Q .non H', rt := Q } (start N vs) H) : CalX P w K mg base x ps (k + 1) sp := by
  obtain ⟨f, fd, F, m⟩ := D
  exact ⟨f, fd, m, F.kp, F.binds hb, F.okX S ar fun cdv A outer s H vs Q E hr h => hbody f cdv A outer s H vs Q E hr h⟩
/-- values that are no whole numbers -/
inductive Odd (K : PySem.W.Frag) (H : Hp) : V → Prop
  | bl (b : Bool) : Odd K H (.bl b)
  | non : Odd K H .non
  | str (z : Str) : Odd K H (.str z)
  | tup {a : Addr} {xs : List V} (h : SqT K H a xs) : Odd K H (.ref a)
  | lst {a : Addr} {xs : List V} (h : H a = some (.lst xs)) : Odd K H (.ref a)
theorem Odd.same {K : PySem.W.Frag} {H H' : Hp} {x : V} (h : Odd K H x) (s : Same H H') : Odd K H' x := by
  cases h with
  | bl b => exact .bl b
  | non => exact .non
  | str z => exact .str z
  | tup h => exact .tup (s.tup h)
  | lst h => exact .lst (s _ _ h)
end L2

namespace K5
open PySem PySem.Spec PyProof.Rows L2
def mem0 (s : Stmt) : Stmt := match s with
  | .ClassDef _ _ _ (b :: _) _ _ _ _ _ _ _ => b
  | _ => .Pass ⟨0, 0, 0, 0⟩
abbrev s_is : Stmt := mem0 (top 3)
abbrev N_is : List Str := ["self", "reason"]
theorem sc_is : FnScope N_is ["self", "reason"] (defScope s_is) := ⟨rfl, rfl, rfl, by decide +kernel, rfl, by decide +kernel, by decide +kernel⟩
abbrev s_it : Stmt := mem0 (top 4)
abbrev N_it : List Str := ["self", "count"]
theorem sc_it : FnScope N_it ["self", "count"] (defScope s_it) := ⟨rfl, rfl, rfl, by decide +kernel, rfl, by decide +kernel, by decide +kernel⟩
section
variable {P : Program} {w : World} {K : PySem.W.Frag}
      {mg : Str → Option Value} {base : Heap}
theorem e_ok_is {C f : Addr} {fd : FuncData} (T : ErrK K mg "InvalidState" C f ["reason"]) (F : FunD K "__init__" "InvalidState.__init__" (defArgs s_is) (defBody s_is) (defScope s_is) [.non] [] f fd) : FnOk P w K mg base CX0 1 f fd ["self", "reason"] (spE1 C "reason") := by
  refine F.ok (CX := CX0) sc_is (fun vs H Q E h => ?_) (fun cdv A outer s H vs Q E hr h => ?_)
  · obtain ⟨a, y, rfl, _⟩ := h
    rfl
  obtain ⟨a, y, rfl, ha, q⟩ := h
  refine ⟨_, (pss_one (ps_ost (pv 0) (pv 1))), ?_⟩
  exact ⟨_, rfl, _, rfl, a, C, rfl, T.o, T.r _ (by decide +kernel), .inl ⟨ha, fun d nd ne => q d nd ne⟩⟩
theorem e_b_is {f : Addr} {fd : FuncData} (F : FunD K "__init__" "InvalidState.__init__" (defArgs s_is) (defBody s_is) (defScope s_is) [.non] [] f fd) : Binds K fd ["self", "reason"] [] := by
  obtain ⟨ds, v, b⟩ := F.binds1 (ps := ["self", "reason"]) 2 1 (by simp) rfl (fun T kV doc pm an cdv ct us its hl hl2 => match us, hl, its, hl2 with | [_, _], _, [_], _ => ⟨_, rfl, rfl⟩)
  cases v
  exact b
theorem e_ok_it {C f : Addr} {fd : FuncData} (T : ErrK K mg "IndexTooLarge" C f ["count"]) (F : FunD K "__init__" "IndexTooLarge.__init__" (defArgs s_it) (defBody s_it) (defScope s_it) [.non] [] f fd) : FnOk P w K mg base CX0 1 f fd ["self", "count"] (spE1 C "count") := by
  refine F.ok (CX := CX0) sc_it (fun vs H Q E h => ?_) (fun cdv A outer s H vs Q E hr h => ?_)
  · obtain ⟨a, y, rfl, _⟩ := h
    rfl
  obtain ⟨a, y, rfl, ha, q⟩ := h
  refine ⟨_, (pss_one (ps_ost (pv 0) (pv 1))), ?_⟩
  exact ⟨_, rfl, _, rfl, a, C, rfl, T.o, T.r _ (by decide +kernel), .inl ⟨ha, fun d nd ne => q d nd ne⟩⟩
theorem e_b_it {f : Addr} {fd : FuncData} (F : FunD K "__init__" "IndexTooLarge.__init__" (defArgs s_it) (defBody s_it) (defScope s_it) [.non] [] f fd) : Binds K fd ["self", "count"] [] := by
  obtain ⟨ds, v, b⟩ := F.binds1 (ps := ["self", "count"]) 2 1 (by simp) rfl (fun T kV doc pm an cdv ct us its hl hl2 => match us, hl, its, hl2 with | [_, _], _, [_], _ => ⟨_, rfl, rfl⟩)
  cases v
  exact b
end
end K5

namespace K5
open PySem PySem.Spec PyProof.Rows L2
/-- whole? of anything -/
def spWholeO (K : PySem.W.Frag) : Sp := fun vs H Q _ => ∃ x : V, vs = [x] ∧ ((∃ i : Int, x = .int i ∧ Q (.bl true) H) ∨ (Odd K H x ∧ Q (.bl false) H))
def spIndexO (K : PySem.W.Frag) : Sp := fun vs H Q _ => ∃ (x : V) (n : Int), vs = [x, .int n] ∧ ((∃ i : Int, x = .int i ∧ Q (.bl (decide (0 ≤ i ∧ i < n))) H) ∨ (Odd K H x ∧ Q (.bl false) H))
section
variable {P : Program} {w : World} {K : PySem.W.Frag}
      {mg : Str → Option Value} {base : Heap}
theorem ok_is_whole__o (T : Bl mg) (D : Def K mg "is_whole" s_is_whole) : Cal P w K mg base "is_whole" ["value"] 1 (spWholeO K) := by
  refine D.ok sc_is_whole (fun _ _ _ _ _ _ us hl => match us, hl with | [_], _ => rfl) (fun vs H Q E h => ?_) (fun f cdv A outer s H vs Q E hr h => ?_)
  · obtain ⟨i, rfl, _⟩ := h
    rfl
  obtain ⟨x, rfl, h⟩ := h
  refine ⟨_, (pss_one (ps_ret (pe_and (pe_callB call_isi (by rfl) T.isinstance (by decide +kernel) (pa_cons (pv 0) (pa_cons (pe_bltn (v := .ty "int") (u := .type "int") (by rfl) T.int (by decide +kernel) rfl) pa_nil))) (pe_one (pe_not (pe_callB call_isi (by rfl) T.isinstance (by decide +kernel) (pa_cons (pv 0) (pa_cons (pe_bltn (v := .ty "bool") (u := .type "bool") (by rfl) T.bool (by decide +kernel) rfl) pa_nil)))))))), ?_⟩
  rcases h with ⟨i, rfl, q⟩ | ⟨od, q⟩
  · refine ⟨_, rfl, _, _, _, _, _, rfl, .ty _, .base (.int _), kit_ty (r := true) (by decide +kernel), _, rfl, iteT ?_⟩
    refine ⟨_, rfl, _, _, _, _, _, rfl, .ty _, .base (.int _), kit_ty (r := false) (by decide +kernel), _, rfl, q⟩
  · cases od with
    | bl b =>
      refine ⟨_, rfl, _, _, _, _, _, rfl, .ty _, .base (.bl _), kit_ty (r := true) (by decide +kernel), _, rfl, iteT ?_⟩
      refine ⟨_, rfl, _, _, _, _, _, rfl, .ty _, .base (.bl _), kit_ty (r := true) (by decide +kernel), _, rfl, q⟩
    | non => exact ⟨_, rfl, _, _, _, _, _, rfl, .ty _, .base .non, kit_ty (r := false) (by decide +kernel), _, rfl, iteF q⟩
    | str z => exact ⟨_, rfl, _, _, _, _, _, rfl, .ty _, .base (.str _), kit_ty (r := false) (by decide +kernel), _, rfl, iteF q⟩
    | tup h => exact ⟨_, rfl, _, _, _, _, _, rfl, .ty _, ty_tup h, kit_ty (r := false) (by decide +kernel), _, rfl, iteF q⟩
    | lst h => exact ⟨_, rfl, _, _, _, _, _, rfl, .ty _, .base (.lst h), kit_ty (r := false) (by decide +kernel), _, rfl, iteF q⟩
theorem ok_is_index__o (T : Bl mg) (D : Def K mg "is_index" s_is_index) (C_is_whole : Cal P w K mg base "is_whole" ["value"] 1 (spWholeO K)) : Cal P w K mg base "is_index" ["value", "count"] 2 (spIndexO K) := by
  refine D.ok sc_is_index (fun _ _ _ _ _ _ us hl => match us, hl with | [_, _], _ => rfl) (fun vs H Q E h => ?_) (fun f cdv A outer s H vs Q E hr h => ?_)
  · obtain ⟨x, n, rfl, _⟩ := h
    rfl
  obtain ⟨x, n, rfl, h⟩ := h
  obtain ⟨f_is_whole, fd_is_whole, g_is_whole, k_is_whole, b_is_whole, G_is_whole⟩ := C_is_whole
  refine ⟨_, (pss_one (ps_ret (pe_and (pe_call G_is_whole (hr.mono (by decide)) (by rfl) g_is_whole k_is_whole b_is_whole .nil pass0 (pa_cons (pv 0) pa_nil)) (pe_one (pe_chain op_le op_lt pe_int (pv 0) (pv 1)))))), ?_⟩
  rcases h with ⟨i, rfl, q⟩ | ⟨od, q⟩
  · refine ⟨_, rfl, _, rfl, .inl ⟨_, rfl, _, rfl, iteT ?_⟩⟩
    refine ⟨_, rfl, _, _, rfl, rfl, _, rfl, ite2 (fun h => ?_) (fun h => ?_)⟩
    · have h := of_decide_eq_true h
      refine ⟨_, rfl, _, _, rfl, rfl, ?_⟩
      have e : decide (i < n) = decide (0 ≤ i ∧ i < n) := by simp [h]
      show Q (.bl (decide (i < n))) H
      rw [e]
      exact q
    · have e : false = decide (0 ≤ i ∧ i < n) := by
        have h : ¬ 0 ≤ i := fun z => h (decide_eq_true z)
        simp [h]
      show Q (.bl false) H
      rw [e]
      exact q
  · exact ⟨_, rfl, _, rfl, .inr ⟨od, _, rfl, iteF q⟩⟩
end
end K5

namespace K5
open PySem PySem.Spec PyProof.Rows L2
/-- two tuples that should be a state, of whatever they are -/
def SVAt (K : PySem.W.Frag) (H : Hp) (s : Addr) (vr vb : List V) : Prop := ∃ r b : Addr, SqT K H s [.ref r, .ref b] ∧ SqT K H r vr ∧ SqT K H b vb
theorem SVAt.same {K H H' s vr vb} (h : SVAt K H s vr vb) (m : Same H H') : SVAt K H' s vr vb := by
  obtain ⟨r, b, h1, h2, h3⟩ := h
  exact ⟨r, b, m.tup h1, m.tup h2, m.tup h3⟩
/-- all below m ahead of k, a bool at k -/
def FirstBl (m : Nat) (vs : List V) (k : Nat) : Prop := (∀ (i : Nat) (x : V), i < k → vs[i]? = some x → ∃ v : Nat, x = .int (v : Int) ∧ v < m) ∧ ∃ b, vs[k]? = some (.bl b)
def BadSt (n : Nat) (ds : List (Nat × Nat)) (vr vb : List V) (w : String) (k : Nat) : Prop := 1 ≤ vr.length ∧ vr.length ≤ 1000 ∧ vb.length = ds.length ∧
  ((w = "room" ∧ FirstBl n vr k) ∨ (w = "barred" ∧ (∀ x ∈ vr, ∃ v : Nat, x = .int (v : Int) ∧ v < n) ∧ FirstBl vr.length vb k))
def spShapeV (K : PySem.W.Frag) : Sp := fun vs H Q _ => ∃ (a s : Addr) (ds : List (Nat × Nat)) (vr vb : List V), vs = [.ref a, .ref s] ∧ HouseAt K H a ds ∧ SVAt K H s vr vb ∧ 1 ≤ vr.length ∧ vb.length = ds.length ∧ Q (.bl true) H
def spStB (K : PySem.W.Frag) : Sp := fun vs H Q _ => ∃ (a s : Addr) (ds : List (Nat × Nat)) (n : Nat) (vr vb : List V) (w : String) (k : Nat), vs = [.ref a, .ref s] ∧ HouseAt K H a ds ∧ Tree n ds ∧ n ≤ 1000 ∧ SVAt K H s vr vb ∧ BadSt n ds vr vb w k ∧
  ∀ (H' : Hp) (t : Addr), Same H H' → H' t = some (.tup [.str (Str.ofString w), .int (k : Int)]) → Q (.ref t) H'
/-- what flies: InvalidState with its reason -/
def spStX (K : PySem.W.Frag) (CI : Addr) : Sp := fun vs H Q E => ∃ (a s : Addr) (ds : List (Nat × Nat)) (n : Nat) (vr vb : List V) (w : String) (k : Nat), vs = [.ref a, .ref s] ∧ HouseAt K H a ds ∧ Tree n ds ∧ n ≤ 1000 ∧ SVAt K H s vr vb ∧ BadSt n ds vr vb w k ∧
  ∀ (H' : Hp) (t d : Addr), Same H H' → H' t = some (.tup [.str (Str.ofString w), .int (k : Int)]) → H' d = some (.xd [("reason", .ref t)]) → E (.ref CI) (some d) H'
def spAsX (K : PySem.W.Frag) (CI : Addr) : Sp := fun vs H Q E => ∃ (a q s : Addr) (ds : List (Nat × Nat)) (n : Nat) (vr vb : List V) (w : String) (k : Nat), vs = [.ref a, .ref q, .ref s] ∧ HouseAt K H a ds ∧ Tree n ds ∧ n ≤ 1000 ∧ SVAt K H s vr vb ∧ BadSt n ds vr vb w k ∧
  ∀ (H' : Hp) (t d : Addr), Same H H' → H' t = some (.tup [.str (Str.ofString w), .int (k : Int)]) → H' d = some (.xd [("reason", .ref t)]) → E (.ref CI) (some d) H'
def spPrevIdxX (K : PySem.W.Frag) (CI : Addr) : Sp := fun vs H Q E => ∃ (a q s : Addr) (ds : List (Nat × Nat)) (n : Nat) (S : S2) (vr vb : List V) (w : String) (k : Nat), vs = [.ref a, .ref q, .ref s] ∧ HouseAt K H a ds ∧ Tree n ds ∧ n ≤ 1000 ∧ StateAt K H q S ∧ StOk n ds S ∧ SVAt K H s vr vb ∧ BadSt n ds vr vb w k ∧
  ∀ (H' : Hp) (t d : Addr), Same H H' → H' t = some (.tup [.str (Str.ofString w), .int (k : Int)]) → H' d = some (.xd [("reason", .ref t)]) → E (.ref CI) (some d) H'
section
variable {P : Program} {w : World} {K : PySem.W.Frag}
      {mg : Str → Option Value} {base : Heap}
theorem ok_has_state_shape__v (T : Bl mg) (D : Def K mg "has_state_shape" s_has_state_shape) : Cal P w K mg base "has_state_shape" ["house", "value"] 1 (spShapeV K) := by
  refine D.ok sc_has_state_shape (fun _ _ _ _ _ _ us hl => match us, hl with | [_, _], _ => rfl) (fun vs H Q E h => ?_) (fun f cdv A outer s H vs Q E hr h => ?_)
  · obtain ⟨a, s, ds, vr, vb, rfl, _⟩ := h
    rfl
  obtain ⟨a, s, ds, vr, vb, rfl, ⟨rs, hrs, hlen, hds⟩, ⟨r, b, h1, h2, h3⟩, o1, o2, q⟩ := h
  refine ⟨_, (pss_cons (ps_if (PW.pt (pw_or (pt_not (pt_val (pe_callB call_isi (by rfl) T.isinstance (by decide +kernel) (pa_cons (pv 1) (pa_cons (pe_bltn (v := .ty "tuple") (u := .type "tuple") (by rfl) T.tuple (by decide +kernel) rfl) pa_nil))))) (pw_or1 (pt_cmpR op_ne (pe_callB call_len_seq (by rfl) T.len PySem.boot_len (pa_cons (pv 1) pa_nil)) pe_int (nomark _))))) (pss_one (ps_ret pe_bl)) pss_nil)
    (pss_cons (ps_asg (pv 1) (pg_tup (n := 2) rfl (pgs_cons (pg_name (i := 2) sc_has_state_shape.nd rfl (.inl rfl)) (pgs_cons (pg_name (i := 3) sc_has_state_shape.nd rfl (.inl rfl)) pgs_nil))))
    (pss_cons (ps_if (PW.pt (pw_or (pt_not (pt_val (pe_callB call_isi (by rfl) T.isinstance (by decide +kernel) (pa_cons (pv 2) (pa_cons (pe_bltn (v := .ty "tuple") (u := .type "tuple") (by rfl) T.tuple (by decide +kernel) rfl) pa_nil))))) (pw_or1 (pt_not (pt_val (pe_callB call_isi (by rfl) T.isinstance (by decide +kernel) (pa_cons (pv 3) (pa_cons (pe_bltn (v := .ty "tuple") (u := .type "tuple") (by rfl) T.tuple (by decide +kernel) rfl) pa_nil)))))))) (pss_one (ps_ret pe_bl)) pss_nil)
    (pss_one (ps_ret (pe_and (pe_cmpR op_ge (pe_callB call_len_seq (by rfl) T.len PySem.boot_len (pa_cons (pv 2) pa_nil)) pe_int (nomark _)) (pe_one (pe_cmpR op_eq (pe_callB call_len_seq (by rfl) T.len PySem.boot_len (pa_cons (pv 3) pa_nil)) (pe_callB call_len_seq (by rfl) T.len PySem.boot_len (pa_cons (pv 0) pa_nil)) (nomark _))))))))), ?_⟩
  refine ⟨_, rfl, _, _, _, _, _, rfl, .ty _, ty_tup h1, kit_ty (r := true) (by decide +kernel), _, rfl, iteF ?_⟩
  refine ⟨_, rfl, _, _, rfl, .inr h1, rfl, _, rfl, iteF ?_⟩
  refine ⟨_, rfl, _, _, rfl, h1, rfl, _, _, rfl, _, _, rfl, rfl, ?_⟩
  refine ⟨_, rfl, _, _, _, _, _, rfl, .ty _, ty_tup h2, kit_ty (r := true) (by decide +kernel), _, rfl, iteF ?_⟩
  refine ⟨_, rfl, _, _, _, _, _, rfl, .ty _, ty_tup h3, kit_ty (r := true) (by decide +kernel), _, rfl, iteF ?_⟩
  refine ⟨_, rfl, _, _, rfl, .inr h2, _, _, rfl, rfl, _, rfl, ?_⟩
  rw [decide_eq_true (show (1 : Int) ≤ (vr.length : Nat) by omega)]
  refine iteT ⟨_, rfl, _, _, rfl, .inr h3, _, rfl, _, _, rfl, .inr hrs, rfl, ?_⟩
  rw [decide_eq_true (show V.int (vb.length : Nat) = V.int ((rs.map V.ref).length : Nat) by rw [List.length_map, hlen, o2])]
  exact q
theorem ok_check_state__b (T : Bl mg) (D : Def K mg "check_state" s_check_state) (C_need_house : Cal P w K mg base "need_house" ["house"] 5 (spRing K)) (C_has_state_shape : Cal P w K mg base "has_state_shape" ["house", "value"] 1 (spShapeV K))
    (C_is_index : Cal P w K mg base "is_index" ["value", "count"] 2 (spIndexO K)) : Cal P w K mg base "check_state" ["house", "value"] 6 (spStB K) := by
  refine D.ok sc_check_state (fun _ _ _ _ _ _ us hl => match us, hl with | [_, _], _ => rfl) (fun vs H Q E h => ?_) (fun f cdv A outer s H vs Q E hr h => ?_)
  · obtain ⟨a, s, ds, n, vr, vb, w, k, rfl, _⟩ := h
    rfl
  obtain ⟨a, s, ds, n, vr, vb, wd, k0, rfl, hH, tree, hn, st, bad, q⟩ := h
  obtain ⟨rs, hrs, hlen, hds⟩ := id hH
  obtain ⟨r, b, h1, h2, h3⟩ := id st
  obtain ⟨o1, o2, o3, cs⟩ := bad
  have hdn := tree.len
  obtain ⟨f_need_house, fd_need_house, g_need_house, k_need_house, b_need_house, G_need_house⟩ := C_need_house
  obtain ⟨f_has_state_shape, fd_has_state_shape, g_has_state_shape, k_has_state_shape, b_has_state_shape, G_has_state_shape⟩ := C_has_state_shape
  obtain ⟨f_is_index, fd_is_index, g_is_index, k_is_index, b_is_index, G_is_index⟩ := C_is_index
  refine ⟨_, (pss_cons (ps_expr (pe_call G_need_house (hr.mono (by decide)) (by rfl) g_need_house k_need_house b_need_house .nil pass0 (pa_cons (pv 0) pa_nil)))
    (pss_cons (ps_if (pt_not (pt_val (pe_call G_has_state_shape (hr.mono (by decide)) (by rfl) g_has_state_shape k_has_state_shape b_has_state_shape .nil pass0 (pa_cons (pv 0) (pa_cons (pv 1) pa_nil))))) (pss_one (ps_ret (pe_tup (pa_cons pe_str pa_nil)))) pss_nil)
    (pss_cons (ps_asg (pv 1) (pg_tup (n := 2) rfl (pgs_cons (pg_name (i := 2) sc_check_state.nd rfl (.inl rfl)) (pgs_cons (pg_name (i := 3) sc_check_state.nd rfl (.inl rfl)) pgs_nil))))
    (pss_cons (ps_for PassesOwn.never rfl (pi_enumT (by rfl) T.enumerate (pa_cons (pv 2) pa_nil)) (pg_tup (n := 2) rfl (pgs_cons (pg_name (i := 4) sc_check_state.nd rfl (.inl rfl)) (pgs_cons (pg_name (i := 5) sc_check_state.nd rfl (.inl rfl)) pgs_nil)))
    (pss_one (ps_if (pt_not (pt_val (pe_call G_is_index (hr.mono (by decide)) (by rfl) g_is_index k_is_index b_is_index .nil pass0 (pa_cons (pv 5) (pa_cons (pe_op op_add (pe_callB call_len_seq (by rfl) T.len PySem.boot_len (pa_cons (pv 0) pa_nil)) pe_int) pa_nil))))) (pss_one (ps_ret (pe_tup (pa_cons pe_str (pa_cons (pv 4) pa_nil))))) pss_nil)))
    (pss_cons (ps_for PassesOwn.never rfl (pi_enumT (by rfl) T.enumerate (pa_cons (pv 3) pa_nil)) (pg_tup (n := 2) rfl (pgs_cons (pg_name (i := 6) sc_check_state.nd rfl (.inl rfl)) (pgs_cons (pg_name (i := 4) sc_check_state.nd rfl (.inl rfl)) pgs_nil)))
    (pss_one (ps_if (pt_not (pt_val (pe_call G_is_index (hr.mono (by decide)) (by rfl) g_is_index k_is_index b_is_index .nil pass0 (pa_cons (pv 4) (pa_cons (pe_callB call_len_seq (by rfl) T.len PySem.boot_len (pa_cons (pv 2) pa_nil)) pa_nil))))) (pss_one (ps_ret (pe_tup (pa_cons pe_str (pa_cons (pv 6) pa_nil))))) pss_nil)))
    (pss_one (ps_ret pe_non))))))), ?_⟩
  refine ⟨_, rfl, a, ds, n, rfl, hH, tree, hn, fun H1 s1 => ?_⟩
  refine ⟨_, rfl, _, rfl, a, s, ds, vr, vb, rfl, hH.same s1, st.same s1, o1, o3, _, rfl, iteF ?_⟩
  refine ⟨_, rfl, _, _, rfl, s1.tup h1, rfl, _, _, rfl, _, _, rfl, rfl, ?_⟩
  refine ⟨_, rfl, r, _, rfl, s1.tup h2, ?_⟩
  refine for_it (walk_enumT (K := K) (a := r) (xs := vr)) (fun k σ H2 => ∃ y4 y5 y6, σ = [some (.ref a), some (.ref s), some (.ref r), some (.ref b), y4, y5, y6] ∧ Same H H2 ∧ (FirstBl n vr k0 → wd = "room" → k ≤ k0))
    ⟨_, _, _, rfl, s1, fun _ _ => Nat.zero_le _⟩ (fun i σ H2 _ ⟨_, _, _, _, sm, _⟩ => sm.tup h2) ?_ ?_
  · rintro k x σ H2 H3 hk ⟨y4, y5, y6, rfl, sm, le⟩ ⟨t, x1, x2, rfl, nt, rfl, ex1, ex2⟩
    cases ex1
    have ex2 : vr[k]? = some x2 := ex2
    have sm3 := sm.trans (Same.upd (o := .tup [.int (k : Nat), x2]) nt)
    refine ⟨t, _, rfl, SqT.of upd_same, rfl, _, _, rfl, _, _, rfl, rfl, ?_⟩
    refine ⟨_, rfl, _, rfl, _, _, rfl, .inr (sm3.tup hrs), _, _, rfl, rfl, _, _, rfl, ?_⟩
    have gd : (∃ v : Nat, x2 = .int (v : Int) ∧ v < n ∧ (FirstBl n vr k0 → wd = "room" → k + 1 ≤ k0)) ∨ ∃ bb, x2 = .bl bb ∧ k = k0 ∧ wd = "room" := by
      rcases cs with ⟨rfl, fb⟩ | ⟨rfl, all, fb⟩
      · have le := le fb rfl
        by_cases c : k < k0
        · obtain ⟨v, ev, hv⟩ := fb.1 k x2 c ex2
          exact .inl ⟨v, ev, hv, fun _ _ => c⟩
        · obtain rfl : k = k0 := by omega
          obtain ⟨bb, hb⟩ := fb.2
          rw [hb] at ex2
          cases ex2
          exact .inr ⟨bb, rfl, rfl, rfl⟩
      · obtain ⟨v, ev, hv⟩ := all x2 (List.mem_of_getElem? ex2)
        exact .inl ⟨v, ev, hv, fun _ z => absurd z (by decide)⟩
    rcases gd with ⟨v, rfl, hv, nx⟩ | ⟨bb, rfl, rfl, rfl⟩
    · refine .inl ⟨(v : Int), rfl, _, rfl, ?_⟩
      rw [decide_eq_true (by rw [List.length_map, hlen]; omega)]
      exact iteF ⟨_, _, _, rfl, sm3, nx⟩
    · refine .inr ⟨.bl bb, _, rfl, iteT ?_⟩
      exact ⟨_, rfl, by show 2 ≤ sizeLine; decide, fun t2 nt2 => q _ t2 (sm3.trans (Same.upd nt2)) upd_same⟩
  · rintro σ H2 ⟨y4, y5, y6, rfl, sm, le⟩
    refine ⟨_, rfl, b, _, rfl, sm.tup h3, ?_⟩
    rcases cs with ⟨rfl, fb⟩ | ⟨rfl, all, fb⟩
    · have := le fb rfl
      obtain ⟨bb, hb⟩ := fb.2
      have := get_lt hb
      omega
    refine for_it (walk_enumT (K := K) (a := b) (xs := vb)) (fun k σ H2 => ∃ y4 y5 y6, σ = [some (.ref a), some (.ref s), some (.ref r), some (.ref b), y4, y5, y6] ∧ Same H H2 ∧ k ≤ k0)
      ⟨_, _, _, rfl, sm, Nat.zero_le _⟩ (fun i σ H2 _ ⟨_, _, _, _, sm, _⟩ => sm.tup h3) ?_ ?_
    · rintro k x σ H2 H3 hk ⟨y4, y5, y6, rfl, sm, le⟩ ⟨t, x1, x2, rfl, nt, rfl, ex1, ex2⟩
      cases ex1
      have ex2 : vb[k]? = some x2 := ex2
      have sm3 := sm.trans (Same.upd (o := .tup [.int (k : Nat), x2]) nt)
      refine ⟨t, _, rfl, SqT.of upd_same, rfl, _, _, rfl, _, _, rfl, rfl, ?_⟩
      refine ⟨_, rfl, _, rfl, _, _, rfl, .inr (sm3.tup h2), _, _, rfl, ?_⟩
      by_cases c : k < k0
      · obtain ⟨v, rfl, hv⟩ := fb.1 k x2 c ex2
        refine .inl ⟨(v : Int), rfl, _, rfl, ?_⟩
        rw [decide_eq_true (by omega)]
        exact iteF ⟨_, _, _, rfl, sm3, c⟩
      · obtain rfl : k = k0 := by omega
        obtain ⟨bb, hb⟩ := fb.2
        rw [hb] at ex2
        cases ex2
        refine .inr ⟨.bl bb, _, rfl, iteT ?_⟩
        exact ⟨_, rfl, by show 2 ≤ sizeLine; decide, fun t2 nt2 => q _ t2 (sm3.trans (Same.upd nt2)) upd_same⟩
    · rintro σ H2 ⟨y4, y5, y6, rfl, sm, le⟩
      obtain ⟨bb, hb⟩ := fb.2
      have := get_lt hb
      omega
theorem ok_need_state__x {CI : Addr} (T : Bl mg) (E_is : ErrOkK P w K mg base "InvalidState" CI ["self", "reason"] ["reason"] (spE1 CI "reason")) (D : Def K mg "need_state" s_need_state) (C_check_state : Cal P w K mg base "check_state" ["house", "value"] 6 (spStB K)) : CalX P w K mg base "need_state" ["house", "state"] 7 (spStX K CI) := by
  obtain ⟨f_is, fd_is, e_is, F_is, B_is⟩ := E_is
  refine D.okX sc_need_state (fun _ _ _ _ _ _ us hl => match us, hl with | [_, _], _ => rfl) (fun vs H Q E h => ?_) (fun f cdv A outer s H vs Q E hr h => ?_)
  · obtain ⟨a, s, ds, n, vr, vb, wd, k0, rfl, _⟩ := h
    rfl
  obtain ⟨a, s, ds, n, vr, vb, wd, k0, rfl, hH, tree, hn, st, bad, q1⟩ := h
  obtain ⟨f_check_state, fd_check_state, g_check_state, k_check_state, b_check_state, G_check_state⟩ := C_check_state
  refine ⟨_, (pss_cons (ps_set (i := 2) sc_need_state.nd rfl (.inl rfl) (pe_call G_check_state (hr.mono (by decide)) (by rfl) g_check_state k_check_state b_check_state .nil pass0 (pa_cons (pv 0) (pa_cons (pv 1) pa_nil))))
    (pss_one (ps_if (pt_cmpR op_notN (pv 2) pe_non (nomark _)) (pss_one (ps_raise rfl (takes_of rfl rfl rfl rfl) (by exact (pmk_oex e_is.o e_is.i e_is.t F_is (hr.mono (by decide)) B_is .nil pass0 (by rfl) e_is.g (pa_cons (pv 2) pa_nil))))) pss_nil))), ?_⟩
  refine ⟨_, rfl, _, rfl, a, s, ds, n, vr, vb, wd, k0, rfl, hH, tree, hn, st, bad, fun H2 t sm2 ht => ⟨_, rfl, rfl, _, rfl, iteT ?_⟩⟩
  refine ⟨_, rfl, by show 1 ≤ 1000; decide, fun b nb => ⟨b, _, rfl, upd_same, fun d nd ne => ?_⟩⟩
  rw [upd_ne ne] at nd
  have e1 : (upd (upd (upd H2 b (exo b CI none)) d (exd d [("reason", .ref t)])) b (exo b CI (some d))) d = some (exd d [("reason", .ref t)]) := by rw [upd_ne ne, upd_same]
  have sm3 := Same.err (G := upd (upd (upd H2 b (exo b CI none)) d (exd d [("reason", .ref t)])) b (exo b CI (some d))) (y := .xd [("reason", .ref t)]) nb nd fun c h1 h2 => by rw [upd_ne h1, upd_ne h2, upd_ne h1]
  exact ⟨rfl, d, _, upd_same, e1, nd, q1 _ t d (sm2.trans sm3) (sm3 _ _ ht) upd_same⟩
theorem ok_need_state_of_as_many__x {CI : Addr} (T : Bl mg) (D : Def K mg "need_state_of_as_many" s_need_state_of_as_many) (C_need_state : CalX P w K mg base "need_state" ["house", "state"] 7 (spStX K CI)) : CalX P w K mg base "need_state_of_as_many" ["house", "state", "other"] 8 (spAsX K CI) := by
  refine D.okX sc_need_state_of_as_many (fun _ _ _ _ _ _ us hl => match us, hl with | [_, _, _], _ => rfl) (fun vs H Q E h => ?_) (fun f cdv A outer s H vs Q E hr h => ?_)
  · obtain ⟨a, q, s, ds, n, vr, vb, wd, k0, rfl, _⟩ := h
    rfl
  obtain ⟨a, q, s, ds, n, vr, vb, wd, k0, rfl, hH, tree, hn, st, bad, q1⟩ := h
  obtain ⟨f_need_state, fd_need_state, g_need_state, k_need_state, b_need_state, G_need_state⟩ := C_need_state
  refine ⟨_, (pss_cons (ps_expr (pe_call G_need_state (hr.mono (by decide)) (by rfl) g_need_state k_need_state b_need_state .nil (passes_call (takes_of rfl rfl rfl rfl) (fun _ _ _ _ h => h)) (pa_cons (pv 0) (pa_cons (pv 2) pa_nil))))
    pss_never), ?_⟩
  exact ⟨_, rfl, _, rfl, a, s, ds, n, vr, vb, wd, k0, rfl, hH, tree, hn, st, bad, q1⟩
theorem ok_previous_index__x {CI : Addr} (T : Bl mg) (D : Def K mg "previous_index" s_previous_index) (C_need_state : Cal P w K mg base "need_state" ["house", "state"] 7 (spSt K)) (C_need_state_of_as_many : CalX P w K mg base "need_state_of_as_many" ["house", "state", "other"] 8 (spAsX K CI)) :
    CalX P w K mg base "previous_index" ["house", "state", "previous"] 9 (spPrevIdxX K CI) := by
  refine D.okX sc_previous_index (fun _ _ _ _ _ _ us hl => match us, hl with | [_, _, _], _ => rfl) (fun vs H Q E h => ?_) (fun f cdv A outer s0 H vs Q E hr h => ?_)
  · obtain ⟨a, q, s, ds, n, S, vr, vb, wd, k0, rfl, _⟩ := h
    rfl
  obtain ⟨a, q, s, ds, n, S, vr, vb, wd, k0, rfl, hH, tree, hn, stq, okq, st, bad, q1⟩ := h
  obtain ⟨f_need_state, fd_need_state, g_need_state, k_need_state, b_need_state, G_need_state⟩ := C_need_state
  obtain ⟨f_need_state_of_as_many, fd_need_state_of_as_many, g_need_state_of_as_many, k_need_state_of_as_many, b_need_state_of_as_many, G_need_state_of_as_many⟩ := C_need_state_of_as_many
  refine ⟨_, (pss_cons (ps_expr (pe_call G_need_state (hr.mono (by decide)) (by rfl) g_need_state k_need_state b_need_state .nil pass0 (pa_cons (pv 0) (pa_cons (pv 1) pa_nil))))
    (pss_cons (ps_expr (pe_call G_need_state_of_as_many (hr.mono (by decide)) (by rfl) g_need_state_of_as_many k_need_state_of_as_many b_need_state_of_as_many .nil (passes_call (takes_of rfl rfl rfl rfl) (fun _ _ _ _ h => h)) (pa_cons (pv 0) (pa_cons (pv 1) (pa_cons (pv 2) pa_nil)))))
    pss_never)), ?_⟩
  refine ⟨_, rfl, _, rfl, a, q, ds, n, S, rfl, hH, tree, hn, stq, okq, fun H1 s1 => ?_⟩
  exact ⟨_, rfl, _, rfl, _, rfl, a, q, s, ds, n, vr, vb, wd, k0, rfl, hH.same s1, tree, hn, st.same s1, bad, fun H' t d sm => q1 H' t d (s1.trans sm)⟩
end
end K5

namespace K5
open PySem PySem.Spec PyProof.Rows L2
/-- how many states come one move before -/
noncomputable def cnt (ds : List (Nat × Nat)) (S : S2) : Nat := (srtd ds S).length * (S.1.length - 1)
/-- no index below m -/
def NoIx (K : PySem.W.Frag) (H : Hp) (m : Nat) (x : V) : Prop := (∃ i : Int, x = .int i ∧ ¬ (0 ≤ i ∧ i < (m : Int))) ∨ Odd K H x
theorem NoIx.same {K H H' m x} (h : NoIx K H m x) (s : Same H H') : NoIx K H' m x := h.imp id fun o => o.same s
def spPrevAtX (K : PySem.W.Frag) (CT : Addr) : Sp := fun vs H Q E => ∃ (a s : Addr) (ds : List (Nat × Nat)) (n : Nat) (S : S2) (x : V), vs = [.ref a, .ref s, x] ∧ HouseAt K H a ds ∧ Tree n ds ∧ n ≤ 1000 ∧ StateAt K H s S ∧ StOk n ds S ∧ NoIx K H (cnt ds S) x ∧
  ∀ (H' : Hp) (d : Addr), Same H H' → H' d = some (.xd [("count", .int (cnt ds S : Nat))]) → E (.ref CT) (some d) H'
def spTooLarge (K : PySem.W.Frag) : Sp := fun vs H Q _ => ∃ (a s : Addr) (ds : List (Nat × Nat)) (n : Nat) (S : S2) (x : V), vs = [.ref a, .ref s, x] ∧ HouseAt K H a ds ∧ Tree n ds ∧ n ≤ 1000 ∧ StateAt K H s S ∧ StOk n ds S ∧ NoIx K H (cnt ds S) x ∧
  ∀ (H' : Hp), Same H H' → Q (.bl true) H'
def spRefusal (K : PySem.W.Frag) : Sp := fun vs H Q _ => ∃ (a q s : Addr) (ds : List (Nat × Nat)) (n : Nat) (S : S2) (vr vb : List V) (w : String) (k : Nat), vs = [.ref a, .ref q, .ref s] ∧ HouseAt K H a ds ∧ Tree n ds ∧ n ≤ 1000 ∧ StateAt K H q S ∧ StOk n ds S ∧ SVAt K H s vr vb ∧ BadSt n ds vr vb w k ∧
  ∀ (H' : Hp) (t : Addr), Same H H' → H' t = some (.tup [.str (Str.ofString w), .int (k : Int)]) → Q (.ref t) H'
def spTruths (K : PySem.W.Frag) : Sp := fun vs H Q _ => ∃ (a q s : Addr) (ds : List (Nat × Nat)) (n : Nat) (S S' : S2), vs = [.ref a, .ref q, .ref s] ∧ HouseAt K H a ds ∧ Tree n ds ∧ n ≤ 1000 ∧ StateAt K H q S ∧ StOk n ds S ∧ StateAt K H s S' ∧ StOk n ds S' ∧ ∀ H', Same H H' → Q (.bl true) H'
/-- 0 and 1 as bools -/
def tv (x : Nat) : V := if x < 2 then .bl (decide (V.int (x : Int) = V.int 1)) else .int (x : Int)
def sml (L : List Nat) (k : Nat) : List Nat := (List.range k).filter fun i => decide (L.getD i 2 < 2)
theorem sml_succ {L : List Nat} {k v : Nat} (h : L[k]? = some v) : sml L (k + 1) = sml L k ++ if v < 2 then [k] else [] := by
  unfold sml
  have e : L.getD k 2 = v := by rw [List.getD_eq_getElem?_getD, h]; rfl
  rw [List.range_succ, List.filter_append]
  by_cases c : v < 2
  · rw [if_pos c]
    simp [h, c]
  · rw [if_neg c]
    simp [h, c]
theorem sml_len (L : List Nat) (k : Nat) : (sml L k).length ≤ k := by
  have h := List.length_filter_le (fun i => decide (L.getD i 2 < 2)) (List.range k)
  rw [List.length_range] at h
  exact h
theorem first_of {L : List Nat} {m k : Nat} {r : List Nat} (h : sml L L.length = k :: r) (lt : ∀ x ∈ L, x < m) : FirstBl m (L.map tv) k := by
  have hk : k ∈ sml L L.length := by rw [h]; exact List.mem_cons_self
  have hk2 := hk
  unfold sml at hk2
  rw [List.mem_filter, List.mem_range, decide_eq_true_eq] at hk2
  obtain ⟨v, hv⟩ : ∃ v, L[k]? = some v := get_of rfl hk2.1
  have ev : L.getD k 2 = v := by rw [List.getD_eq_getElem?_getD, hv]; rfl
  refine ⟨fun i x hi hx => ?_, ?_⟩
  · rw [List.getElem?_map] at hx
    obtain ⟨u, hu⟩ : ∃ u, L[i]? = some u := get_of rfl (by omega)
    rw [hu] at hx
    cases hx
    have eu : L.getD i 2 = u := by rw [List.getD_eq_getElem?_getD, hu]; rfl
    have nu : ¬ u < 2 := fun z => by
      have hm : i ∈ sml L L.length := by
        unfold sml
        rw [List.mem_filter, List.mem_range, decide_eq_true_eq, eu]
        exact ⟨by omega, z⟩
      have pw : (sml L L.length).Pairwise (· < ·) := List.pairwise_lt_range.filter _
      rw [h] at hm pw
      rcases List.mem_cons.mp hm with q | q
      · omega
      · have := (List.pairwise_cons.mp pw).1 i q
        omega
    refine ⟨u, ?_, lt u (List.mem_of_getElem? hu)⟩
    unfold tv
    rw [if_neg nu]
  · refine ⟨_, by rw [List.getElem?_map, hv]; show some (tv v) = _; unfold tv; rw [if_pos (by omega)]⟩
theorem dIs_eqv_nil (l : List Nat) : PyData.eqv (.list (dIs l)) (.list []) = decide (l = []) := by
  cases l with
  | nil => decide +kernel
  | cons x r =>
    rw [decide_eq_false (by simp)]
    simp only [dIs, List.map_cons, PyData.eqv, PyData.eqvAll]
theorem dIsL_shaped (l : List Nat) : SeqAt.shaped (.list (dIs l)) = true := by
  have h := dIs_depth l
  refine shaped_mk ?_ ?_
  · simp only [PyData.canLay0, dIs_lay]
  · simp only [PyData.depth]
    omega
section
variable {P : Program} {w : World} {K : PySem.W.Frag}
      {mg : Str → Option Value} {base : Heap}
theorem ok_previous_at__xa {CT : Addr} (T : Bl mg) (E_it : ErrOkK P w K mg base "IndexTooLarge" CT ["self", "count"] ["count"] (spE1 CT "count")) (D : Def K mg "previous_at" s_previous_at) (C_count_previous : Cal P w K mg base "count_previous" ["house", "state"] 8 (spCount K))
    (C_is_index : Cal P w K mg base "is_index" ["value", "count"] 2 (spIndexO K)) : CalX P w K mg base "previous_at" ["house", "state", "index"] 9 (spPrevAtX K CT) := by
  obtain ⟨f_it, fd_it, e_it, F_it, B_it⟩ := E_it
  refine D.okX sc_previous_at (fun _ _ _ _ _ _ us hl => match us, hl with | [_, _, _], _ => rfl) (fun vs H Q E h => ?_) (fun f cdv A outer s0 H vs Q E hr h => ?_)
  · obtain ⟨a, s, ds, n, S, x, rfl, _⟩ := h
    rfl
  obtain ⟨a, s, ds, n, S, x, rfl, hH, tree, hn, st, ok, no, q1⟩ := h
  obtain ⟨f_count_previous, fd_count_previous, g_count_previous, k_count_previous, b_count_previous, G_count_previous⟩ := C_count_previous
  obtain ⟨f_is_index, fd_is_index, g_is_index, k_is_index, b_is_index, G_is_index⟩ := C_is_index
  refine ⟨_, (pss_cons (ps_set (i := 3) sc_previous_at.nd rfl (.inl rfl) (pe_call G_count_previous (hr.mono (by decide)) (by rfl) g_count_previous k_count_previous b_count_previous .nil pass0 (pa_cons (pv 0) (pa_cons (pv 1) pa_nil))))
    (pss_cons (ps_if (pt_not (pt_val (pe_call G_is_index (hr.mono (by decide)) (by rfl) g_is_index k_is_index b_is_index .nil pass0 (pa_cons (pv 2) (pa_cons (pv 3) pa_nil))))) (pss_one (ps_raise rfl (takes_of rfl rfl rfl rfl) (by exact (pmk_oex e_it.o e_it.i e_it.t F_it (hr.mono (by decide)) B_it .nil pass0 (by rfl) e_it.g (pa_cons (pv 3) pa_nil))))) pss_nil)
    pss_never)), ?_⟩
  refine ⟨_, rfl, _, rfl, a, s, ds, n, S, rfl, hH, tree, hn, st, ok, fun H1 s1 => ?_⟩
  have no1 := no.same s1
  refine ⟨_, rfl, _, rfl, x, _, rfl, ?_⟩
  have fin : tMkO CT (spE1 CT "count") [] (fun σ H Q => Q [.int (cnt ds S : Nat)] H) ([] : L2.St) H1 (fun cls d H' => E cls d H') := by
    refine ⟨by show 1 ≤ 1000; decide, fun b nb => ⟨b, _, rfl, upd_same, fun d nd ne => ?_⟩⟩
    rw [upd_ne ne] at nd
    have e1 : (upd (upd (upd H1 b (exo b CT none)) d (exd d [("count", .int (cnt ds S : Nat))])) b (exo b CT (some d))) d = some (exd d [("count", .int (cnt ds S : Nat))]) := by rw [upd_ne ne, upd_same]
    have sm3 := Same.err (G := upd (upd (upd H1 b (exo b CT none)) d (exd d [("count", .int (cnt ds S : Nat))])) b (exo b CT (some d))) (y := .xd [("count", .int (cnt ds S : Nat))]) nb nd fun c h1 h2 => by rw [upd_ne h1, upd_ne h2, upd_ne h1]
    exact ⟨rfl, d, _, upd_same, e1, nd, q1 _ d (s1.trans sm3) upd_same⟩
  rcases no1 with ⟨i, rfl, ni⟩ | od
  · refine .inl ⟨i, rfl, _, rfl, ?_⟩
    rw [decide_eq_false (show ¬ (0 ≤ i ∧ i < (((srtd ds S).length * (S.1.length - 1) : Nat) : Int)) from ni)]
    exact iteT ⟨_, rfl, fin⟩
  · exact .inr ⟨od, _, rfl, iteT ⟨_, rfl, fin⟩⟩
theorem ok_l_too_large {CT : Addr} (T : Bl mg) (E_it : ErrOkK P w K mg base "IndexTooLarge" CT ["self", "count"] ["count"] (spE1 CT "count")) (D : Def K mg "_law_too_large" s_l_too_large) (C_previous_at : CalX P w K mg base "previous_at" ["house", "state", "index"] 9 (spPrevAtX K CT))
    (C_count_previous : Cal P w K mg base "count_previous" ["house", "state"] 8 (spCount K)) : Cal P w K mg base "_law_too_large" ["_law_layout", "_law_situation", "_law_number"] 10 (spTooLarge K) := by
  obtain ⟨f_it, fd_it, e_it, F_it, B_it⟩ := E_it
  refine D.ok sc_l_too_large (fun _ _ _ _ _ _ us hl => match us, hl with | [_, _, _], _ => rfl) (fun vs H Q E h => ?_) (fun f cdv A outer s0 H vs Q E hr h => ?_)
  · obtain ⟨a, s, ds, n, S, x, rfl, _⟩ := h
    rfl
  obtain ⟨a, s, ds, n, S, x, rfl, hH, tree, hn, st, ok, no, q⟩ := h
  obtain ⟨f_previous_at, fd_previous_at, g_previous_at, k_previous_at, b_previous_at, G_previous_at⟩ := C_previous_at
  obtain ⟨f_count_previous, fd_count_previous, g_count_previous, k_count_previous, b_count_previous, G_count_previous⟩ := C_count_previous
  refine ⟨_, (pss_cons (ps_set (i := 3) sc_l_too_large.nd rfl (.inl rfl) pe_non)
    (pss_cons (ps_try_keep (i := 4) (tw := fun W => tDrop (tCallS (spPrevAtX K CT) (WE W) (tCons (tVar 0) (tCons (tVar 1) (tCons (tVar 2) tNil))))) (ts := fun _ _ _ => tAsg (tVar 4) (gName 3)) (Wout := fun _ _ _ _ => False) rfl rfl rfl sc_l_too_large.nd rfl rfl ⟨rfl, by decide, Or.inl e_it.g⟩ takes0 (fun W pn xe tk _ => (pss_one (ps_expr (pe_callS G_previous_at (hr.mono (by decide)) (by rfl) g_previous_at k_previous_at b_previous_at (fun σ => passAt tk σ) (by exact (pa_cons (pv 0) (pa_cons (pv 1) (pa_cons (pv 2) pa_nil)))))))) (fun a oe cls d pn hz hf => (pss_one (ps_set (i := 3) sc_l_too_large.nd rfl (.inl rfl) (pv 4)))))
    (pss_one (ps_ret (pe_and (pe_cmpR op_notN (pv 3) pe_non (nomark _)) (pe_one (pe_cmpR op_eq (pe_kf e_it.f (e_it.r _ (by decide +kernel)) (pv 3)) (pe_call G_count_previous (hr.mono (by decide)) (by rfl) g_count_previous k_count_previous b_count_previous .nil pass0 (pa_cons (pv 0) (pa_cons (pv 1) pa_nil))) (nomark _)))))))), ?_⟩
  refine ⟨_, rfl, _, rfl, _, rfl, a, s, ds, n, S, x, rfl, hH, tree, hn, st, ok, no, fun H' d sm hd => ?_⟩
  refine ⟨true, e_it.xm, (fun z => by cases z), fun _ ea nea => ?_⟩
  refine ⟨_, rfl, ?_⟩
  have sx : Same H' (upd H' ea (exk ea (.ref CT) (some d))) := Same.upd nea
  refine ⟨_, rfl, rfl, _, rfl, iteT ?_⟩
  refine ⟨_, rfl, ea, d, _, _, rfl, upd_same, sx _ _ hd, rfl, _, rfl, _, rfl, a, s, ds, n, S, rfl, (hH.same sm).same sx, tree, hn, (st.same sm).same sx, ok, fun H2 s2 => ⟨rfl, ?_⟩⟩
  rw [show (decide (V.int (cnt ds S : Nat) = V.int (((srtd ds S).length * (S.1.length - 1) : Nat) : Int))) = true from decide_eq_true rfl]
  exact q H2 ((sm.trans sx).trans s2)
theorem ok_l_refusal {CI : Addr} (T : Bl mg) (E_is : ErrOkK P w K mg base "InvalidState" CI ["self", "reason"] ["reason"] (spE1 CI "reason")) (D : Def K mg "_law_refusal" s_l_refusal) (C_previous_index : CalX P w K mg base "previous_index" ["house", "state", "previous"] 9 (spPrevIdxX K CI)) :
    Cal P w K mg base "_law_refusal" ["_law_layout", "_law_situation", "_law_other"] 10 (spRefusal K) := by
  obtain ⟨f_is, fd_is, e_is, F_is, B_is⟩ := E_is
  refine D.ok sc_l_refusal (fun _ _ _ _ _ _ us hl => match us, hl with | [_, _, _], _ => rfl) (fun vs H Q E h => ?_) (fun f cdv A outer s0 H vs Q E hr h => ?_)
  · obtain ⟨a, q, s, ds, n, S, vr, vb, wd, k0, rfl, _⟩ := h
    rfl
  obtain ⟨a, q, s, ds, n, S, vr, vb, wd, k0, rfl, hH, tree, hn, stq, okq, st, bad, qn⟩ := h
  obtain ⟨f_previous_index, fd_previous_index, g_previous_index, k_previous_index, b_previous_index, G_previous_index⟩ := C_previous_index
  refine ⟨_, (pss_cons (ps_set (i := 3) sc_l_refusal.nd rfl (.inl rfl) pe_non)
    (pss_cons (ps_try_keep (i := 4) (tw := fun W => tDrop (tCallS (spPrevIdxX K CI) (WE W) (tCons (tVar 0) (tCons (tVar 1) (tCons (tVar 2) tNil))))) (ts := fun _ _ _ => tAsg (tVar 4) (gName 3)) (Wout := fun _ _ _ _ => False) rfl rfl rfl sc_l_refusal.nd rfl rfl ⟨rfl, by decide, Or.inl e_is.g⟩ takes0 (fun W pn xe tk _ => (pss_one (ps_expr (pe_callS G_previous_index (hr.mono (by decide)) (by rfl) g_previous_index k_previous_index b_previous_index (fun σ => passAt tk σ) (by exact (pa_cons (pv 0) (pa_cons (pv 1) (pa_cons (pv 2) pa_nil)))))))) (fun a oe cls d pn hz hf => (pss_one (ps_set (i := 3) sc_l_refusal.nd rfl (.inl rfl) (pv 4)))))
    (pss_one (ps_ret (pe_ifExp (pt_cmpR op_isN (pv 3) pe_non (nomark _)) pe_non (pe_kf e_is.f (e_is.r _ (by decide +kernel)) (pv 3))))))), ?_⟩
  refine ⟨_, rfl, _, rfl, _, rfl, a, q, s, ds, n, S, vr, vb, wd, k0, rfl, hH, tree, hn, stq, okq, st, bad, fun H' t d sm ht hd => ?_⟩
  refine ⟨true, e_is.xm, (fun z => by cases z), fun _ ea nea => ?_⟩
  refine ⟨_, rfl, ?_⟩
  have sx : Same H' (upd H' ea (exk ea (.ref CI) (some d))) := Same.upd nea
  refine ⟨_, rfl, rfl, _, rfl, iteF ?_⟩
  exact ⟨_, rfl, ea, d, _, _, rfl, upd_same, sx _ _ hd, rfl, qn _ t (sm.trans sx) (sx _ _ ht)⟩
end
end K5

namespace K5
open PySem PySem.Spec PyProof.Rows L2
theorem tv_of {x : Nat} {pl : Addr} {H : Hp} {K : PySem.W.Frag} : atI [V.int (x : Int), V.bl (decide (V.int (x : Int) = V.int 1))] (if decide ((x : Int) < 2) = true then 1 else 0) = some (tv x) := by
  unfold tv
  by_cases c : x < 2
  · rw [if_pos c, if_pos (decide_eq_true (by omega))]
    rfl
  · rw [if_neg c, if_neg (by rw [decide_eq_false (by omega)]; simp)]
    rfl
theorem take_succ_get {α : Type} {L : List α} {i : Nat} {x : α} (h : L[i]? = some x) : L.take (i + 1) = L.take i ++ [x] := by
  rw [List.take_add_one, h]
  rfl
theorem sn_shaped (w : String) (k : Nat) (hw : PyData.strOk (Str.ofString w) = true) : SeqAt.shaped (.tuple [.str (Str.ofString w), .int (k : Int)]) = true :=
  shaped_mk (by simp [PyData.canLay0, PyData.canLayAll0, hw]) (by simp [PyData.depth, PyData.depthAll])
section
variable {P : Program} {w : World} {K : PySem.W.Frag}
      {mg : Str → Option Value} {base : Heap}
theorem ok_l_truths_refused (T : Bl mg) (D : Def K mg "_law_truths_refused" s_l_truths_refused) (C_l_refusal : Cal P w K mg base "_law_refusal" ["_law_layout", "_law_situation", "_law_other"] 10 (spRefusal K)) :
    Cal P w K mg base "_law_truths_refused" ["_law_layout", "_law_situation", "_law_before"] 11 (spTruths K) := by
  refine D.ok sc_l_truths_refused (fun _ _ _ _ _ _ us hl => match us, hl with | [_, _, _], _ => rfl) (fun vs H Q E h => ?_) (fun f cdv A outer s0 H vs Q E hr h => ?_)
  · obtain ⟨a, q, s, ds, n, S, S', rfl, _⟩ := h
    rfl
  obtain ⟨a, q, s, ds, n, S, S', rfl, hH, tree, hn, stq, okq, st, ok, qn⟩ := h
  obtain ⟨r, b, h1, h2, h3⟩ := id st
  have one := ok.one
  have few := ok.few
  have hdn := tree.len
  have drs := ok.doors
  obtain ⟨f_l_refusal, fd_l_refusal, g_l_refusal, k_l_refusal, b_l_refusal, G_l_refusal⟩ := C_l_refusal
  refine ⟨_, (pss_cons (ps_asg (pv 2) (pg_tup (n := 2) rfl (pgs_cons (pg_name (i := 3) sc_l_truths_refused.nd rfl (.inl rfl)) (pgs_cons (pg_name (i := 4) sc_l_truths_refused.nd rfl (.inl rfl)) pgs_nil))))
    (pss_cons (ps_set (i := 5) sc_l_truths_refused.nd rfl (.inl rfl) (pe_callTy call_tuple_of (by rfl) T.tuple (by decide +kernel) (pa_cons (pe_lc (own := [("_law_spot", 6)]) (g := gName 6)  (te := (tOp (rIxL K) (tLst (tCons (tVar 6) (tCons (tOp rEq (tVar 6) (tC (.int 1))) tNil))) (tCB (fun xs H Q => (∃ i, xs = [.int i] ∧ Q (.int i) H) ∨ ∃ k, xs = [.bl k] ∧ Q (.int (if k then 1 else 0)) H) (tCons (tOp (rI0 fun i j => .bl (decide (i < j))) (tVar 6) (tC (.int 2))) tNil)))) rfl sc_l_truths_refused.nd (pi_tup (pv 3)) (blkOk_by (N := N_l_truths_refused) (sc := defScope s_l_truths_refused) (own := [("_law_spot", 6)]) (by decide +kernel)) (fun _ _ _ _ _ => (pg_name (i := 6) sc_l_truths_refused.nd rfl (.inl rfl) (.inr rfl))) (fun _ _ _ _ _ => pts_nil) (fun _ _ _ _ _ => (pe_ix ix_list (pe_lst (pa_cons (pv 6) (pa_cons (pe_cmpR op_eq (pv 6) pe_int (nomark _)) pa_nil))) (pe_callTy call_int1 (by rfl) T.int (by decide +kernel) (pa_cons (pe_cmpR op_lt (pv 6) pe_int (nomark _)) pa_nil)) (fun _ _ => rfl)))) pa_nil)))
    (pss_cons (ps_setLc (i := 7) (own := [("_law_who", 8), ("_law_spot", 6)]) (g := gTup K 2 (gCons (gName 8) (gCons (gName 6) gNil)))  (tt := (tTest (tOp (rI0 fun i j => .bl (decide (i < j))) (tVar 6) (tC (.int 2))))) rfl sc_l_truths_refused.nd rfl rfl (sw_true rfl rfl rfl (by decide +kernel)) (pi_enumT (by rfl) T.enumerate (pa_cons (pv 3) pa_nil)) (blkOk_by (N := N_l_truths_refused) (sc := defScope s_l_truths_refused) (own := [("_law_who", 8), ("_law_spot", 6)]) (by decide +kernel)) (fun _ _ _ _ _ => (pg_tup (n := 2) rfl (pgs_cons (pg_name (i := 8) sc_l_truths_refused.nd rfl (.inl rfl) (.inr rfl)) (pgs_cons (pg_name (i := 6) sc_l_truths_refused.nd rfl (.inl rfl) (.inr rfl)) pgs_nil)))) (fun _ _ _ _ _ => (pts_one (pt_cmpR op_lt (pv 6) pe_int (nomark _)))) (fun _ _ _ _ _ => (pv 8)))
    (Evl.pss_cut (ps_if (PW.pt (pw_and (pt_cmpR (op_neD hr.units) (pv 7) (pe_lst pa_nil) (nomark _)) (pw_and1 (pt_cmpR (op_neD hr.units) (pe_call G_l_refusal (hr.mono (by decide)) (by rfl) g_l_refusal k_l_refusal b_l_refusal .nil pass0 (pa_cons (pv 0) (pa_cons (pv 1) (pa_cons (pe_tup (pa_cons (pv 5) (pa_cons (pv 4) pa_nil))) pa_nil)))) (pe_tup (pa_cons pe_str (pa_cons (pe_ix ix_list (pv 7) pe_int (fun _ _ => rfl)) pa_nil))) (nomark _))))) (pss_one (ps_ret pe_bl)) pss_nil)
    (pss_cons (ps_set (i := 5) sc_l_truths_refused.nd rfl (.inl rfl) (pe_callTy call_tuple_of (by rfl) T.tuple (by decide +kernel) (pa_cons (pe_lc (own := [("_law_who", 8)]) (g := gName 8)  (te := (tOp (rIxL K) (tLst (tCons (tVar 8) (tCons (tOp rEq (tVar 8) (tC (.int 1))) tNil))) (tCB (fun xs H Q => (∃ i, xs = [.int i] ∧ Q (.int i) H) ∨ ∃ k, xs = [.bl k] ∧ Q (.int (if k then 1 else 0)) H) (tCons (tOp (rI0 fun i j => .bl (decide (i < j))) (tVar 8) (tC (.int 2))) tNil)))) rfl sc_l_truths_refused.nd (pi_tup (pv 4)) (blkOk_by (N := N_l_truths_refused) (sc := defScope s_l_truths_refused) (own := [("_law_who", 8)]) (by decide +kernel)) (fun _ _ _ _ _ => (pg_name (i := 8) sc_l_truths_refused.nd rfl (.inl rfl) (.inr rfl))) (fun _ _ _ _ _ => pts_nil) (fun _ _ _ _ _ => (pe_ix ix_list (pe_lst (pa_cons (pv 8) (pa_cons (pe_cmpR op_eq (pv 8) pe_int (nomark _)) pa_nil))) (pe_callTy call_int1 (by rfl) T.int (by decide +kernel) (pa_cons (pe_cmpR op_lt (pv 8) pe_int (nomark _)) pa_nil)) (fun _ _ => rfl)))) pa_nil)))
    (pss_cons (ps_setLc (i := 7) (own := [("_law_door", 9), ("_law_who", 8)]) (g := gTup K 2 (gCons (gName 9) (gCons (gName 8) gNil)))  (tt := (tTest (tOp (rI0 fun i j => .bl (decide (i < j))) (tVar 8) (tC (.int 2))))) rfl sc_l_truths_refused.nd rfl rfl (sw_true rfl rfl rfl (by decide +kernel)) (pi_enumT (by rfl) T.enumerate (pa_cons (pv 4) pa_nil)) (blkOk_by (N := N_l_truths_refused) (sc := defScope s_l_truths_refused) (own := [("_law_door", 9), ("_law_who", 8)]) (by decide +kernel)) (fun _ _ _ _ _ => (pg_tup (n := 2) rfl (pgs_cons (pg_name (i := 9) sc_l_truths_refused.nd rfl (.inl rfl) (.inr rfl)) (pgs_cons (pg_name (i := 8) sc_l_truths_refused.nd rfl (.inl rfl) (.inr rfl)) pgs_nil)))) (fun _ _ _ _ _ => (pts_one (pt_cmpR op_lt (pv 8) pe_int (nomark _)))) (fun _ _ _ _ _ => (pv 9)))
    (pss_one (ps_ret (pe_or (pe_cmpR (op_eqD hr.units) (pv 7) (pe_lst pa_nil) (nomark _)) (pe_one (pe_cmpR (op_eqD hr.units) (pe_call G_l_refusal (hr.mono (by decide)) (by rfl) g_l_refusal k_l_refusal b_l_refusal .nil pass0 (pa_cons (pv 0) (pa_cons (pv 1) (pa_cons (pe_tup (pa_cons (pv 3) (pa_cons (pv 5) pa_nil))) pa_nil)))) (pe_tup (pa_cons pe_str (pa_cons (pe_ix ix_list (pv 7) pe_int (fun _ _ => rfl)) pa_nil))) (nomark _)))))))))))), ?_⟩
  refine ⟨_, rfl, _, _, rfl, h1, rfl, _, _, rfl, _, _, rfl, rfl, ?_⟩
  refine ⟨_, rfl, r, rfl, ⟨_, h2⟩, fun pd npd => ?_⟩
  refine lc_it (walk_tup (K := K) (a := r) (xs := nv S'.1)) (fun i H2 => Same H H2 ∧ H2 pd = some (.lst ((S'.1.take i).map tv))) ⟨Same.upd npd, upd_same⟩ (fun i H2 _ h => h.1.tup h2) ?_ ?_
  · rintro i x H2 H3 hi ⟨sm, hp⟩ ⟨rfl, ex⟩
    obtain ⟨v, hv, rfl⟩ := nv_some ex
    refine ⟨rfl, lcYes ?_⟩
    refine ⟨_, rfl, _, rfl, rfl, by show 2 ≤ sizeLine; decide, fun pl npl => ?_⟩
    have s3 := Same.upd (o := .lst [V.int (v : Int), V.bl (decide (V.int (v : Int) = V.int 1))]) npl
    refine ⟨_, rfl, _, _, rfl, rfl, .inr ⟨_, rfl, pl, _, _, _, rfl, rfl, SqL.of upd_same, tv_of (pl := pl) (H := H) (K := K), ?_⟩⟩
    refine ⟨_, s3 _ _ hp, by rw [List.length_map, List.length_take]; exact small1000 (by omega), (sm.trans s3).at npd, ?_⟩
    rw [upd_same, take_succ_get hv, List.map_append]
    rfl
  rintro H2 ⟨s2, hp2⟩
  rw [nv_len, List.take_length] at hp2
  refine ⟨pd, _, rfl, .inl ⟨SqL.of hp2, fun pt npt => ?_⟩⟩
  have s3 := s2.trans (Same.upd (o := .tup (S'.1.map tv)) npt)
  have hpt : (upd H2 pt (.tup (S'.1.map tv))) pt = some (.tup (S'.1.map tv)) := upd_same
  generalize upd H2 pt (.tup (S'.1.map tv)) = H3 at s3 hpt
  refine ⟨_, rfl, r, _, rfl, s3.tup h2, fun pe npe => ?_⟩
  refine lc_it (walk_enumT (K := K) (a := r) (xs := nv S'.1)) (fun i H4 => Same H3 H4 ∧ H4 pe = some (.lst (nv (sml S'.1 i)))) ⟨Same.upd npe, upd_same⟩ (fun i H4 _ h => (s3.trans h.1).tup h2) ?_ ?_
  · rintro i x H4 H5 hi ⟨sm, hp⟩ ⟨t, x1, x2, rfl, nt, rfl, ex1, ex2⟩
    cases ex1
    obtain ⟨v, hv, rfl⟩ := nv_some ex2
    have st : Same H4 (upd H4 t (.tup [.int (i : Nat), .int (v : Int)])) := Same.upd nt
    have hp4 := st _ _ hp
    have il := get_lt hv
    refine ⟨t, _, rfl, SqT.of upd_same, rfl, _, _, rfl, _, _, rfl, rfl, rfl, ?_⟩
    refine ⟨_, rfl, _, _, rfl, rfl, _, rfl, ?_⟩
    by_cases c : v < 2
    · rw [decide_eq_true (show (v : Int) < 2 by omega)]
      refine iteT ⟨_, rfl, _, hp4, ?_, (sm.trans st).at npe, ?_⟩
      · rw [nv_len]
        have := sml_len S'.1 i
        exact small1000 (by omega)
      · rw [upd_same, sml_succ hv, if_pos c, nv_snoc]
    · rw [decide_eq_false (show ¬ (v : Int) < 2 by omega)]
      refine iteF ⟨sm.trans st, ?_⟩
      rw [hp4, sml_succ hv, if_neg c, List.append_nil]
  rintro H4 ⟨s4, hp4⟩
  rw [nv_len] at hp4
  have s14 := s3.trans s4
  refine ⟨fun σ H5 => ∃ y5 y7, σ = [some (.ref a), some (.ref q), some (.ref s), some (.ref r), some (.ref b), y5, none, y7, none, none] ∧ Same H H5, ?_, ?_⟩
  · refine ⟨_, rfl, Nat.zero_le _, fun p0 np0 => ?_⟩
    have s5 := Same.upd (o := .lst []) np0
    refine ⟨.list (dIs (sml S'.1 S'.1.length)), .list [], .lst (SqL.of (s5 _ _ hp4)) (dp_is _), .lst (SqL.of upd_same) .nil, dIsL_shaped _, by decide +kernel, _, rfl, ?_⟩
    rw [dIs_eqv_nil]
    cases hz : sml S'.1 S'.1.length with
    | nil =>
      rw [decide_eq_true rfl]
      exact iteF (iteF ⟨_, _, rfl, s14.trans s5⟩)
    | cons k rest =>
      rw [decide_eq_false (by simp)]
      have fb := first_of (m := n) hz ok.rooms
      have s15 := s14.trans s5
      rw [hz] at hp4
      have hp5 := s5 _ _ hp4
      have hpt5 := s5 _ _ (s4 _ _ hpt)
      generalize upd H4 p0 (.lst []) = H5 at s15 hp5 hpt5
      refine iteT ⟨_, rfl, _, rfl, _, rfl, _, rfl, by show 2 ≤ sizeLine; decide, fun t1 nt1 => ?_⟩
      have s6 := Same.upd (o := .tup [.ref pt, .ref b]) nt1
      have s16 := s15.trans s6
      refine ⟨a, q, t1, ds, n, S, S'.1.map tv, nv S'.2, "room", k, rfl, hH.same s16, tree, hn, stq.same s16, okq, ⟨pt, b, SqT.of upd_same, SqT.of (s6 _ _ hpt5), s16.tup h3⟩, ⟨by rw [List.length_map]; exact one, by rw [List.length_map]; omega, by rw [nv_len]; exact drs, .inl ⟨rfl, fb⟩⟩, fun H7 t2 s7 ht2 => ?_⟩
      have hp7 := s7 _ _ (s6 _ _ hp5)
      have s17 := s16.trans s7
      refine ⟨_, rfl, pe, _, _, _, rfl, rfl, SqL.of hp7, atI_nat (j := 0) rfl, by show 2 ≤ sizeLine; decide, fun t3 nt3 => ?_⟩
      have s8 := Same.upd (o := .tup [.str "room", .int (k : Int)]) nt3
      refine ⟨.tuple [.str "room", .int (k : Int)], .tuple [.str "room", .int (k : Int)], .tup (SqT.of (s8 _ _ ht2)) (.cons (.str _) (.cons (.int _) .nil)), .tup (SqT.of upd_same) (.cons (.str _) (.cons (.int _) .nil)), sn_shaped "room" k (by decide +kernel), sn_shaped "room" k (by decide +kernel), _, rfl, ?_⟩
      rw [d_refl (sn_shaped "room" k (by decide +kernel))]
      exact iteF ⟨_, _, rfl, s17.trans s8⟩
  · rintro σ H5 ⟨y5, y7, rfl, s15⟩
    refine ⟨_, rfl, b, rfl, ⟨_, s15.tup h3⟩, fun pd npd => ?_⟩
    refine lc_it (walk_tup (K := K) (a := b) (xs := nv S'.2)) (fun i H6 => Same H5 H6 ∧ H6 pd = some (.lst ((S'.2.take i).map tv))) ⟨Same.upd npd, upd_same⟩ (fun i H6 _ h => (s15.trans h.1).tup h3) ?_ ?_
    · rintro i x H6 H7 hi ⟨sm, hp⟩ ⟨rfl, ex⟩
      obtain ⟨v, hv, rfl⟩ := nv_some ex
      have il := get_lt hv
      refine ⟨rfl, lcYes ?_⟩
      refine ⟨_, rfl, _, rfl, rfl, by show 2 ≤ sizeLine; decide, fun pl npl => ?_⟩
      have s3 := Same.upd (o := .lst [V.int (v : Int), V.bl (decide (V.int (v : Int) = V.int 1))]) npl
      refine ⟨_, rfl, _, _, rfl, rfl, .inr ⟨_, rfl, pl, _, _, _, rfl, rfl, SqL.of upd_same, tv_of (pl := pl) (H := H) (K := K), ?_⟩⟩
      refine ⟨_, s3 _ _ hp, by rw [List.length_map, List.length_take]; exact small1000 (by omega), (sm.trans s3).at npd, ?_⟩
      rw [upd_same, take_succ_get hv, List.map_append]
      rfl
    rintro H6 ⟨s6, hp6⟩
    rw [nv_len, List.take_length] at hp6
    refine ⟨pd, _, rfl, .inl ⟨SqL.of hp6, fun pt npt => ?_⟩⟩
    have s7 := (s15.trans s6).trans (Same.upd (o := .tup (S'.2.map tv)) npt)
    have hpt : (upd H6 pt (.tup (S'.2.map tv))) pt = some (.tup (S'.2.map tv)) := upd_same
    generalize upd H6 pt (.tup (S'.2.map tv)) = H7 at s7 hpt
    refine ⟨_, rfl, b, _, rfl, s7.tup h3, fun pe npe => ?_⟩
    refine lc_it (walk_enumT (K := K) (a := b) (xs := nv S'.2)) (fun i H8 => Same H7 H8 ∧ H8 pe = some (.lst (nv (sml S'.2 i)))) ⟨Same.upd npe, upd_same⟩ (fun i H8 _ h => (s7.trans h.1).tup h3) ?_ ?_
    · rintro i x H8 H9 hi ⟨sm, hp⟩ ⟨t, x1, x2, rfl, nt, rfl, ex1, ex2⟩
      cases ex1
      obtain ⟨v, hv, rfl⟩ := nv_some ex2
      have st : Same H8 (upd H8 t (.tup [.int (i : Nat), .int (v : Int)])) := Same.upd nt
      have hp4 := st _ _ hp
      have il := get_lt hv
      refine ⟨t, _, rfl, SqT.of upd_same, rfl, _, _, rfl, _, _, rfl, rfl, rfl, ?_⟩
      refine ⟨_, rfl, _, _, rfl, rfl, _, rfl, ?_⟩
      by_cases c : v < 2
      · rw [decide_eq_true (show (v : Int) < 2 by omega)]
        refine iteT ⟨_, rfl, _, hp4, ?_, (sm.trans st).at npe, ?_⟩
        · rw [nv_len]
          have := sml_len S'.2 i
          exact small1000 (by omega)
        · rw [upd_same, sml_succ hv, if_pos c, nv_snoc]
      · rw [decide_eq_false (show ¬ (v : Int) < 2 by omega)]
        refine iteF ⟨sm.trans st, ?_⟩
        rw [hp4, sml_succ hv, if_neg c, List.append_nil]
    rintro H8 ⟨s8, hp8⟩
    rw [nv_len] at hp8
    have s18 := s7.trans s8
    refine ⟨_, rfl, Nat.zero_le _, fun p0 np0 => ?_⟩
    have s9 := Same.upd (o := .lst []) np0
    refine ⟨.list (dIs (sml S'.2 S'.2.length)), .list [], .lst (SqL.of (s9 _ _ hp8)) (dp_is _), .lst (SqL.of upd_same) .nil, dIsL_shaped _, by decide +kernel, ?_⟩
    rw [dIs_eqv_nil]
    have s19 := s18.trans s9
    cases hz : sml S'.2 S'.2.length with
    | nil =>
      rw [decide_eq_true rfl]
      exact ⟨_, rfl, iteT (qn _ s19)⟩
    | cons k rest =>
      rw [decide_eq_false (by simp)]
      have fb := first_of (m := S'.1.length) hz ok.bars
      rw [hz] at hp8
      have hp5 := s9 _ _ hp8
      have hpt5 := s9 _ _ (s8 _ _ hpt)
      generalize upd H8 p0 (.lst []) = H5' at s19 hp5 hpt5
      refine ⟨_, rfl, iteF ⟨_, rfl, _, rfl, _, rfl, _, rfl, by show 2 ≤ sizeLine; decide, fun t1 nt1 => ?_⟩⟩
      have s6 := Same.upd (o := .tup [.ref r, .ref pt]) nt1
      have s16 := s19.trans s6
      have alln : ∀ x ∈ nv S'.1, ∃ v : Nat, x = .int (v : Int) ∧ v < n := fun x hx => by
        obtain ⟨v, hv, rfl⟩ := List.mem_map.mp hx
        exact ⟨v, rfl, ok.rooms v hv⟩
      refine ⟨a, q, t1, ds, n, S, nv S'.1, S'.2.map tv, "barred", k, rfl, hH.same s16, tree, hn, stq.same s16, okq, ⟨r, pt, SqT.of upd_same, s16.tup h2, SqT.of (s6 _ _ hpt5)⟩, ⟨by rw [nv_len]; exact one, by rw [nv_len]; omega, by rw [List.length_map]; exact drs, .inr ⟨rfl, alln, by rw [nv_len]; exact fb⟩⟩, fun H7 t2 s7 ht2 => ?_⟩
      have hp7 := s7 _ _ (s6 _ _ hp5)
      have s17 := s16.trans s7
      refine ⟨_, rfl, pe, _, _, _, rfl, rfl, SqL.of hp7, atI_nat (j := 0) rfl, by show 2 ≤ sizeLine; decide, fun t3 nt3 => ?_⟩
      have s8 := Same.upd (o := .tup [.str "barred", .int (k : Int)]) nt3
      refine ⟨.tuple [.str "barred", .int (k : Int)], .tuple [.str "barred", .int (k : Int)], .tup (SqT.of (s8 _ _ ht2)) (.cons (.str _) (.cons (.int _) .nil)), .tup (SqT.of upd_same) (.cons (.str _) (.cons (.int _) .nil)), sn_shaped "barred" k (by decide +kernel), sn_shaped "barred" k (by decide +kernel), ?_⟩
      rw [d_refl (sn_shaped "barred" k (by decide +kernel))]
      exact qn _ (s17.trans s8)
end
end K5

namespace K5
open PySem PySem.Spec PyProof.Rows L2 PySem.W
/-- one order only, of alike data whose signs tell them apart -/
theorem sorted_unique {β : Type} (k : β → PyData) (inj : ∀ x y, keyToks (k x) = keyToks (k y) → x = y) : ∀ {l m : List β}, l.Perm m → (l.Pairwise fun x y => dataLe false k x y = true) → (m.Pairwise fun x y => dataLe false k x y = true) → l = m
  | [], m, p, _, _ => p.symm.eq_nil.symm
  | a :: r, [], p, _, _ => by have := p.eq_nil; cases this
  | a :: r, b :: s, p, h1, h2 => by
    obtain ⟨h1a, h1b⟩ := List.pairwise_cons.mp h1
    obtain ⟨h2a, h2b⟩ := List.pairwise_cons.mp h2
    have anti : ∀ {x y : β}, dataLe false k x y = true → dataLe false k y x = true → x = y := fun {x y} h1 h2 => by
      refine inj _ _ ((listOrd itemOrd).total _ _ ?_ ?_)
      · have h2 : (!(listOrd itemOrd).blt (keyToks (k x)) (keyToks (k y))) = true := h2
        simpa using h2
      · have h1 : (!(listOrd itemOrd).blt (keyToks (k y)) (keyToks (k x))) = true := h1
        simpa using h1
    have e : a = b := by
      rcases List.mem_cons.mp (p.mem_iff.mp List.mem_cons_self) with e | q
      · exact e
      · rcases List.mem_cons.mp (p.symm.mem_iff.mp List.mem_cons_self) with e | q2
        · exact e.symm
        · exact anti (h1a b q2) (h2a a q)
    subst e
    rw [sorted_unique k inj ((List.perm_cons a).mp p) h1b h2b]
theorem toks_S {A B : S2} (h : keyToks (dS A) = keyToks (dS B)) : A = B := by
  obtain ⟨L, M⟩ := A
  obtain ⟨L', M'⟩ := B
  simp only [dS, keyToks, keyToksAll, List.cons.injEq, true_and] at h
  obtain ⟨a, b⟩ := toks_is L L' _ _ h
  simp only [List.cons.injEq, true_and] at b
  obtain ⟨c, _⟩ := toks_is M M' _ _ b
  rw [a, c]
theorem eqv_is (l m : List Nat) : PyData.eqv (.tuple (dIs l)) (.tuple (dIs m)) = decide (l = m) := by
  simp only [PyData.eqv, eqvAll_is]
theorem al_is (l m : List Nat) : alike (.tuple (dIs l)) (.tuple (dIs m)) = true := by
  simp only [alike, alike_is]
/-- other rooms decide -/
theorem le_rooms {x y : Lm} {A B : S2} (ne : x.1 ≠ y.1) (ea : A.1 = x.1) (eb : B.1 = y.1) (h : dataLe false dLm x y = true) : dataLe false dS A B = true := by
  have h : (!dataLt (dLm y) (dLm x)) = true := h
  show (!dataLt (dS B) (dS A)) = true
  have e1 : dataLt (dLm y) (dLm x) = dataLt (.tuple (dIs y.1)) (.tuple (dIs x.1)) :=
    dataLt_all_no (al_is _ _) (by rw [eqv_is, decide_eq_false (Ne.symm ne)])
  have e2 : dataLt (dS B) (dS A) = dataLt (.tuple (dIs B.1)) (.tuple (dIs A.1)) :=
    dataLt_all_no (al_is _ _) (by rw [eqv_is, ea, eb, decide_eq_false (Ne.symm ne)])
  rw [e2, ea, eb, ← e1]
  exact h
theorem lt_set : ∀ (L : List Nat) (d b b' : Nat), d < L.length → b < b' → dataLt (.tuple (dIs (L.set d b'))) (.tuple (dIs (L.set d b))) = false
  | [], d, b, b', h, _ => by simp at h
  | x :: L, 0, b, b', _, h => by
    have e : dataLt (.tuple (dIs ((x :: L).set 0 b'))) (.tuple (dIs ((x :: L).set 0 b))) = dataLt (.int (b' : Int)) (.int (b : Int)) :=
      dataLt_all_no rfl (by
        simp only [PyData.eqv]
        have : ¬ (b' : Int) = (b : Int) := by omega
        simpa using this)
    rw [e]
    have lt : ¬ ((b' : Int) < (b : Int)) := by omega
    simp [dataLt, keyToks, PyProof.Rows.lexLt, itemLt]
    omega
  | x :: L, d + 1, b, b', hd, h => by
    have ih := lt_set L d b b' (by simpa using hd) h
    have e : dataLt (.tuple (dIs ((x :: L).set (d + 1) b'))) (.tuple (dIs ((x :: L).set (d + 1) b))) = dataLt (.tuple (dIs (L.set d b'))) (.tuple (dIs (L.set d b))) :=
      dataLt_all_yes rfl (by simp only [PyData.eqv]; simp)
    rw [e, ih]
theorem le_same {r L : List Nat} {d b b' : Nat} (hd : d < L.length) (h : b < b') : dataLe false dS (r, L.set d b) (r, L.set d b') = true := by
  show (!dataLt (dS (r, L.set d b')) (dS (r, L.set d b))) = true
  have e : dataLt (dS (r, L.set d b')) (dS (r, L.set d b)) = PyProof.Rows.lexLt itemOrd (keyToksAll [.tuple (dIs (L.set d b'))]) (keyToksAll [.tuple (dIs (L.set d b))]) :=
    dataLt_all_yes (al_is _ _) (by rw [eqv_is, decide_eq_true rfl])
  have ne : L.set d b' ≠ L.set d b := fun z => by
    have h1 : (L.set d b')[d]? = some b' := List.getElem?_set_self hd
    rw [z, List.getElem?_set_self hd] at h1
    have := Option.some.inj h1
    omega
  have e2 : PyProof.Rows.lexLt itemOrd (keyToksAll [.tuple (dIs (L.set d b'))]) (keyToksAll [.tuple (dIs (L.set d b))]) = dataLt (.tuple (dIs (L.set d b'))) (.tuple (dIs (L.set d b))) :=
    dataLt_all_no (al_is _ _) (by rw [eqv_is, decide_eq_false ne])
  rw [e, e2, lt_set L d b b' hd h]
  rfl
end K5

namespace K5
open PySem PySem.Spec PyProof.Rows L2 PySem.W
/-- the states before, by one last move: the door barred any other -/
def befs (S : S2) (x : Lm) : List S2 := ((List.range S.1.length).filter fun b => decide (b ≠ x.2.2)).map fun b => (x.1, S.2.set x.2.1 b)
/-- all states one move before, in their order -/
noncomputable def prevs (ds : List (Nat × Nat)) (S : S2) : List S2 := (srtd ds S).flatMap (befs S)
theorem range_but : ∀ {P p : Nat}, p < P → (List.range P).filter (fun b => decide (b ≠ p)) = (List.range (P - 1)).map fun o => bef o p := by
  intro P p hp
  have h : ∀ k, k ≤ P - 1 → (List.range (if k ≤ p then k else k + 1)).filter (fun b => decide (b ≠ p)) = (List.range k).map fun o => bef o p := by
    intro k
    induction k with
    | zero => intro _; simp
    | succ k ih =>
      intro hk
      have ih := ih (by omega)
      rw [List.range_succ, List.map_append, ← ih]
      by_cases c : k + 1 ≤ p
      · rw [if_pos c, if_pos (by omega), List.range_succ, List.filter_append]
        have e : bef k p = k := by unfold bef; rw [if_pos (by omega)]
        have : k ≠ p := by omega
        simp [e, this]
      · by_cases c2 : k ≤ p
        · have ek : k = p := by omega
          subst ek
          rw [if_neg c, if_pos c2, List.range_succ, List.range_succ, List.filter_append, List.filter_append]
          have e : bef k k = k + 1 := by unfold bef; rw [if_neg (by omega)]
          simp [e]
        · rw [if_neg c, if_neg c2, List.range_succ (n := k + 1), List.filter_append]
          have e : bef k p = k + 1 := by unfold bef; rw [if_neg (by omega)]
          have : k + 1 ≠ p := by omega
          simp [e, this]
  by_cases z : P - 1 ≤ p
  · have e : P - 1 = p := by omega
    have := h p (by omega)
    rw [if_pos (Nat.le_refl _)] at this
    have hP : P = p + 1 := by omega
    rw [e, ← this, hP, List.range_succ, List.filter_append]
    simp
  · have := h (P - 1) (Nat.le_refl _)
    rw [if_neg z, show P - 1 + 1 = P by omega] at this
    exact this
/-- two last moves with the same rooms are one -/
theorem lms_rooms {n : Nat} {ds : List (Nat × Nat)} {S : S2} (T : Tree n ds) (ok : StOk n ds S) {x y : Lm} (hx : x ∈ lms ds S ds.length) (hy : y ∈ lms ds S ds.length) (h : x.1 = y.1) : x = y := by
  have one : ∀ {z : Lm}, z ∈ lms ds S ds.length → ∃ (v w : Nat), z.2.1 < ds.length ∧ z.2.2 = S.2.getD z.2.1 0 ∧ S.1[z.2.2]? = some v ∧ Joins ds z.2.1 v w ∧ z.1 = S.1.set z.2.2 w ∧ z.2.2 < S.1.length := fun {z} hz => by
    obtain ⟨a, b, c⟩ := mem_lms hz
    obtain ⟨e, he⟩ : ∃ e, ds[z.2.1]? = some e := get_of rfl a
    obtain ⟨p, hp⟩ : ∃ p, S.2[z.2.1]? = some p := get_of ok.doors a
    have ep : z.2.2 = p := by rw [b, List.getD_eq_getElem?_getD, hp]; rfl
    have lp := ok.bars p (List.mem_of_getElem? hp)
    obtain ⟨v, hv⟩ : ∃ v, S.1[p]? = some v := get_of rfl lp
    have ev : S.1.getD p 0 = v := by rw [List.getD_eq_getElem?_getD, hv]; rfl
    have ee : ds.getD z.2.1 (0, 0) = e := by rw [List.getD_eq_getElem?_getD, he]; rfl
    unfold lmOf at c
    rw [ee, ep, ev] at c
    split at c
    · rename_i hc
      rw [List.mem_singleton] at c
      refine ⟨v, oth e v, a, b, by rw [ep]; exact hv, ?_, by rw [ep]; exact congrArg Prod.fst c, by rw [ep]; exact lp⟩
      unfold oth
      by_cases q : v = e.1
      · rw [if_pos q, q]
        exact .inl he
      · rw [if_neg q]
        rcases hc with hc | hc
        · exact absurd hc q
        · rw [hc]
          exact .inr he
    · cases c
  obtain ⟨v, w, a1, a2, a3, a4, a5, a6⟩ := one hx
  obtain ⟨v', w', b1, b2, b3, b4, b5, b6⟩ := one hy
  have nvw := (a4.lt T).2.2.2
  have nvw' := (b4.lt T).2.2.2
  have e0 : S.1.set x.2.2 w = S.1.set y.2.2 w' := by rw [← a5, ← b5, h]
  have ep : x.2.2 = y.2.2 := Classical.byContradiction fun z => by
    have h1 : (S.1.set x.2.2 w)[x.2.2]? = some w := List.getElem?_set_self a6
    rw [e0, List.getElem?_set_ne (Ne.symm z), a3] at h1
    exact nvw (Option.some.inj h1)
  have ew : w = w' := by
    have h1 : (S.1.set x.2.2 w)[x.2.2]? = some w := List.getElem?_set_self a6
    rw [e0, ep, List.getElem?_set_self b6] at h1
    exact (Option.some.inj h1).symm
  rw [ep, b3] at a3
  have ev := Option.some.inj a3
  rw [← ev, ew] at a4
  have ed := T.one_door a4 b4
  obtain ⟨x1, x2, x3⟩ := x
  obtain ⟨y1, y2, y3⟩ := y
  simp only at h ep ed
  rw [h, ep, ed]
theorem nodup_lms (ds : List (Nat × Nat)) (S : S2) : ∀ k, (lms ds S k).Nodup
  | 0 => List.nodup_nil
  | k + 1 => by
    show (lms ds S k ++ lmOf (ds.getD k (0, 0)) S k (S.2.getD k 0)).Nodup
    rw [List.nodup_append]
    refine ⟨nodup_lms ds S k, ?_, fun a ha b hb z => ?_⟩
    · unfold lmOf
      split
      · simp
      · exact List.nodup_nil
    · subst z
      have h1 := (mem_lms ha).1
      unfold lmOf at hb
      split at hb
      · rw [List.mem_singleton] at hb
        rw [hb] at h1
        exact absurd h1 (Nat.lt_irrefl _)
      · cases hb
theorem prevs_sorted {n : Nat} {ds : List (Nat × Nat)} {S : S2} (T : Tree n ds) (ok : StOk n ds S) : (prevs ds S).Pairwise fun A B => dataLe false dS A B = true := by
  unfold prevs
  have pm : (srtd ds S).Perm (lms ds S ds.length) := List.mergeSort_perm _ _
  have so : Srt (srtd ds S) := sort_pairwise (sortLe_total (listOrd itemOrd) false fun x : Lm => keyToks (dLm x)) _
  have nd : (srtd ds S).Nodup := pm.nodup_iff.mpr (nodup_lms ds S _)
  rw [List.pairwise_flatMap]
  refine ⟨fun x hx => ?_, ?_⟩
  · unfold befs
    rw [List.pairwise_map]
    have hd : x.2.1 < S.2.length := by
      rw [ok.doors]
      exact (mem_lms (pm.mem_iff.mp hx)).1
    exact (List.pairwise_lt_range.filter _).imp fun h => le_same hd h
  · have both := so.and nd
    have := List.Pairwise.imp_of_mem (R := fun x y : Lm => dataLe false dLm x y = true ∧ x ≠ y) (S := fun x y => ∀ A ∈ befs S x, ∀ B ∈ befs S y, dataLe false dS A B = true) (fun {x y} hx hy h A hA B hB => ?_) both
    · exact this
    · unfold befs at hA hB
      obtain ⟨b, _, rfl⟩ := List.mem_map.mp hA
      obtain ⟨b', _, rfl⟩ := List.mem_map.mp hB
      exact le_rooms (fun z => h.2 (lms_rooms T ok (pm.mem_iff.mp hx) (pm.mem_iff.mp hy) z)) rfl rfl h.1
/-- as the law makes them, out of order -/
def rawP (ds : List (Nat × Nat)) (S : S2) (k : Nat) : List S2 := (lms ds S k).flatMap (befs S)
theorem prevs_is {n : Nat} {ds : List (Nat × Nat)} {S : S2} (T : Tree n ds) (ok : StOk n ds S) {l : List S2} (p : l.Perm (rawP ds S ds.length)) (so : l.Pairwise fun A B => dataLe false dS A B = true) : l = prevs ds S := by
  refine sorted_unique dS (fun _ _ h => toks_S h) (p.trans ?_) so (prevs_sorted T ok)
  unfold rawP prevs
  exact (List.mergeSort_perm (lms ds S ds.length) _).symm.flatMap_right _
end K5

namespace K5
open PySem PySem.Spec PyProof.Rows L2 PySem.W
/-- t[:d] + (v,) + t[d + 1:] -/
theorem cut3 {K : PySem.W.Frag} {σ : L2.St} {H : Hp} {Q : VK} {i j k : Nat} {a : Addr} {L : List Nat} {d v : Nat} (hi : σ[i]? = some (some (.ref a))) (hj : σ[j]? = some (some (.int (d : Int)))) (hk : σ[k]? = some (some (.int (v : Int)))) (h2 : SqT K H a (nv L)) (lt : d < L.length) (few : L.length ≤ 1000)
    (q : ∀ (H' : Hp) (p : Addr), Same H H' → SqT K H' p (nv (L.set d v)) → Q (.ref p) H') :
    tOp (rCatA K) (tOp (rCatA K) (tSl (rSlT K) (tVar i) tNoPart (tPart (tVar j))) (tTup (tCons (tVar k) tNil))) (tSl (rSlT K) (tVar i) (tPart (tOp (rI0 fun i j => .int (i + j)) (tVar j) (tC (.int 1)))) tNoPart) σ H Q := by
  have sz4 : (4 : Nat) + 1000 ≤ sizeLine := Nat.le_of_lt (small3k (by decide))
  obtain ⟨c1, c2⟩ := cut_to lt
  obtain ⟨c3, c4⟩ := cut_from lt
  refine ⟨_, hi, _, hj, _, rfl, a, _, rfl, h2, c2, fun p1 np1 => ?_⟩
  rw [c1]
  have sa := Same.upd (o := .tup (nv (L.take d))) np1
  refine ⟨_, hk, by show 1 ≤ sizeLine; decide, fun p2 np2 => ?_⟩
  have sb := sa.trans (Same.upd (o := .tup [.int (v : Int)]) np2)
  have hp1 : (upd (upd H p1 (.tup (nv (L.take d)))) p2 (.tup [.int (v : Int)])) p1 = some (.tup (nv (L.take d))) := by rw [upd_ne (ne_of_none upd_same np2), upd_same]
  refine catA_of (SqT.of hp1) (SqT.of upd_same) (by rw [nv_len, List.length_take, List.length_singleton]; omega) fun H4 p3 s4 h4 => ?_
  have sc := sb.trans s4
  refine ⟨_, hi, _, hj, _, _, rfl, rfl, _, rfl, a, _, rfl, sc.tup h2, c4, fun p4 np4 => ?_⟩
  rw [c3]
  have s5 := Same.upd (o := .tup (nv (L.drop (d + 1)))) np4
  refine catA_of (s5.tup h4) (SqT.of upd_same) (by rw [List.length_append, nv_len, List.length_take, List.length_singleton, nv_len, List.length_drop]; omega) fun H6 p5 s6 h6 => ?_
  rw [nv_cut _ _ _ lt] at h6
  exact q _ p5 ((sc.trans s5).trans s6) h6
/-- states at their places -/
def StsAt (K : PySem.W.Frag) (H : Hp) (ts : List Addr) (l : List S2) : Prop := ts.length = l.length ∧ ∀ (i : Nat) (t : Addr) (X : S2), ts[i]? = some t → l[i]? = some X → StateAt K H t X
theorem StsAt.same {K H H' ts l} (h : StsAt K H ts l) (s : Same H H') : StsAt K H' ts l := ⟨h.1, fun i t X a b => (h.2 i t X a b).same s⟩
theorem StateAt.put {K H s S p xs o} (h : StateAt K H s S) (hp : H p = some (.lst xs)) : StateAt K (upd H p o) s S := by
  obtain ⟨r, b, h1, h2, h3⟩ := h
  exact ⟨r, b, (But.upd (But.refl _ _) o).tup hp h1, (But.upd (But.refl _ _) o).tup hp h2, (But.upd (But.refl _ _) o).tup hp h3⟩
theorem StsAt.put {K H ts l p xs o} (h : StsAt K H ts l) (hp : H p = some (.lst xs)) : StsAt K (upd H p o) ts l := ⟨h.1, fun i t X a b => (h.2 i t X a b).put hp⟩
theorem StsAt.app {K : PySem.W.Frag} {H : Hp} {ts : List Addr} {l : List S2} {t : Addr} {X : S2} (h : StsAt K H ts l) (ht : StateAt K H t X) : StsAt K H (ts ++ [t]) (l ++ [X]) := by
  refine ⟨by rw [List.length_append, List.length_append, h.1]; rfl, fun i a b e1 e2 => ?_⟩
  by_cases hi : i < ts.length
  · rw [List.getElem?_append_left hi] at e1
    rw [List.getElem?_append_left (by rw [← h.1]; exact hi)] at e2
    exact h.2 i a b e1 e2
  · rw [List.getElem?_append_right (by omega)] at e1
    rw [List.getElem?_append_right (by rw [← h.1]; omega), ← h.1] at e2
    generalize i - ts.length = j at e1 e2
    match j with
    | 0 =>
      cases e1
      cases e2
      exact ht
    | j + 1 => simp at e1
theorem dp_sts {K : PySem.W.Frag} {H : Hp} : ∀ (ts : List Addr) (l : List S2), StsAt K H ts l → DpAll K H (ts.map V.ref) (l.map dS)
  | [], [], _ => .nil
  | [], _ :: _, h => by have := h.1; simp at this
  | _ :: _, [], h => by have := h.1; simp at this
  | t :: ts, x :: l, h => .cons (dp_S (h.2 0 t x rfl rfl)) (dp_sts ts l ⟨by have := h.1; simpa using this, fun i t' x' a b => h.2 (i + 1) t' x' a b⟩)
theorem alike_S (A B : S2) : alike (dS A) (dS B) = true := by
  simp only [dS, alike, alikeAll, alike_is, Bool.and_self]
theorem dS_depth (A : S2) : (dS A).depth ≤ 60 := by
  have h1 := dIs_depth A.1
  have h2 := dIs_depth A.2
  simp only [dS, PyData.depth, PyData.depthAll]
  omega
def spPrevL (K : PySem.W.Frag) : Sp := fun vs H Q _ => ∃ (a s : Addr) (n : Nat) (ds : List (Nat × Nat)) (S : S2), vs = [.ref a, .ref s] ∧ HouseAt K H a ds ∧ Tree n ds ∧ n ≤ 60 ∧ StateAt K H s S ∧ StOk n ds S ∧
  ∀ (H' : Hp) (q : Addr) (ts : List Addr), Same H H' → H q = none → H' q = some (.lst (ts.map V.ref)) → StsAt K H' ts (prevs ds S) → Q (.ref q) H'
theorem befs_len (S : S2) (x : Lm) : (befs S x).length ≤ S.1.length := by
  unfold befs
  have h := List.length_filter_le (fun b => decide (b ≠ x.2.2)) (List.range S.1.length)
  rw [List.length_range] at h
  rw [List.length_map]
  exact h
theorem rawP_len (ds : List (Nat × Nat)) (S : S2) : ∀ k, (rawP ds S k).length ≤ k * S.1.length
  | 0 => Nat.zero_le _
  | k + 1 => by
    have h := rawP_len ds S k
    have e : rawP ds S (k + 1) = rawP ds S k ++ (lmOf (ds.getD k (0, 0)) S k (S.2.getD k 0)).flatMap (befs S) := by
      show (lms ds S k ++ lmOf (ds.getD k (0, 0)) S k (S.2.getD k 0)).flatMap (befs S) = _
      rw [List.flatMap_append]
      rfl
    have h2 : ((lmOf (ds.getD k (0, 0)) S k (S.2.getD k 0)).flatMap (befs S)).length ≤ S.1.length := by
      unfold lmOf
      split
      · simp only [List.flatMap_cons, List.flatMap_nil, List.append_nil]
        exact befs_len _ _
      · exact Nat.zero_le _
    rw [e, List.length_append, Nat.succ_mul]
    omega
section
variable {P : Program} {w : World} {K : PySem.W.Frag}
      {mg : Str → Option Value} {base : Heap}
theorem ok_l_previous (T : Bl mg) (D : Def K mg "_law_previous" s_l_previous) : Cal P w K mg base "_law_previous" ["_law_layout", "_law_situation"] 1 (spPrevL K) := by
  refine D.ok sc_l_previous (fun _ _ _ _ _ _ us hl => match us, hl with | [_, _], _ => rfl) (fun vs H Q E h => ?_) (fun f cdv A outer s0 H vs Q E hr h => ?_)
  · obtain ⟨a, s, n, ds, S, rfl, _⟩ := h
    rfl
  obtain ⟨a, s, n, ds, S, rfl, hH, tree, hn, st, ok, q⟩ := h
  obtain ⟨rs, hrs, hlen, hds⟩ := id hH
  obtain ⟨r, b, h1, h2, h3⟩ := id st
  have hdn := tree.len
  have few := ok.few
  have drs := ok.doors
  refine ⟨_, (pss_cons (ps_asg (pv 1) (pg_tup (n := 2) rfl (pgs_cons (pg_name (i := 2) sc_l_previous.nd rfl (.inl rfl)) (pgs_cons (pg_name (i := 3) sc_l_previous.nd rfl (.inl rfl)) pgs_nil))))
    (pss_cons (ps_set (i := 4) sc_l_previous.nd rfl (.inl rfl) (pe_lst pa_nil))
    (pss_cons (ps_for PassesOwn.never rfl (pi_enumT (by rfl) T.enumerate (pa_cons (pv 0) pa_nil)) (pg_tup (n := 2) rfl (pgs_cons (pg_name (i := 5) sc_l_previous.nd rfl (.inl rfl)) (pgs_cons (pg_tup (n := 2) rfl (pgs_cons (pg_name (i := 6) sc_l_previous.nd rfl (.inl rfl)) (pgs_cons (pg_name (i := 7) sc_l_previous.nd rfl (.inl rfl)) pgs_nil))) pgs_nil)))
    (pss_cons (ps_set (i := 8) sc_l_previous.nd rfl (.inl rfl) (pe_ix ix_tup (pv 3) (pv 5) (fun _ _ => rfl)))
    (pss_one (ps_if (pt_cmpR op_in_seq (pe_ix ix_tup (pv 2) (pv 8) (fun _ _ => rfl)) (pe_tup (pa_cons (pv 6) (pa_cons (pv 7) pa_nil))) (by rfl)) (pss_cons (ps_set (i := 9) sc_l_previous.nd rfl (.inl rfl) (pe_ix ix_list (pe_lst (pa_cons (pv 6) (pa_cons (pv 7) pa_nil))) (pe_callTy call_int1 (by rfl) T.int (by decide +kernel) (pa_cons (pe_cmpR op_eq (pe_ix ix_tup (pv 2) (pv 8) (fun _ _ => rfl)) (pv 6) (nomark _)) pa_nil)) (fun _ _ => rfl)))
    (pss_cons (ps_set (i := 10) sc_l_previous.nd rfl (.inl rfl) (pe_op op_catA (pe_op op_catA (pe_slice sl_tup (pv 2) po_none (po_some (pv 8))) (pe_tup (pa_cons (pv 9) pa_nil))) (pe_slice sl_tup (pv 2) (po_some (pe_op op_add (pv 8) pe_int)) po_none)))
    (pss_one (ps_for PassesOwn.never rfl (pi_range1 rfl T.range (pa_cons (pe_callB call_len_seq (by rfl) T.len PySem.boot_len (pa_cons (pv 2) pa_nil)) pa_nil)) (pg_name (i := 11) sc_l_previous.nd rfl (.inl rfl))
    (pss_one (ps_if (pt_cmpR op_ne (pv 11) (pv 8) (nomark _)) (pss_one (ps_expr (pe_bm PySem.F.plainAttrs_list PySem.F.slot_list_append PySem.F.type_list_append mt_append (pv 4) (pa_cons (pe_tup (pa_cons (pv 10) (pa_cons (pe_op op_catA (pe_op op_catA (pe_slice sl_tup (pv 3) po_none (po_some (pv 5))) (pe_tup (pa_cons (pv 11) pa_nil))) (pe_slice sl_tup (pv 3) (po_some (pe_op op_add (pv 5) pe_int)) po_none)) pa_nil))) pa_nil)))) pss_nil)))))) pss_nil))))
    (pss_one (ps_ret (pe_callB (cr_sortedD hr.units) (by rfl) T.sorted (by decide +kernel) (pa_cons (pv 4) pa_nil))))))), ?_⟩
  refine ⟨_, rfl, _, _, rfl, h1, rfl, _, _, rfl, _, _, rfl, rfl, ?_⟩
  refine ⟨Nat.zero_le _, fun pm npm => ?_⟩
  refine ⟨_, rfl, a, _, rfl, (Same.upd npm).tup hrs, ?_⟩
  refine for_it (walk_enumT (K := K) (a := a) (xs := rs.map V.ref)) (fun k σ H2 => ∃ (ts : List Addr) (y5 y6 y7 y8 y9 y10 y11 : Option V), σ = [some (.ref a), some (.ref s), some (.ref r), some (.ref b), some (.ref pm), y5, y6, y7, y8, y9, y10, y11] ∧ Same H H2 ∧ H2 pm = some (.lst (ts.map V.ref)) ∧ StsAt K H2 ts (rawP ds S k))
    ⟨[], _, _, _, _, _, _, _, rfl, Same.upd npm, upd_same, rfl, fun i t x e => by simp at e⟩ (fun i σ H1 _ ⟨_, _, _, _, _, _, _, _, _, sm, _⟩ => sm.tup hrs) ?_ ?_
  · rintro k x σ H2 H3 hk ⟨ts, y5, y6, y7, y8, y9, y10, y11, rfl, s2, hpm, la⟩ ⟨t, x1, x2, rfl, nt, rfl, ex1, ex2⟩
    cases ex1
    have hk' : k < ds.length := by
      rw [List.length_map, hlen] at hk
      exact hk
    obtain ⟨e, he⟩ : ∃ e, ds[k]? = some e := get_of rfl hk'
    obtain ⟨r1, hr0⟩ : ∃ r, rs[k]? = some r := get_of hlen hk'
    have ex2' : V.ref r1 = x2 := by
      have ex2 : (rs.map V.ref)[k]? = some x2 := ex2
      rw [List.getElem?_map, hr0] at ex2
      exact Option.some.inj ex2
    subst ex2'
    obtain ⟨p, hp⟩ : ∃ p, S.2[k]? = some p := get_of ok.doors hk'
    have lp := ok.bars p (List.mem_of_getElem? hp)
    obtain ⟨rm, hrm⟩ : ∃ x, S.1[p]? = some x := get_of rfl lp
    have eg : ds.getD k (0, 0) = e := by rw [List.getD_eq_getElem?_getD, he]; rfl
    have ep : S.2.getD k 0 = p := by rw [List.getD_eq_getElem?_getD, hp]; rfl
    have er : S.1.getD p 0 = rm := by rw [List.getD_eq_getElem?_getD, hrm]; rfl
    have smt : Same H2 (upd H2 t (.tup [.int (k : Nat), .ref r1])) := Same.upd nt
    have s3 := s2.trans smt
    have hpm3 := smt _ _ hpm
    have la3 := la.same smt
    have nx : rawP ds S (k + 1) = rawP ds S k ++ (lmOf e S k p).flatMap (befs S) := by
      show (lms ds S k ++ lmOf (ds.getD k (0, 0)) S k (S.2.getD k 0)).flatMap (befs S) = _
      rw [eg, ep, List.flatMap_append]
      rfl
    refine ⟨t, _, rfl, SqT.of upd_same, rfl, _, _, rfl, _, _, rfl, ⟨r1, _, rfl, s3.tup (hds k r1 e hr0 he), rfl, _, _, rfl, _, _, rfl, rfl, rfl, ?_⟩⟩
    generalize upd H2 t (.tup [.int (k : Nat), .ref r1]) = H4 at s3 hpm3 la3
    refine ⟨_, rfl, _, rfl, b, _, _, _, rfl, rfl, s3.tup h3, nv_at hp, ?_⟩
    refine ⟨_, rfl, _, rfl, r, _, _, _, rfl, rfl, s3.tup h2, nv_at hrm, _, rfl, _, rfl, by show 2 ≤ sizeLine; decide, fun t2 nt2 => ?_⟩
    have st2 := Same.upd (o := .tup [.int (e.1 : Int), .int (e.2 : Int)]) nt2
    have s5 := s3.trans st2
    have hpm5 := st2 _ _ hpm3
    have la5 := la3.same st2
    refine ⟨t2, _, rfl, .inr (SqT.of upd_same), rfl, rfl, _, rfl, ?_⟩
    generalize upd H4 t2 (.tup [.int (e.1 : Int), .int (e.2 : Int)]) = H5 at s5 hpm5 la5
    show if inV (V.int (rm : Int)) [.int (e.1 : Int), .int (e.2 : Int)] = true then _ else _
    have din : inV (V.int (rm : Int)) [.int (e.1 : Int), .int (e.2 : Int)] = decide (rm = e.1 ∨ rm = e.2) := by
      rw [in_pair, ← Bool.decide_or, decide_eq_decide]
      omega
    rw [din]
    by_cases near : rm = e.1 ∨ rm = e.2
    case neg =>
      rw [decide_eq_false near]
      refine iteF ⟨ts, _, _, _, _, _, _, _, rfl, s5, hpm5, ?_⟩
      have : lmOf e S k p = [] := by
        unfold lmOf
        rw [er, if_neg near]
      rw [nx, this, List.flatMap_nil, List.append_nil]
      exact la5
    rw [decide_eq_true near]
    have lm1 : lmOf e S k p = [(S.1.set p (oth e rm), k, p)] := by
      unfold lmOf
      rw [er, if_pos near]
    refine iteT ⟨_, rfl, _, rfl, by show 2 ≤ sizeLine; decide, fun pl npl => ?_⟩
    have spl := Same.upd (o := .lst [V.int (e.1 : Int), V.int (e.2 : Int)]) npl
    refine ⟨_, rfl, _, rfl, r, _, _, _, rfl, rfl, spl.tup (s5.tup h2), nv_at hrm, _, rfl, rfl, .inr ⟨_, rfl, pl, _, _, V.int ((oth e rm : Nat) : Int), rfl, rfl, SqL.of upd_same, ?_, ?_⟩⟩
    · unfold oth
      by_cases c : rm = e.1
      · rw [if_pos c, if_pos (decide_eq_true (congrArg (fun z : Nat => V.int (z : Int)) c))]
        rfl
      · rw [if_neg c, if_neg (by rw [decide_eq_false (fun z => c (by have := V.int.inj z; omega))]; simp)]
        rfl
    have s6 := s5.trans spl
    have hpm6 := spl _ _ hpm5
    have la6 := la5.same spl
    generalize upd H5 pl (.lst [V.int (e.1 : Int), V.int (e.2 : Int)]) = H6 at s6 hpm6 la6
    refine cut3 (K := K) (L := S.1) (d := p) (v := oth e rm) rfl rfl rfl (s6.tup h2) lp (by omega) fun H7 q7 s7 h7 => ?_
    have s17 := s6.trans s7
    refine ⟨_, rfl, r, _, rfl, .inr (s17.tup h2), ((S.1.length : Nat) : Int), congrArg (fun z : Nat => [V.int (z : Int)]) (nv_len _), by omega, by omega, ?_⟩
    refine for_range (lo := 0) (n := S.1.length) (fun j σ H8 => ∃ (ts2 : List Addr) (y11 : Option V), σ = [some (.ref a), some (.ref s), some (.ref r), some (.ref b), some (.ref pm), some (.int (k : Int)), some (.int (e.1 : Int)), some (.int (e.2 : Int)), some (.int (p : Int)), some (.int ((oth e rm : Nat) : Int)), some (.ref q7), y11] ∧ Same H H8 ∧ SqT K H8 q7 (nv (S.1.set p (oth e rm))) ∧ H8 pm = some (.lst (ts2.map V.ref)) ∧
        StsAt K H8 ts2 (rawP ds S k ++ (((List.range j).filter fun b => decide (b ≠ p)).map fun b => (S.1.set p (oth e rm), S.2.set k b)))) ⟨ts, _, rfl, s17, h7, s7 _ _ hpm6, by simpa using la6.same s7⟩ ?_ ?_
    · rintro j σ H8 hj ⟨ts2, y11, rfl, s8, h8, hp8, la8⟩
      rw [Int.zero_add]
      refine ⟨_, rfl, _, rfl, rfl, _, rfl, ?_⟩
      by_cases c : j = p
      · rw [decide_eq_true (congrArg (fun z : Nat => V.int (z : Int)) c)]
        refine iteF ⟨ts2, _, rfl, s8, h8, hp8, ?_⟩
        have e1 : [j].filter (fun b => decide (b ≠ p)) = [] := by simp [c]
        rw [List.range_succ, List.filter_append, e1, List.append_nil]
        exact la8
      · rw [decide_eq_false (show ¬ V.int (j : Int) = V.int (p : Int) from fun z => c (by have := V.int.inj z; omega))]
        have hkl : k < S.2.length := by omega
        refine iteT ⟨_, rfl, .inl ⟨rfl, _, SqL.of hp8⟩, _, rfl, ?_⟩
        refine cut3 (K := K) (L := S.2) (d := k) (v := j) rfl rfl rfl (s8.tup h3) hkl (by omega) fun H9 q9 s9 h9 => ?_
        refine ⟨by show 2 ≤ sizeLine; decide, fun t4 nt4 => ?_⟩
        have st4 := Same.upd (o := .tup [.ref q7, .ref q9]) nt4
        have s10 := (s8.trans s9).trans st4
        have hp10 := st4 _ _ (s9 _ _ hp8)
        have la10 := ((la8.same s9).same st4).app (X := (S.1.set p (oth e rm), S.2.set k j)) ⟨q7, q9, SqT.of upd_same, st4.tup (s9.tup h8), st4.tup h9⟩
        have h10 := st4.tup (s9.tup h8)
        generalize upd H9 t4 (.tup [.ref q7, .ref q9]) = HA at s10 hp10 la10 h10
        have ll := rawP_len ds S k
        have l2 := la8.1
        rw [List.length_append, List.length_map] at l2
        have l3 := List.length_filter_le (fun b => decide (b ≠ p)) (List.range j)
        rw [List.length_range] at l3
        have l4 : k * S.1.length ≤ 60 * 10 := Nat.mul_le_mul (by omega) few
        refine ⟨pm, _, _, rfl, rfl, hp10, by rw [List.length_map]; exact small1000 (by omega), ?_⟩
        refine ⟨ts2 ++ [t4], _, rfl, s10.at npm, (But.upd (But.refl _ _) _).tup hp10 h10, by rw [upd_same, List.map_append]; rfl, ?_⟩
        have e1 : [j].filter (fun b => decide (b ≠ p)) = [j] := by simp [c]
        rw [List.range_succ, List.filter_append, e1, List.map_append, ← List.append_assoc]
        exact la10.put hp10
    · rintro σ H8 ⟨ts2, y11, rfl, s8, h8, hp8, la8⟩
      refine ⟨ts2, _, _, _, _, _, _, _, rfl, s8, hp8, ?_⟩
      rw [nx, lm1, List.flatMap_cons, List.flatMap_nil, List.append_nil]
      exact la8
  · rintro σ H2 ⟨ts, y5, y6, y7, y8, y9, y10, y11, rfl, s2, hpm, la⟩
    rw [List.length_map, hlen] at la
    refine ⟨_, rfl, pm, ts.map V.ref, (rawP ds S ds.length).map dS, rfl, SqL.of hpm, dp_sts ts _ la, ?_, .inl ?_, ?_, fun p np => ?_⟩
    · intro d hd d' hd'
      obtain ⟨x, _, rfl⟩ := List.mem_map.mp hd
      obtain ⟨y, _, rfl⟩ := List.mem_map.mp hd'
      exact alike_S x y
    · intro d hd
      obtain ⟨x, _, rfl⟩ := List.mem_map.mp hd
      exact ⟨_, _, rfl⟩
    · intro d hd
      obtain ⟨x, _, rfl⟩ := List.mem_map.mp hd
      exact dS_depth x
    · rw [List.zip_map]
      obtain ⟨zl, ez, pz⟩ := perm_of_map _ _ _ (List.mergeSort_perm (List.map (Prod.map V.ref dS) (ts.zip (rawP ds S ds.length))) (dataLe false Prod.snd))
      have pw := sort_pairwise (sortLe_total (listOrd itemOrd) false fun b : V × PyData => keyToks b.2) (List.map (Prod.map V.ref dS) (ts.zip (rawP ds S ds.length)))
      have pw2 : ((List.map (Prod.map V.ref dS) (ts.zip (rawP ds S ds.length))).mergeSort (dataLe false Prod.snd)).Pairwise fun a b => dataLe false Prod.snd a b = true := pw
      rw [ez] at pw2 ⊢
      rw [List.pairwise_map] at pw2
      have sp := Same.upd (o := .lst ((zl.map (Prod.map V.ref dS)).map Prod.fst)) np
      have lz := la.1
      have el : zl.map Prod.snd = prevs ds S := by
        refine prevs_is tree ok ?_ ?_
        · have := pz.map Prod.snd
          rwa [List.map_snd_zip (by rw [lz]; exact Nat.le_refl _)] at this
        · rw [List.pairwise_map]
          exact pw2
      refine q _ p (zl.map Prod.fst) (s2.trans sp) (s2.free np) ?_ ?_
      · rw [upd_same, List.map_map, List.map_map]
        rfl
      · rw [← el]
        refine ⟨by rw [List.length_map, List.length_map], fun i t x e1 e2 => ?_⟩
        rw [List.getElem?_map] at e1 e2
        cases ei : zl[i]? with
        | none => rw [ei] at e1; cases e1
        | some z =>
          rw [ei] at e1 e2
          cases e1
          cases e2
          obtain ⟨j, hj⟩ := List.mem_iff_getElem?.mp (pz.mem_iff.mp (List.mem_of_getElem? ei))
          obtain ⟨j1, j2⟩ := List.getElem?_zip_eq_some.mp hj
          exact (la.2 j z.1 z.2 j1 j2).same sp
end
end K5

namespace K5
open PySem PySem.Spec PyProof.Rows L2
theorem unit65 {k : Nat} {A : Around} (r : Room k A) : A.units + 65 < cLine := by have := r.un; omega
theorem set_back {L : List Nat} {k v w : Nat} (h : L[k]? = some v) : (L.set k w).set k v = L := by
  apply List.ext_getElem?
  intro i
  by_cases c : k = i
  · subst c
    rw [List.getElem?_set_self (by rw [List.length_set]; exact get_lt h), h]
  · rw [List.getElem?_set_ne c, List.getElem?_set_ne c]
theorem lms_mem {ds : List (Nat × Nat)} {S : S2} {x : Lm} {d : Nat} (h : x ∈ lmOf (ds.getD d (0, 0)) S d (S.2.getD d 0)) : ∀ {k : Nat}, d < k → x ∈ lms ds S k
  | 0, hk => absurd hk (Nat.not_lt_zero _)
  | k + 1, hk => by
    show x ∈ lms ds S k ++ lmOf (ds.getD k (0, 0)) S k (S.2.getD k 0)
    rcases Nat.lt_succ_iff_lt_or_eq.mp hk with c | c
    · exact List.mem_append.mpr (.inl (lms_mem h c))
    · subst c
      exact List.mem_append.mpr (.inr h)
/-- the state before a move is among the previous ones -/
theorem bfr_step {n : Nat} {ds : List (Nat × Nat)} {S : S2} {m : Mv} (T : Tree n ds) (o : StOk n ds S) (c : Can ds S m) : ∃ x, x ∈ srtd ds (nxt ds S m) ∧ Bfr (nxt ds S m) S x := by
  obtain ⟨h1, h2, d, j, h3⟩ := c
  have hd : d < S.2.length := by rw [o.doors]; exact joins_lt j
  have ed := dix_is T j
  have dl := joins_lt j
  obtain ⟨e, he⟩ : ∃ e, ds[d]? = some e := get_of rfl dl
  have eg : ds.getD d (0, 0) = e := by rw [List.getD_eq_getElem?_getD, he]; rfl
  obtain ⟨b, hb⟩ : ∃ b, S.2[d]? = some b := get_of rfl hd
  have eb : S.2.getD d 0 = b := by rw [List.getD_eq_getElem?_getD, hb]; rfl
  have n1 : (nxt ds S m).1.getD m.1 0 = m.2.2 := by
    show (S.1.set m.1 m.2.2).getD m.1 0 = _
    rw [List.getD_eq_getElem?_getD, List.getElem?_set_self h1]
    rfl
  have n2 : (nxt ds S m).2.getD d 0 = m.1 := by
    show (S.2.set (dix ds m.2.1 m.2.2) m.1).getD d 0 = _
    rw [ed, List.getD_eq_getElem?_getD, List.getElem?_set_self hd]
    rfl
  obtain ⟨_, _, _, ne⟩ := j.lt T
  have near : m.2.2 = e.1 ∨ m.2.2 = e.2 := by
    rcases j with q | q <;> rw [he] at q <;> cases q
    · exact .inr rfl
    · exact .inl rfl
  have oth1 : oth e m.2.2 = m.2.1 := by
    unfold oth
    rcases j with q | q <;> rw [he] at q <;> cases q
    · rw [if_neg (fun z => ne z.symm)]
    · rw [if_pos rfl]
  refine ⟨(S.1, d, m.1), ?_, ?_, ?_⟩
  · unfold srtd
    rw [List.mem_mergeSort]
    refine lms_mem (d := d) ?_ dl
    rw [eg, n2]
    unfold lmOf
    rw [n1, if_pos near, oth1, List.mem_singleton]
    show (S.1, d, m.1) = ((S.1.set m.1 m.2.2).set m.1 m.2.1, d, m.1)
    rw [set_back h2]
  · show S.2.getD d 0 ≠ m.1
    rw [eb]
    exact fun z => h3 (by rw [hb, z])
  · show S = (S.1, (S.2.set (dix ds m.2.1 m.2.2) m.1).set d (S.2.getD d 0))
    rw [ed, eb, set_back hb]
/-- from each previous state a move leads to the state -/
theorem step_bfr {n : Nat} {ds : List (Nat × Nat)} {S : S2} {x : Lm} {b : Nat} (T : Tree n ds) (o : StOk n ds S) (hx : x ∈ srtd ds S) (hb : b < S.1.length) (ne : b ≠ x.2.2) :
    StOk n ds (x.1, S.2.set x.2.1 b) ∧ ∃ m, Can ds (x.1, S.2.set x.2.1 b) m ∧ nxt ds (x.1, S.2.set x.2.1 b) m = S ∧ x.1.getD m.1 0 ≠ S.1.getD m.1 0 := by
  unfold srtd at hx
  rw [List.mem_mergeSort] at hx
  obtain ⟨dl, ep, hl⟩ := mem_lms hx
  obtain ⟨L, d, p⟩ := x
  obtain ⟨e, he⟩ : ∃ e, ds[d]? = some e := get_of rfl dl
  have eg : ds.getD d (0, 0) = e := by rw [List.getD_eq_getElem?_getD, he]; rfl
  have hd : d < S.2.length := by rw [o.doors]; exact dl
  obtain ⟨p', hp⟩ : ∃ p, S.2[d]? = some p := get_of rfl hd
  have ep' : S.2.getD d 0 = p' := by rw [List.getD_eq_getElem?_getD, hp]; rfl
  have epp : p = p' := ep.trans ep'
  subst epp
  have lp := o.bars p (List.mem_of_getElem? hp)
  obtain ⟨r, hr⟩ : ∃ r, S.1[p]? = some r := get_of rfl lp
  have er : S.1.getD p 0 = r := by rw [List.getD_eq_getElem?_getD, hr]; rfl
  have hl : (L, d, p) ∈ lmOf (ds.getD d (0, 0)) S d p := hl
  rw [eg] at hl
  unfold lmOf at hl
  rw [er] at hl
  by_cases near : r = e.1 ∨ r = e.2
  case neg =>
    rw [if_neg near] at hl
    cases hl
  rw [if_pos near, List.mem_singleton] at hl
  have eL : L = S.1.set p (oth e r) := (Prod.mk.inj hl).1
  subst eL
  have j : Joins ds d (oth e r) r := by
    unfold oth
    rcases near with c | c
    · rw [if_pos c, c]
      exact .inr he
    · by_cases c2 : r = e.1
      · rw [if_pos c2, c2]
        exact .inr he
      · rw [if_neg c2, c]
        exact .inl he
  obtain ⟨lo, _, _, nor⟩ := j.lt T
  have ed := dix_is T j
  refine ⟨⟨?_, ?_, ?_, ?_, ?_⟩, (p, oth e r, r), ⟨?_, ?_, d, j, ?_⟩, ?_, ?_⟩
  · show 1 ≤ (S.1.set p (oth e r)).length
    rw [List.length_set]
    exact o.one
  · show (S.1.set p (oth e r)).length ≤ _
    rw [List.length_set]
    exact o.few
  · intro y hy
    rcases List.mem_or_eq_of_mem_set hy with h | h
    · exact o.rooms y h
    · rw [h]
      exact lo
  · show (S.2.set d b).length = _
    rw [List.length_set]
    exact o.doors
  · intro y hy
    show y < (S.1.set p (oth e r)).length
    rw [List.length_set]
    rcases List.mem_or_eq_of_mem_set hy with h | h
    · exact o.bars y h
    · rw [h]
      exact hb
  · show p < (S.1.set p (oth e r)).length
    rw [List.length_set]
    exact lp
  · show (S.1.set p (oth e r))[p]? = _
    rw [List.getElem?_set_self lp]
  · show (S.2.set d b)[d]? ≠ _
    rw [List.getElem?_set_self hd]
    exact fun z => ne (Option.some.inj z)
  · show ((S.1.set p (oth e r)).set p r, (S.2.set d b).set (dix ds (oth e r) r) p) = S
    rw [ed, set_back hr, set_back hp]
  · show (S.1.set p (oth e r)).getD p 0 ≠ S.1.getD p 0
    rw [er, List.getD_eq_getElem?_getD, List.getElem?_set_self lp]
    exact nor
theorem bef_unbef {b p : Nat} (h : b ≠ p) : bef (unbef b p) p = b := by
  unfold bef unbef
  by_cases c : b < p
  · rw [if_pos c, if_pos c]
  · rw [if_neg c, if_neg (by omega)]
    omega
theorem bef_ne (o p : Nat) : bef o p ≠ p := by
  unfold bef
  split <;> omega
theorem bef_lt {o p m : Nat} (h : o < m) (hp : p < m + 1) : bef o p < m + 1 := by
  unfold bef
  split <;> omega
theorem unbef_lt {b p m : Nat} (h : b < m + 1) (hp : p < m + 1) (ne : b ≠ p) : unbef b p < m := by
  unfold unbef
  split <;> omega
/-- states, one behind the other -/
theorem dSs_lay : ∀ Ss : List S2, PyData.canLayAll0 (Ss.map dS) = true
  | [] => by simp [PyData.canLayAll0]
  | S :: Ss => by simp only [List.map_cons, PyData.canLayAll0, dS, PyData.canLay0, dIs_lay, Bool.true_and, Bool.and_true]; exact dSs_lay Ss
theorem dSs_depth : ∀ Ss : List S2, PyData.depthAll (Ss.map dS) ≤ 10
  | [] => by simp [PyData.depthAll]
  | S :: Ss => by
    have h1 := dSs_depth Ss
    have h2 := dIs_depth S.1
    have h3 := dIs_depth S.2
    simp only [List.map_cons, PyData.depthAll, dS, PyData.depth]
    omega
theorem dSs_shaped (Ss : List S2) : SeqAt.shaped (.list (Ss.map dS)) = true := by
  refine shaped_mk ?_ ?_
  · simp only [PyData.canLay0]
    exact dSs_lay Ss
  · have := dSs_depth Ss
    simp only [PyData.depth]
    omega
end K5

namespace K5
open PySem PySem.Spec PyProof.Rows L2
theorem get_flatMap {α β : Type} (f : α → List β) (m : Nat) (hm0 : 0 < m) : ∀ (l : List α), (∀ x ∈ l, (f x).length = m) → ∀ i, (l.flatMap f)[i]? = (l[i / m]?).bind fun x => (f x)[i % m]?
  | [], _, i => by simp
  | x :: r, h, i => by
    have hx := h x List.mem_cons_self
    rw [List.flatMap_cons]
    by_cases c : i < m
    · rw [List.getElem?_append_left (by omega), Nat.div_eq_of_lt c, Nat.mod_eq_of_lt c]
      rfl
    · have ih := get_flatMap f m hm0 r (fun y hy => h y (List.mem_cons_of_mem _ hy)) (i - m)
      rw [List.getElem?_append_right (by omega), hx, ih]
      have e1 : i / m = (i - m) / m + 1 := by
        rw [Nat.div_eq_sub_div hm0 (by omega)]
      have e2 : i % m = (i - m) % m := Nat.mod_eq_sub_mod (by omega)
      rw [e1, e2, List.getElem?_cons_succ]
theorem len_flatMap {α β : Type} (f : α → List β) (m : Nat) : ∀ (l : List α), (∀ x ∈ l, (f x).length = m) → (l.flatMap f).length = l.length * m
  | [], _ => by simp
  | x :: r, h => by
    rw [List.flatMap_cons, List.length_append, h x List.mem_cons_self, len_flatMap f m r fun y hy => h y (List.mem_cons_of_mem _ hy), List.length_cons, Nat.succ_mul, Nat.add_comm]
theorem srtd_lt {ds : List (Nat × Nat)} {S : S2} {n : Nat} (ok : StOk n ds S) {x : Lm} (hx : x ∈ srtd ds S) : x.2.2 < S.1.length ∧ x.2.1 < ds.length ∧ x.2.2 = S.2.getD x.2.1 0 ∧ x ∈ lms ds S ds.length := by
  unfold srtd at hx
  rw [List.mem_mergeSort] at hx
  obtain ⟨a, b, c⟩ := mem_lms hx
  obtain ⟨p, hp⟩ : ∃ p, S.2[x.2.1]? = some p := get_of ok.doors a
  have ep : x.2.2 = p := by rw [b, List.getD_eq_getElem?_getD, hp]; rfl
  exact ⟨by rw [ep]; exact ok.bars p (List.mem_of_getElem? hp), a, b, hx⟩
theorem befs_is {S : S2} {x : Lm} (h : x.2.2 < S.1.length) : befs S x = (List.range (S.1.length - 1)).map fun o => (x.1, S.2.set x.2.1 (bef o x.2.2)) := by
  unfold befs
  rw [range_but h, List.map_map]
  rfl
theorem prevs_len {ds : List (Nat × Nat)} {S : S2} {n : Nat} (ok : StOk n ds S) : (prevs ds S).length = cnt ds S :=
  len_flatMap _ _ _ fun x hx => by rw [befs_is (srtd_lt ok hx).1, List.length_map, List.length_range]
theorem prevs_get {ds : List (Nat × Nat)} {S : S2} {n : Nat} (ok : StOk n ds S) {i : Nat} {X : S2} (h : (prevs ds S)[i]? = some X) :
    ∃ x, (srtd ds S)[i / (S.1.length - 1)]? = some x ∧ x ∈ srtd ds S ∧ X = (x.1, S.2.set x.2.1 (bef (i % (S.1.length - 1)) x.2.2)) ∧ i % (S.1.length - 1) < S.1.length - 1 := by
  have hi := get_lt h
  rw [prevs_len ok] at hi
  unfold cnt at hi
  have pos : 0 < S.1.length - 1 := Nat.pos_of_ne_zero fun z => by
    rw [z, Nat.mul_zero] at hi
    exact absurd hi (Nat.not_lt_zero _)
  unfold prevs at h
  rw [get_flatMap _ (S.1.length - 1) pos _ (fun x hx => by rw [befs_is (srtd_lt ok hx).1, List.length_map, List.length_range])] at h
  cases e : (srtd ds S)[i / (S.1.length - 1)]? with
  | none => rw [e] at h; cases h
  | some x =>
    rw [e] at h
    have hx := List.mem_of_getElem? e
    have h : (befs S x)[i % (S.1.length - 1)]? = some X := h
    have lm := Nat.mod_lt i pos
    rw [befs_is (srtd_lt ok hx).1, List.getElem?_map, List.getElem?_range lm] at h
    exact ⟨x, rfl, hx, (Option.some.inj h).symm, lm⟩
theorem nodup_srtd (ds : List (Nat × Nat)) (S : S2) : (srtd ds S).Nodup := (List.mergeSort_perm _ _).nodup_iff.mpr (nodup_lms ds S _)
/-- a state one move before, and its number -/
theorem prev_facts {ds : List (Nat × Nat)} {S : S2} {n : Nat} (T : Tree n ds) (ok : StOk n ds S) {i : Nat} {X : S2} (h : (prevs ds S)[i]? = some X) : StOk n ds X ∧ X.1.length = S.1.length ∧ (∃ m, Can ds X m ∧ nxt ds X m = S) ∧
    ∃ x, (srtd ds S)[i / (S.1.length - 1)]? = some x ∧ Bfr S X x ∧ X = (x.1, S.2.set x.2.1 (bef (i % (S.1.length - 1)) x.2.2)) ∧
      ∀ (k : Nat) (y : Lm), (srtd ds S)[k]? = some y → Bfr S X y → y = x ∧ k * (S.1.length - 1) + unbef (X.2.getD y.2.1 0) y.2.2 = i := by
  obtain ⟨x, h1, hx, eX, lm⟩ := prevs_get ok h
  obtain ⟨a1, a2, a3, a4⟩ := srtd_lt ok hx
  have hd : x.2.1 < S.2.length := by rw [ok.doors]; exact a2
  have eb : X.2.getD x.2.1 0 = bef (i % (S.1.length - 1)) x.2.2 := by
    rw [eX, List.getD_eq_getElem?_getD]
    show ((S.2.set x.2.1 _)[x.2.1]?).getD 0 = _
    rw [List.getElem?_set_self hd]
    rfl
  have bl : bef (i % (S.1.length - 1)) x.2.2 < S.1.length := by
    have := bef_lt lm (p := x.2.2) (by omega)
    omega
  obtain ⟨o, m, c1, c2, _⟩ := step_bfr T ok hx bl (bef_ne _ _)
  rw [← eX] at o c1 c2
  have bfr : Bfr S X x := ⟨by rw [eb]; exact bef_ne _ _, by rw [eb]; exact eX⟩
  have ol := o.one
  refine ⟨o, ?_, ⟨m, c1, c2⟩, x, h1, bfr, eX, fun k y hy by_ => ?_⟩
  · have := congrArg (fun Z : S2 => Z.1.length) c2
    simpa [nxt_len] using this
  · have ey : y = x := lms_rooms T ok (srtd_lt ok (List.mem_of_getElem? hy)).2.2.2 a4 (by
      have e1 : X.1 = y.1 := congrArg Prod.fst by_.2
      have e2 : X.1 = x.1 := congrArg Prod.fst bfr.2
      rw [← e1, ← e2])
    subst ey
    have ek : k = i / (S.1.length - 1) := (List.getElem?_inj (get_lt hy) (nodup_srtd ds S)).mp (hy.trans h1.symm)
    refine ⟨rfl, ?_⟩
    have eu : unbef (bef (i % (S.1.length - 1)) y.2.2) y.2.2 = i % (S.1.length - 1) := by
      unfold unbef bef
      by_cases c : i % (S.1.length - 1) < y.2.2
      · rw [if_pos c, if_pos c]
      · rw [if_neg c, if_neg (by omega)]
        omega
    rw [eb, eu, ek, Nat.mul_comm]
    exact Nat.div_add_mod i _
theorem bfr_mem {ds : List (Nat × Nat)} {S X : S2} {n : Nat} (ok : StOk n ds S) (okX : StOk n ds X) (el : X.1.length = S.1.length) {x : Lm} (hx : x ∈ srtd ds S) (h : Bfr S X x) : X ∈ prevs ds S := by
  obtain ⟨a1, a2, a3, a4⟩ := srtd_lt ok hx
  unfold prevs
  rw [List.mem_flatMap]
  refine ⟨x, hx, ?_⟩
  unfold befs
  rw [List.mem_map]
  obtain ⟨b, hb⟩ : ∃ b, X.2[x.2.1]? = some b := get_of okX.doors a2
  have eb : X.2.getD x.2.1 0 = b := by rw [List.getD_eq_getElem?_getD, hb]; rfl
  have lb := okX.bars b (List.mem_of_getElem? hb)
  refine ⟨b, List.mem_filter.mpr ⟨List.mem_range.mpr (by omega), decide_eq_true (by rw [← eb]; exact h.1)⟩, ?_⟩
  rw [← eb]
  exact h.2.symm
theorem bfr_self {ds : List (Nat × Nat)} {S : S2} {n : Nat} (ok : StOk n ds S) {x : Lm} (hx : x ∈ srtd ds S) : ¬ Bfr S S x := fun h => h.1 (srtd_lt ok hx).2.2.1.symm
theorem any_S (X : S2) : ∀ l : List S2, ((l.map dS).any fun z => PyData.eqv z (dS X)) = decide (X ∈ l)
  | [] => by simp
  | A :: r => by
    rw [List.map_cons, List.any_cons, any_S X r, dS_eqv, ← Bool.decide_or, decide_eq_decide, List.mem_cons]
    exact or_congr eq_comm Iff.rfl
theorem StsAt.but {K : PySem.W.Frag} {H H' : Hp} {ts : List Addr} {l : List S2} {g : Addr} {xs : List V} (h : StsAt K H ts l) (hg : H g = some (.lst xs)) (s : But g H H') : StsAt K H' ts l := ⟨h.1, fun i t X a b => (h.2 i t X a b).but hg s⟩
def spHolds (K : PySem.W.Frag) : Sp := fun vs H Q _ => ∃ (g a s : Addr) (b n : Nat) (ds : List (Nat × Nat)) (S : S2), vs = [.ref g, .ref a, .ref s] ∧ GenAt H g b ∧ HouseAt K H a ds ∧ Tree n ds ∧ n ≤ 60 ∧ StateAt K H s S ∧ StOk n ds S ∧ b < 2 ^ 58 ∧ ∀ H', But g H H' → GenAt H' g (b + 4000) → Q (.bl true) H'
section
variable {P : Program} {w : World} {K : PySem.W.Frag}
      {mg : Str → Option Value} {base : Heap}
theorem ok_l_holds (T : Bl mg) (D : Def K mg "_law_holds" s_l_holds) (C_l_previous : Cal P w K mg base "_law_previous" ["_law_layout", "_law_situation"] 1 (spPrevL K)) (C_count_previous : CalK P w K mg base "count_previous" ["house", "state"] 8 (spCount K) ["state", "house"] rev2 rev2)
    (C_previous_at : CalK P w K mg base "previous_at" ["house", "state", "index"] 9 (spPrevAt K) ["index", "state", "house"] rev3 rev3) (C_previous_index : CalK P w K mg base "previous_index" ["house", "state", "previous"] 9 (spPrevIdx K) ["previous", "state", "house"] rev3 rev3)
    (C_l_after_move : Cal P w K mg base "_law_after_move" ["_law_situation", "_law_move"] 1 (spAfter K)) (C_l_moves : Cal P w K mg base "_law_moves" ["_law_layout", "_law_situation"] 1 (spMoves K))
    (C_l_truths_refused : Cal P w K mg base "_law_truths_refused" ["_law_layout", "_law_situation", "_law_before"] 11 (spTruths K)) (C_l_random_state : Cal P w K mg base "_law_random_state" ["_law_generator_here", "_law_layout", "_law_count"] 3 (spRState K))
    (C_l_too_large : Cal P w K mg base "_law_too_large" ["_law_layout", "_law_situation", "_law_number"] 10 (spTooLarge K)) : CalG P w K mg base "_law_holds" ["_law_generator_here", "_law_layout", "_law_situation"] 12 (spHolds K) := by
  refine D.okG sc_l_holds (fun _ _ _ _ _ _ us hl => match us, hl with | [_, _, _], _ => rfl) (fun vs H Q E h => ?_) (fun f cdv A outer s0 H vs Q E hr hq h => ?_)
  · obtain ⟨g, a, s, b, n, ds, S, rfl, _⟩ := h
    rfl
  obtain ⟨g, a, s, b, n, ds, S, rfl, hg, hH, tree, hn, st, ok, hb, qn⟩ := h
  obtain ⟨f_l_previous, fd_l_previous, g_l_previous, k_l_previous, b_l_previous, G_l_previous⟩ := C_l_previous
  obtain ⟨f_count_previous, fd_count_previous, g_count_previous, k_count_previous, b_count_previous, G_count_previous, KB_count_previous⟩ := C_count_previous
  obtain ⟨f_previous_index, fd_previous_index, g_previous_index, k_previous_index, b_previous_index, G_previous_index, KB_previous_index⟩ := C_previous_index
  obtain ⟨f_previous_at, fd_previous_at, g_previous_at, k_previous_at, b_previous_at, G_previous_at, KB_previous_at⟩ := C_previous_at
  obtain ⟨f_l_moves, fd_l_moves, g_l_moves, k_l_moves, b_l_moves, G_l_moves⟩ := C_l_moves
  obtain ⟨f_l_after_move, fd_l_after_move, g_l_after_move, k_l_after_move, b_l_after_move, G_l_after_move⟩ := C_l_after_move
  obtain ⟨f_l_truths_refused, fd_l_truths_refused, g_l_truths_refused, k_l_truths_refused, b_l_truths_refused, G_l_truths_refused⟩ := C_l_truths_refused
  obtain ⟨f_l_random_state, fd_l_random_state, g_l_random_state, k_l_random_state, b_l_random_state, G_l_random_state⟩ := C_l_random_state
  obtain ⟨f_l_too_large, fd_l_too_large, g_l_too_large, k_l_too_large, b_l_too_large, G_l_too_large⟩ := C_l_too_large
  refine ⟨_, (pss_cons (ps_set (i := 3) sc_l_holds.nd rfl (.inl rfl) (pe_callB (call_reprD hq hr.units) (by rfl) T.repr (by decide +kernel) (pa_cons (pe_lst (pa_cons (pv 1) (pa_cons (pv 2) pa_nil))) pa_nil)))
    (pss_cons (ps_set (i := 4) sc_l_holds.nd rfl (.inl rfl) (pe_call G_l_previous (hr.mono (by decide)) (by rfl) g_l_previous k_l_previous b_l_previous .nil pass0 (pa_cons (pv 1) (pa_cons (pv 2) pa_nil))))
    (pss_cons (ps_set (i := 5) sc_l_holds.nd rfl (.inl rfl) (pe_callB call_len_seq (by rfl) T.len PySem.boot_len (pa_cons (pv 4) pa_nil)))
    (pss_cons (ps_if (PW.pt (pw_or (pt_cmpR op_ne (pe_call G_count_previous (hr.mono (by decide)) (by rfl) g_count_previous k_count_previous b_count_previous .nil pass0 (pa_cons (pv 1) (pa_cons (pv 2) pa_nil))) (pv 5) (nomark _)) (pw_or1 (pt_cmpR op_ne (pe_callK0 G_count_previous (hr.mono (by decide)) (by rfl) g_count_previous k_count_previous KB_count_previous pass0 (pk_cons (pv 2) (pk_cons (pv 1) pk_nil))) (pv 5) (nomark _))))) (pss_one (ps_ret pe_bl)) pss_nil)
    (pss_cons (ps_for PassesOwn.never rfl (pi_enum (by rfl) T.enumerate (pa_cons (pv 4) pa_nil)) (pg_tup (n := 2) rfl (pgs_cons (pg_name (i := 6) sc_l_holds.nd rfl (.inl rfl)) (pgs_cons (pg_name (i := 7) sc_l_holds.nd rfl (.inr rfl)) pgs_nil)))
    (pss_cons (ps_if (PW.pt (pw_or (pt_cmpR (op_neD hr.units) (pe_call G_previous_at (hr.mono (by decide)) (by rfl) g_previous_at k_previous_at b_previous_at .nil pass0 (pa_cons (pv 1) (pa_cons (pv 2) (pa_cons (pv 6) pa_nil)))) (pv 7) (nomark _)) (pw_or1 (pt_cmpR op_ne (pe_call G_previous_index (hr.mono (by decide)) (by rfl) g_previous_index k_previous_index b_previous_index .nil pass0 (pa_cons (pv 1) (pa_cons (pv 2) (pa_cons (pv 7) pa_nil)))) (pv 6) (nomark _))))) (pss_one (ps_ret pe_bl)) pss_nil)
    (pss_one (ps_if (pt_cmpR (op_notInD (unit65 hr)) (pv 2) (pe_lc (own := [("_law_move", 8)]) (g := gName 8)  (te := (tCall (spAfter K) [] E0 (tCons (tVar 7) (tCons (tVar 8) tNil)))) rfl sc_l_holds.nd (pi_list (pe_call G_l_moves (hr.mono (by decide)) (by rfl) g_l_moves k_l_moves b_l_moves .nil pass0 (pa_cons (pv 1) (pa_cons (pv 7) pa_nil)))) (blkOk_by (N := N_l_holds) (sc := defScope s_l_holds) (own := [("_law_move", 8)]) (by decide +kernel)) (fun _ _ _ _ _ => (pg_name (i := 8) sc_l_holds.nd rfl (.inl rfl) (.inr rfl))) (fun _ _ _ _ _ => pts_nil) (fun _ _ _ _ _ => (pe_call G_l_after_move (hr.mono (by decide)) (by rfl) g_l_after_move k_l_after_move b_l_after_move .nil pass0 (pa_cons (pv 7) (pa_cons (pv 8) pa_nil))))) (by rfl)) (pss_one (ps_ret pe_bl)) pss_nil))))
    (Evl.pss_cut (ps_if (pt_cmpR (op_neD hr.units) (pv 4) (pe_lst pa_nil) (nomark _)) (pss_cons (ps_if (pt_cmpR op_ne (pe_callK0 G_previous_index (hr.mono (by decide)) (by rfl) g_previous_index k_previous_index KB_previous_index pass0 (pk_cons (pe_ix ix_list (pv 4) (pe_un un_neg pe_int) (fun _ _ => rfl)) (pk_cons (pv 2) (pk_cons (pv 1) pk_nil)))) (pe_op op_sub (pe_callB call_len_seq (by rfl) T.len PySem.boot_len (pa_cons (pv 4) pa_nil)) pe_int) (nomark _)) (pss_one (ps_ret pe_bl)) pss_nil)
    (pss_one (ps_if (pt_cmpR (op_neD hr.units) (pe_callK0 G_previous_at (hr.mono (by decide)) (by rfl) g_previous_at k_previous_at KB_previous_at pass0 (pk_cons pe_int (pk_cons (pv 2) (pk_cons (pv 1) pk_nil)))) (pe_ix ix_list (pv 4) pe_int (fun _ _ => rfl)) (nomark _)) (pss_one (ps_ret pe_bl)) pss_nil))) pss_nil)
    (pss_cons (ps_if (pt_cmpR (op_neD hr.units) (pe_lc (own := [("_law_before", 7)]) (g := gName 7)  (tt := (tNot (tB (tCall (spTruths K) [] E0 (tCons (tVar 1) (tCons (tVar 2) (tCons (tVar 7) tNil))))))) rfl sc_l_holds.nd (pi_list (pe_slice sl_list (pv 4) po_none (po_some pe_int))) (blkOk_by (N := N_l_holds) (sc := defScope s_l_holds) (own := [("_law_before", 7)]) (by decide +kernel)) (fun _ _ _ _ _ => (pg_name (i := 7) sc_l_holds.nd rfl (.inl rfl) (.inr rfl))) (fun _ _ _ _ _ => (pts_one (pt_not (pt_val (pe_call G_l_truths_refused (hr.mono (by decide)) (by rfl) g_l_truths_refused k_l_truths_refused b_l_truths_refused .nil pass0 (pa_cons (pv 1) (pa_cons (pv 2) (pa_cons (pv 7) pa_nil)))))))) (fun _ _ _ _ _ => (pv 7))) (pe_lst pa_nil) (nomark _)) (pss_one (ps_ret pe_bl)) pss_nil)
    (pss_cons (ps_for PassesOwn.never rfl (pi_range1 rfl T.range (pa_cons pe_int pa_nil)) (pg_name (i := 9) sc_l_holds.nd rfl (.inl rfl))
    (pss_cons (ps_set (i := 10) sc_l_holds.nd rfl (.inl rfl) (pe_call G_l_random_state (hr.mono (by decide)) (by rfl) g_l_random_state k_l_random_state b_l_random_state .nil pass0 (pa_cons (pv 0) (pa_cons (pv 1) (pa_cons (pe_callB call_len_seq (by rfl) T.len PySem.boot_len (pa_cons (pe_ix ix_tup (pv 2) pe_int (fun _ _ => rfl)) pa_nil)) pa_nil)))))
    (pss_one (ps_if (PW.pt (pw_and (pt_cmpR (op_notInD (unit65 hr)) (pv 10) (pv 4) (by rfl)) (pw_and1 (pt_cmpR op_notN (pe_call G_previous_index (hr.mono (by decide)) (by rfl) g_previous_index k_previous_index b_previous_index .nil pass0 (pa_cons (pv 1) (pa_cons (pv 2) (pa_cons (pv 10) pa_nil)))) pe_non (nomark _))))) (pss_one (ps_ret pe_bl)) pss_nil))))
    (pss_cons (ps_if (pt_cmpR op_notN (pe_call G_previous_index (hr.mono (by decide)) (by rfl) g_previous_index k_previous_index b_previous_index .nil pass0 (pa_cons (pv 1) (pa_cons (pv 2) (pa_cons (pv 2) pa_nil)))) pe_non (nomark _)) (pss_one (ps_ret pe_bl)) pss_nil)
    (pss_cons (ps_for PassesOwn.never rfl (pi_list (pe_lst (pa_cons (pe_callB call_len_seq (by rfl) T.len PySem.boot_len (pa_cons (pv 4) pa_nil)) (pa_cons (pe_op op_add (pe_callB call_len_seq (by rfl) T.len PySem.boot_len (pa_cons (pv 4) pa_nil)) (pe_op op_powX pe_int pe_int)) (pa_cons (pe_un un_neg pe_int) (pa_cons pe_non (pa_cons pe_bl (pa_cons pe_str (pa_cons (pe_tup (pa_cons pe_int pa_nil)) pa_nil))))))))) (pg_name (i := 11) sc_l_holds.nd rfl (.inl rfl))
    (pss_one (ps_if (pt_not (pt_val (pe_call G_l_too_large (hr.mono (by decide)) (by rfl) g_l_too_large k_l_too_large b_l_too_large .nil pass0 (pa_cons (pv 1) (pa_cons (pv 2) (pa_cons (pv 11) pa_nil)))))) (pss_one (ps_ret pe_bl)) pss_nil)))
    (pss_one (ps_ret (pe_cmpR op_eq (pe_callB (call_reprD hq hr.units) (by rfl) T.repr (by decide +kernel) (pa_cons (pe_lst (pa_cons (pv 1) (pa_cons (pv 2) pa_nil))) pa_nil)) (pv 3) (nomark _)))))))))))))), ?_⟩
  have hdn := tree.len
  have one := ok.one
  have few := ok.few
  have drs := ok.doors
  obtain ⟨gx, hgx⟩ := hg.lst
  obtain ⟨rS, bS, st1, st2, st3⟩ := id st
  refine ⟨_, rfl, _, rfl, by show 2 ≤ sizeLine; decide, fun p1 np1 => ?_⟩
  have s1 := Same.upd (o := .lst [.ref a, .ref s]) np1
  refine ⟨p1, dHS ds S, rfl, dp_HS (SqL.of upd_same) (hH.same s1) (st.same s1), dHS_show tree ok hn, dHS_nodict, dHS_depth, dHS_len tree ok hn, ?_⟩
  generalize upd H p1 (.lst [.ref a, .ref s]) = H1 at s1
  refine ⟨_, rfl, _, rfl, a, s, n, ds, S, rfl, hH.same s1, tree, hn, st.same s1, ok, fun H2 qe ts s2 nqe hqe la => ?_⟩
  have s12 := s1.trans s2
  have nqg : qe ≠ g := (hg.same s1).ne nqe
  have elN : (ts.map V.ref).length = cnt ds S := by rw [List.length_map, la.1, prevs_len ok]
  refine ⟨_, rfl, qe, _, rfl, .inl (SqL.of hqe), ?_⟩
  rw [elN]
  have eqc : V.int (((srtd ds S).length * (S.1.length - 1) : Nat) : Int) = V.int ((cnt ds S : Nat) : Int) := rfl
  refine ⟨_, rfl, _, rfl, a, s, ds, n, S, rfl, hH.same s12, tree, by omega, st.same s12, ok, fun H3 s3 => ⟨_, rfl, rfl, _, rfl, ?_⟩⟩
  rw [decide_eq_true eqc]
  have s13 := s12.trans s3
  refine iteF ⟨_, rfl, _, rfl, a, s, ds, n, S, rfl, hH.same s13, tree, by omega, st.same s13, ok, fun H4 s4 => ⟨_, rfl, rfl, _, rfl, ?_⟩⟩
  rw [decide_eq_true eqc]
  refine iteF ?_
  have s14 := s13.trans s4
  have hqe4 := s4 _ _ (s3 _ _ hqe)
  have la4 := (la.same s3).same s4
  clear s2 s3 s4 s12 s13 hqe la
  refine ⟨_, rfl, qe, _, rfl, SqL.of hqe4, ?_⟩
  refine for_it (walk_enum (K := K) (a := qe) (xs := ts.map V.ref)) (fun k σ H5 => ∃ y6 y7 y8 y9 y10 y11, σ = [some (.ref g), some (.ref a), some (.ref s), some (.str (dHS ds S).shown), some (.ref qe), some (.int ((cnt ds S : Nat) : Int)), y6, y7, y8, y9, y10, y11] ∧ Same H4 H5)
    ⟨_, _, _, _, _, _, rfl, Same.refl _⟩ (fun i σ H5 _ ⟨_, _, _, _, _, _, _, sm⟩ => SqL.of (sm _ _ hqe4)) ?_ ?_
  · rintro k x σ H5 H6 hk ⟨y6, y7, y8, y9, y10, y11, rfl, sm⟩ ⟨t, x1, x2, rfl, nt, rfl, ex1, ex2⟩
    cases ex1
    have hk' : k < (prevs ds S).length := by
      rw [List.length_map, la4.1] at hk
      exact hk
    obtain ⟨tx, htx⟩ : ∃ t, ts[k]? = some t := get_of la4.1 hk'
    obtain ⟨X, hX⟩ : ∃ X, (prevs ds S)[k]? = some X := get_of rfl hk'
    have ex2' : V.ref tx = x2 := by
      have ex2 : (ts.map V.ref)[k]? = some x2 := ex2
      rw [List.getElem?_map, htx] at ex2
      exact Option.some.inj ex2
    subst ex2'
    obtain ⟨okX, elX, ⟨mv, canX, nxX⟩, xl, hxl, bfX, eX, uniq⟩ := prev_facts tree ok hX
    have hkc : k < cnt ds S := by rw [← prevs_len ok]; exact hk'
    have s5 := sm.trans (Same.upd (o := .tup [.int (k : Nat), .ref tx]) nt)
    refine ⟨t, _, rfl, SqT.of upd_same, rfl, _, _, rfl, _, _, rfl, rfl, ?_⟩
    generalize upd H5 t (.tup [.int (k : Nat), .ref tx]) = H7 at s5
    have s17 := s14.trans s5
    have stX := (la4.2 k tx X htx hX).same s5
    refine ⟨_, rfl, _, rfl, _, rfl, a, s, ds, n, k, S, xl, rfl, hH.same s17, tree, by omega, st.same s17, ok, hkc, hxl, fun H8 q8 s8 st8 => ?_⟩
    rw [← eX] at st8
    refine ⟨_, rfl, dS X, dS X, dp_S st8, dp_S (stX.same s8), dS_shaped _, dS_shaped _, _, rfl, ?_⟩
    rw [d_refl (dS_shaped X)]
    have s18 := s17.trans s8
    refine iteF ⟨_, rfl, _, rfl, _, rfl, a, s, tx, ds, n, S, X, rfl, hH.same s18, tree, by omega, st.same s18, ok, stX.same s8, okX, elX, fun H9 s9 no => absurd bfX (no _ _ hxl), fun H9 k' y s9 hy by_ _ => ?_⟩
    obtain ⟨_, ek⟩ := uniq k' y hy by_
    refine ⟨_, rfl, rfl, _, rfl, ?_⟩
    rw [decide_eq_true (congrArg (fun z : Nat => V.int (z : Int)) ek)]
    have s19 := s18.trans s9
    have stX9 := (stX.same s8).same s9
    refine iteF ⟨_, rfl, _, rfl, _, rfl, a, tx, n, ds, X, rfl, hH.same s19, tree, hn, stX9, okX, fun Ha qa ta qs sa nqa hqa ql mem qlen => ⟨qa, rfl, ⟨_, SqL.of hqa⟩, fun pd npd => ?_⟩⟩
    have s1a := s19.trans sa
    refine lc_it (walk_list (K := K) (a := qa) (xs := ta.map V.ref)) (fun i Hb => ∃ fs : List Addr, Same Ha Hb ∧ Hb pd = some (.lst (fs.map V.ref)) ∧ StsAt K Hb fs ((qs.take i).map (stepS X))) ⟨[], Same.upd npd, upd_same, rfl, fun i t x e => by simp at e⟩ (fun i Hb _ ⟨_, sm, _⟩ => SqL.of (sm _ _ hqa)) ?_ ?_
    · rintro i x Hb Hc hi ⟨fs, smb, hpb, sab⟩ ⟨rfl, ex⟩
      have hi' : i < qs.length := by
        rw [List.length_map, ql.1] at hi
        exact hi
      obtain ⟨t1, ht1⟩ : ∃ t, ta[i]? = some t := get_of ql.1 hi'
      obtain ⟨m, hm⟩ : ∃ m, qs[i]? = some m := get_of rfl hi'
      have ex' : V.ref t1 = x := by
        rw [List.getElem?_map, ht1] at ex
        exact Option.some.inj ex
      subst ex'
      have qok := (mem m).mp (List.mem_of_getElem? hm)
      have ml := get_lt qok.1
      have dl := joins_lt qok.2.1
      have dX := okX.doors
      refine ⟨rfl, lcYes ?_⟩
      refine ⟨_, rfl, _, rfl, tx, t1, X, m, rfl, (stX9.same sa).same smb, smb _ _ (ql.2 i t1 m ht1 hm), ml, by omega, by omega, by omega, fun Hd qd sd std => ?_⟩
      have hpd := sd _ _ hpb
      have fl := sab.1
      rw [List.length_map, List.length_take] at fl
      refine ⟨_, hpd, by rw [List.length_map]; exact small1000 (by omega), fs ++ [qd], (smb.trans sd).at npd, by rw [upd_same, List.map_append]; rfl, ?_⟩
      rw [take_succ_get hm, List.map_append]
      exact ((sab.same sd).app std).put hpd
    rintro Hb ⟨fs, smb, hpb, sab⟩
    rw [List.length_map, ql.1, List.take_length] at sab
    have s1b := s1a.trans smb
    refine ⟨dS S, (qs.map (stepS X)).map dS, dp_S (st.same s1b), .lst (SqL.of hpb) (dp_sts fs _ sab), dS_shaped _, dSs_shaped _, _, rfl, ?_⟩
    have yes : (((qs.map (stepS X)).map dS).any fun z => PyData.eqv z (dS S)) = true := by
      refine List.any_eq_true.mpr ⟨dS S, ?_, d_refl (dS_shaped _)⟩
      obtain ⟨c1, c2, d, c3, c4⟩ := canX
      refine List.mem_map.mpr ⟨S, List.mem_map.mpr ⟨(mv.1, mv.2.1, mv.2.2, d), (mem _).mpr ⟨c2, c3, c4⟩, ?_⟩, rfl⟩
      have ed := dix_is tree c3
      rw [← nxX]
      show (X.1.set mv.1 mv.2.2, X.2.set d mv.1) = (X.1.set mv.1 mv.2.2, X.2.set (dix ds mv.2.1 mv.2.2) mv.1)
      rw [ed]
    rw [yes]
    exact iteF ⟨_, _, _, _, _, _, rfl, s5.trans (((s8.trans s9).trans sa).trans smb)⟩
  rintro σ H5 ⟨y6, y7, y8, y9, y10, y11, rfl, s5⟩
  have s15 := s14.trans s5
  have hqe5 := s5 _ _ hqe4
  have la5 := la4.same s5
  clear s5 s14 hqe4 la4
  refine ⟨fun σ H6 => ∃ y6 y7 y8 y9 y10 y11, σ = [some (.ref g), some (.ref a), some (.ref s), some (.str (dHS ds S).shown), some (.ref qe), some (.int ((cnt ds S : Nat) : Int)), y6, y7, y8, y9, y10, y11] ∧ Same H5 H6, ?_, ?_⟩
  · refine ⟨_, rfl, Nat.zero_le _, fun pe npe => ?_⟩
    have s6 := Same.upd (o := .lst []) npe
    refine ⟨.list ((prevs ds S).map dS), .list [], .lst (SqL.of (s6 _ _ hqe5)) (dp_sts ts _ (la5.same s6)), .lst (SqL.of upd_same) .nil, dSs_shaped _, by decide +kernel, _, rfl, ?_⟩
    have e0 : PyData.eqv (.list ((prevs ds S).map dS)) (.list []) = decide (prevs ds S = []) := by
      cases prevs ds S with
      | nil => decide +kernel
      | cons m r =>
        rw [decide_eq_false (by simp)]
        simp only [List.map_cons, PyData.eqv, PyData.eqvAll]
    rw [e0]
    have s16 := s15.trans s6
    have hqe6 := s6 _ _ hqe5
    have la6 := la5.same s6
    generalize upd H5 pe (.lst []) = H6 at s6 s16 hqe6 la6
    by_cases c : prevs ds S = []
    · rw [decide_eq_true c]
      exact iteF ⟨_, _, _, _, _, _, rfl, s6⟩
    rw [decide_eq_false c]
    have pos : 0 < (prevs ds S).length := List.length_pos_iff.mpr c
    obtain ⟨t0, ht0⟩ : ∃ t, ts[0]? = some t := get_of la6.1 pos
    obtain ⟨X0, hX0⟩ : ∃ X, (prevs ds S)[0]? = some X := get_of rfl pos
    obtain ⟨tl, htl⟩ : ∃ t, ts[(prevs ds S).length - 1]? = some t := get_of la6.1 (by omega)
    obtain ⟨Xl, hXl⟩ : ∃ X, (prevs ds S)[(prevs ds S).length - 1]? = some X := get_of rfl (by omega)
    obtain ⟨okl, ell, _, xl, hxl, bfl, eXl, uniq⟩ := prev_facts tree ok hXl
    have stl := la6.2 _ tl Xl htl hXl
    have elt : (ts.map V.ref).length = (prevs ds S).length := by rw [List.length_map, la6.1]
    refine iteT ⟨_, rfl, _, rfl, qe, _, _, V.ref tl, rfl, rfl, SqL.of hqe6, ?_, ?_⟩
    · have e1 : atI (ts.map V.ref) (-1) = some (V.ref tl) := by
        have e2 : (ts.map V.ref)[(prevs ds S).length - 1]? = some (V.ref tl) := by rw [List.getElem?_map, htl]; rfl
        unfold atI ixN
        rw [elt, if_neg (by omega), if_pos (by omega)]
        have e3 : ((-1 : Int) + ((prevs ds S).length : Int)).toNat = (prevs ds S).length - 1 := by omega
        rw [e3]
        exact e2
      exact e1
    refine ⟨_, rfl, _, rfl, a, s, tl, ds, n, S, Xl, rfl, hH.same s16, tree, by omega, st.same s16, ok, stl, okl, ell, fun H7 s7 no => absurd bfl (no _ _ hxl), fun H7 k' y s7 hy by_ _ => ?_⟩
    obtain ⟨_, ek⟩ := uniq k' y hy by_
    have hqe7 := s7 _ _ hqe6
    refine ⟨_, rfl, qe, _, rfl, .inl (SqL.of hqe7), _, _, rfl, rfl, rfl, _, rfl, ?_⟩
    rw [decide_eq_true (show V.int _ = V.int (((ts.map V.ref).length : Int) - 1) from congrArg V.int (by rw [elt]; omega))]
    obtain ⟨ok0, el0, _, x0, hx0, bf0, eX0, uniq0⟩ := prev_facts tree ok hX0
    have s17 := s16.trans s7
    refine iteF ⟨_, rfl, _, rfl, a, s, ds, n, 0, S, x0, rfl, hH.same s17, tree, by omega, st.same s17, ok, by rw [prevs_len ok] at pos; exact pos, hx0, fun H8 q8 s8 st8 => ?_⟩
    rw [← eX0] at st8
    have hqe8 := s8 _ _ hqe7
    refine ⟨_, rfl, qe, _, _, V.ref t0, rfl, rfl, SqL.of hqe8, atI_nat (j := 0) (by rw [List.getElem?_map, ht0]; rfl), dS X0, dS X0, dp_S st8, dp_S (((la6.2 _ t0 X0 ht0 hX0).same s7).same s8), dS_shaped _, dS_shaped _, _, rfl, ?_⟩
    rw [d_refl (dS_shaped X0)]
    exact iteF ⟨_, _, _, _, _, _, rfl, s6.trans (s7.trans s8)⟩
  · rintro σ H6 ⟨y6, y7, y8, y9, y10, y11, rfl, s6⟩
    have s16 := s15.trans s6
    have hqe6 := s6 _ _ hqe5
    have la6 := la5.same s6
    clear s6 s15 hqe5 la5
    refine ⟨_, rfl, _, rfl, qe, _, rfl, SqL.of hqe6, fun pc npc => ⟨_, rfl, ⟨_, SqL.of upd_same⟩, fun pd npd => ?_⟩⟩
    have spc := Same.upd (o := .lst (cutV (ts.map V.ref) none (some 4))) npc
    have hpc : (upd H6 pc (.lst (cutV (ts.map V.ref) none (some 4)))) pc = some (.lst (cutV (ts.map V.ref) none (some 4))) := upd_same
    have s17 := s16.trans spc
    have hqe7 := spc _ _ hqe6
    have la7 := la6.same spc
    generalize upd H6 pc (.lst (cutV (ts.map V.ref) none (some 4))) = H7 at spc hpc s17 hqe7 la7 npd
    have ec : cutV (ts.map V.ref) none (some 4) = (ts.map V.ref).take (min 4 (ts.map V.ref).length) := by
      show ((ts.map V.ref).drop (HT.sIx _ 0 none)).take _ = _
      rw [HT.sIx_none, show (4 : Int) = ((4 : Nat) : Int) from rfl, HT.sIx_nat, List.drop_zero, Nat.sub_zero]
    refine lc_it (walk_list (K := K) (a := pc) (xs := cutV (ts.map V.ref) none (some 4))) (fun i H8 => Same H7 H8 ∧ H8 pd = some (.lst [])) ⟨Same.upd npd, upd_same⟩ (fun i H8 _ h => SqL.of (h.1 _ _ hpc)) ?_ ?_
    · rintro i x H8 H9 hi ⟨sm, hp⟩ ⟨rfl, ex⟩
      rw [ec, List.getElem?_take] at ex
      split at ex
      case isFalse => cases ex
      have hi2 : i < ts.length := by
        have := get_lt ex
        rwa [List.length_map] at this
      obtain ⟨t1, ht1⟩ : ∃ t, ts[i]? = some t := get_of rfl hi2
      rw [List.getElem?_map, ht1] at ex
      cases ex
      obtain ⟨X, hX⟩ : ∃ X, (prevs ds S)[i]? = some X := get_of rfl (by rw [← la7.1]; exact hi2)
      obtain ⟨okX, _⟩ := prev_facts tree ok hX
      have s18 := s17.trans sm
      refine ⟨rfl, _, rfl, _, rfl, _, rfl, a, s, t1, ds, n, S, X, rfl, hH.same s18, tree, by omega, st.same s18, ok, (la7.2 i t1 X ht1 hX).same sm, okX, fun Ha sa => ?_⟩
      exact ⟨_, rfl, iteF ⟨sm.trans sa, sa _ _ hp⟩⟩
    rintro H8 ⟨sm, hp⟩
    have s18 := s17.trans sm
    refine ⟨Nat.zero_le _, fun pe npe => ?_⟩
    have se := Same.upd (o := .lst []) npe
    refine ⟨.list [], .list [], .lst (SqL.of (se _ _ hp)) .nil, .lst (SqL.of upd_same) .nil, by decide +kernel, by decide +kernel, _, rfl, ?_⟩
    rw [show (!PyData.eqv (.list []) (.list [])) = false by decide +kernel]
    refine iteF ?_
    have s19 := s18.trans se
    have hqe9 := se _ _ (sm _ _ hqe7)
    have la9 := (la7.same sm).same se
    generalize upd H8 pe (.lst []) = H9 at se s19 hqe9 la9
    clear sm hp s18 spc hpc s17 hqe7 la7 s16 hqe6 la6
    have g9 := hg.same s19
    refine ⟨4, rfl, by decide, by decide, ?_⟩
    refine for_range (lo := 0) (n := 4) (fun i σ Ha => ∃ y6 y7 y8 y9 y10 y11, σ = [some (.ref g), some (.ref a), some (.ref s), some (.str (dHS ds S).shown), some (.ref qe), some (.int ((cnt ds S : Nat) : Int)), y6, y7, y8, y9, y10, y11] ∧ But g H9 Ha ∧ GenAt Ha g (b + 200 * i))
      ⟨_, _, _, _, _, _, rfl, But.refl _ _, g9⟩ ?_ ?_
    · rintro i σ Ha hi ⟨y6, y7, y8, y9, y10, y11, rfl, bt, ga⟩
      have btA := s19.but.trans bt
      have hHa := hH.but hgx btA
      have sta := st.but hgx btA
      refine ⟨_, rfl, _, rfl, _, rfl, s, _, _, _, rfl, rfl, btA.tup hgx st1, atI_nat (j := 0) rfl, rS, _, rfl, .inr (btA.tup hgx st2), ?_⟩
      refine ⟨g, a, b + 200 * i, S.1.length, n, ds, by rw [nv_len]; rfl, ga, hHa, tree, hn, one, few, by omega, fun Hb so So btb gb sto oko elo => ?_⟩
      obtain ⟨gy, hgy⟩ := g9.lst
      have bt9 := bt.trans btb
      have btB := btA.trans btb
      have hqeb := bt9 _ _ nqg hqe9
      refine ⟨_, rfl, _, rfl, dS So, (prevs ds S).map dS, dp_S sto, .lst (SqL.of hqeb) (dp_sts ts _ (la9.but hgy bt9)), dS_shaped _, dSs_shaped _, _, rfl, ?_⟩
      rw [any_S]
      by_cases c : So ∈ prevs ds S
      · rw [decide_eq_true c]
        exact iteF (iteF ⟨_, _, _, _, _, _, rfl, bt9, gb.mono (by omega)⟩)
      rw [decide_eq_false c]
      refine iteT ⟨_, rfl, _, rfl, _, rfl, a, s, so, ds, n, S, So, rfl, hH.but hgx btB, tree, by omega, st.but hgx btB, ok, sto, oko, elo, fun Hc sc no => ?_, fun Hc k' y sc hy by_ _ => absurd (bfr_mem ok oko elo (List.mem_of_getElem? hy) by_) c⟩
      refine ⟨rfl, _, rfl, iteF ?_⟩
      exact ⟨_, _, _, _, _, _, rfl, bt9.trans sc.but, (gb.same sc).mono (by omega)⟩
    · rintro σ Ha ⟨y6, y7, y8, y9, y10, y11, rfl, bt, ga⟩
      obtain ⟨gy, hgy⟩ := g9.lst
      have btA := s19.but.trans bt
      have hHa := hH.but hgx btA
      have sta := st.but hgx btA
      have hqea := bt _ _ nqg hqe9
      refine ⟨_, rfl, _, rfl, _, rfl, a, s, s, ds, n, S, S, rfl, hHa, tree, by omega, sta, ok, sta, ok, rfl, fun Hb sb no => ?_, fun Hb k' y sb hy by_ _ => absurd by_ (bfr_self ok (List.mem_of_getElem? hy))⟩
      refine ⟨rfl, _, rfl, iteF ?_⟩
      have hqeb := sb _ _ hqea
      have btB := btA.trans sb.but
      have gb := ga.same sb
      refine ⟨_, rfl, qe, _, rfl, .inl (SqL.of hqeb), ?_⟩
      refine ⟨_, rfl, qe, _, rfl, .inl (SqL.of hqeb), _, _, rfl, rfl, by decide +kernel, _, _, rfl, rfl, _, rfl, by show 1 ≤ sizeLine; decide, fun pt npt => ⟨by show 7 ≤ sizeLine; decide, fun pl npl => ?_⟩⟩
      rw [elN]
      have spt := Same.upd (o := .tup [.int 0]) npt
      have ev : ∃ big : Int, (10 : Int) ^ (20 : Int).toNat = big ∧ 0 ≤ big := ⟨_, rfl, by decide +kernel⟩
      obtain ⟨big, hbig, hb0⟩ := ev
      rw [hbig]
      have spl := Same.upd (o := .lst [V.int (cnt ds S : Nat), V.int ((cnt ds S : Nat) + big), V.int (-1), .non, .bl true, .str "0", .ref pt]) npl
      have hpt := spl _ _ ((upd_same : (upd Hb pt (.tup [.int 0])) pt = _))
      have sl := spt.trans spl
      have hpl : (upd (upd Hb pt (.tup [.int 0])) pl (.lst [V.int (cnt ds S : Nat), V.int ((cnt ds S : Nat) + big), V.int (-1), .non, .bl true, .str "0", .ref pt])) pl = some (.lst [V.int (cnt ds S : Nat), V.int ((cnt ds S : Nat) + big), V.int (-1), .non, .bl true, .str "0", .ref pt]) := upd_same
      refine ⟨pl, rfl, ⟨_, SqL.of hpl⟩, ?_⟩
      generalize upd (upd Hb pt (.tup [.int 0])) pl (.lst [V.int (cnt ds S : Nat), V.int ((cnt ds S : Nat) + big), V.int (-1), .non, .bl true, .str "0", .ref pt]) = Hc at hpt sl hpl
      clear spt spl
      have btC := btB.trans sl.but
      have gc := gb.same sl
      refine for_it (walk_list (K := K) (a := pl) (xs := [V.int (cnt ds S : Nat), V.int ((cnt ds S : Nat) + big), V.int (-1), .non, .bl true, .str "0", .ref pt])) (fun i σ Hd => ∃ y6 y7 y8 y9 y10 y11, σ = [some (.ref g), some (.ref a), some (.ref s), some (.str (dHS ds S).shown), some (.ref qe), some (.int ((cnt ds S : Nat) : Int)), y6, y7, y8, y9, y10, y11] ∧ Same Hc Hd)
        ⟨_, _, _, _, _, _, rfl, Same.refl _⟩ (fun i σ Hd _ ⟨_, _, _, _, _, _, _, sm⟩ => SqL.of (sm _ _ hpl)) ?_ ?_
      · rintro i x σ Hd He hi ⟨y6, y7, y8, y9, y10, y11, rfl, sd⟩ ⟨rfl, ex⟩
        have btD := btC.trans sd.but
        have no : NoIx K He (cnt ds S) x := by
          have hm := List.mem_of_getElem? ex
          simp only [List.mem_cons, List.not_mem_nil,
                or_false] at hm
          rcases hm with rfl | rfl | rfl | rfl | rfl | rfl | rfl
          · exact .inl ⟨_, rfl, by omega⟩
          · exact .inl ⟨_, rfl, by omega⟩
          · exact .inl ⟨_, rfl, by omega⟩
          · exact .inr .non
          · exact .inr (.bl _)
          · exact .inr (.str _)
          · exact .inr (.tup (SqT.of (sd _ _ hpt)))
        refine ⟨_, rfl, _, rfl, _, rfl, a, s, ds, n, S, x, rfl, hH.but hgx btD, tree, by omega, st.but hgx btD, ok, no, fun Hf sf => ⟨_, rfl, iteF ?_⟩⟩
        exact ⟨_, _, _, _, _, _, rfl, sd.trans sf⟩
      · rintro σ Hd ⟨y6, y7, y8, y9, y10, y11, rfl, sd⟩
        have btD := btC.trans sd.but
        refine ⟨_, rfl, _, rfl, by show 2 ≤ sizeLine; decide, fun p9 np9 => ?_⟩
        have s9 := Same.upd (o := .lst [.ref a, .ref s]) np9
        refine ⟨p9, dHS ds S, rfl, dp_HS (SqL.of upd_same) ((hH.but hgx btD).same s9) ((st.but hgx btD).same s9), dHS_show tree ok hn, dHS_nodict, dHS_depth, dHS_len tree ok hn, ?_⟩
        refine ⟨_, rfl, rfl, ?_⟩
        rw [decide_eq_true rfl]
        exact qn _ (btD.trans s9.but) (((gc.same sd).same s9).mono (by omega))
end
end K5

namespace K5
open PySem PySem.Spec PyProof.Rows L2
def spLaw (K : PySem.W.Frag) : Sp := fun vs H Q _ => ∃ (a : Addr) (ns : List Int), vs = [.ref a] ∧ SqL K H a (ns.map V.int) ∧ ns.length ≤ 63 ∧ ∀ H', Q (.bl true) H'
theorem dMs_nil (l : List Mv) : PyData.eqv (dMs l) (dMs []) = decide (l = []) := by
  cases l with
  | nil => exact d_refl (dMs_shaped [])
  | cons m r =>
    rw [decide_eq_false (by simp)]
    simp only [dMs, List.map_cons, List.map_nil, PyData.eqv, PyData.eqvAll]
theorem cut_last (xs : List V) (x : V) : cutV (xs ++ [x]) none (some (-1)) = xs := by
  have e : HT.sIx (xs ++ [x]).length (xs ++ [x]).length (some (-1)) = xs.length := by
    show (if (-1 : Int) < 0 then ((-1 : Int) + ((xs ++ [x]).length : Int)).toNat else min (-1 : Int).toNat (xs ++ [x]).length) = _
    rw [if_pos (by decide), List.length_append, List.length_singleton]
    omega
  unfold cutV
  rw [HT.sIx_none, e, List.drop_zero, Nat.sub_zero, List.take_append_of_le_length (Nat.le_refl _), List.take_length]
theorem eq_nil_or_concat {α : Type} (l : List α) : l = [] ∨ ∃ r x, l = r ++ [x] := by
  by_cases h : l = []
  · exact .inl h
  · exact .inr ⟨l.dropLast, l.getLast h, (List.dropLast_concat_getLast h).symm⟩
theorem Run.ok {n : Nat} {ds : List (Nat × Nat)} (T : Tree n ds) : ∀ {l : List Mv} {S S' : S2}, Run ds S l S' → StOk n ds S → StOk n ds S'
  | [], S, S', h, o => by
    have h : S = S' := h
    rw [← h]
    exact o
  | m :: r, S, S', ⟨d, h1, h2⟩, o => Run.ok T h2 (stepS_ok T o h1)
section
variable {P : Program} {w : World} {K : PySem.W.Frag}
      {mg : Str → Option Value} {base : Heap}
theorem ok_law {f0 : Addr} {fd0 : FuncData} (T : Bl mg) (F : Fun K "law" "law" s_law f0 fd0) (C_l_generator : Cal P w K mg base "_law_generator" ["_law_script", "_law_at"] 2 (spGen K)) (C_l_random : Cal P w K mg base "_law_random" ["_law_generator_here", "_law_bound"] 2 spRand)
    (C_l_random_house : Cal P w K mg base "_law_random_house" ["_law_generator_here", "_law_size"] 4 (spHouse K)) (C_l_random_state : Cal P w K mg base "_law_random_state" ["_law_generator_here", "_law_layout", "_law_count"] 3 (spRState K))
    (C_l_random_play : Cal P w K mg base "_law_random_play" ["_law_generator_here", "_law_layout", "_law_situation", "_law_longest"] 3 (spRPlay K)) (C_l_holds : CalG P w K mg base "_law_holds" ["_law_generator_here", "_law_layout", "_law_situation"] 12 (spHolds K))
    (C_l_play : Cal P w K mg base "_law_play" ["_law_layout", "_law_situation", "_law_moves_here"] 2 (spPlay K)) (C_previous_index : Cal P w K mg base "previous_index" ["house", "state", "previous"] 9 (spPrevIdx K)) : FnG P w K mg base 13 f0 fd0 ["_law_script"] (spLaw K) := by
  refine F.okG sc_law (fun vs H Q E h => ?_) (fun cdv A outer s0 H vs Q E hr hq h => ?_)
  · obtain ⟨a, ns, rfl, _⟩ := h
    rfl
  obtain ⟨a, ns, rfl, hs, hns, qn⟩ := h
  obtain ⟨f_l_generator, fd_l_generator, g_l_generator, k_l_generator, b_l_generator, G_l_generator⟩ := C_l_generator
  obtain ⟨f_l_random, fd_l_random, g_l_random, k_l_random, b_l_random, G_l_random⟩ := C_l_random
  obtain ⟨f_l_random_house, fd_l_random_house, g_l_random_house, k_l_random_house, b_l_random_house, G_l_random_house⟩ := C_l_random_house
  obtain ⟨f_l_random_state, fd_l_random_state, g_l_random_state, k_l_random_state, b_l_random_state, G_l_random_state⟩ := C_l_random_state
  obtain ⟨f_l_holds, fd_l_holds, g_l_holds, k_l_holds, b_l_holds, G_l_holds⟩ := C_l_holds
  obtain ⟨f_l_random_play, fd_l_random_play, g_l_random_play, k_l_random_play, b_l_random_play, G_l_random_play⟩ := C_l_random_play
  obtain ⟨f_l_play, fd_l_play, g_l_play, k_l_play, b_l_play, G_l_play⟩ := C_l_play
  obtain ⟨f_previous_index, fd_previous_index, g_previous_index, k_previous_index, b_previous_index, G_previous_index⟩ := C_previous_index
  refine ⟨_, (pss_cons (ps_for PassesOwn.never rfl (pi_range1 rfl T.range (pa_cons pe_int pa_nil)) (pg_name (i := 1) sc_law.nd rfl (.inl rfl))
    (pss_cons (ps_set (i := 2) sc_law.nd rfl (.inl rfl) (pe_call G_l_generator (hr.mono (by decide)) (by rfl) g_l_generator k_l_generator b_l_generator .nil pass0 (pa_cons (pv 0) (pa_cons (pv 1) pa_nil))))
    (pss_cons (ps_set (i := 3) sc_law.nd rfl (.inl rfl) (pe_op op_add pe_int (pe_call G_l_random (hr.mono (by decide)) (by rfl) g_l_random k_l_random b_l_random .nil pass0 (pa_cons (pv 2) (pa_cons (pe_ix ix_list (pe_lst (pa_cons pe_int (pa_cons pe_int (pa_cons pe_int pa_nil)))) (pe_call G_l_random (hr.mono (by decide)) (by rfl) g_l_random k_l_random b_l_random .nil pass0 (pa_cons (pv 2) (pa_cons pe_int pa_nil))) (fun _ _ => rfl)) pa_nil)))))
    (pss_cons (ps_set (i := 4) sc_law.nd rfl (.inl rfl) (pe_call G_l_random_house (hr.mono (by decide)) (by rfl) g_l_random_house k_l_random_house b_l_random_house .nil pass0 (pa_cons (pv 2) (pa_cons (pv 3) pa_nil))))
    (pss_cons (ps_set (i := 5) sc_law.nd rfl (.inl rfl) (pe_call G_l_random_state (hr.mono (by decide)) (by rfl) g_l_random_state k_l_random_state b_l_random_state .nil pass0 (pa_cons (pv 2) (pa_cons (pv 4) (pa_cons (pe_op op_add pe_int (pe_call G_l_random (hr.mono (by decide)) (by rfl) g_l_random k_l_random b_l_random .nil pass0 (pa_cons (pv 2) (pa_cons pe_int pa_nil)))) pa_nil)))))
    (pss_cons (ps_if (pt_not (pt_val (pe_callG G_l_holds (hr.mono (by decide)) hq (by rfl) g_l_holds k_l_holds b_l_holds (pa_cons (pv 2) (pa_cons (pv 4) (pa_cons (pv 5) pa_nil)))))) (pss_one (ps_ret pe_bl)) pss_nil)
    (pss_cons (ps_asg (pe_call G_l_random_play (hr.mono (by decide)) (by rfl) g_l_random_play k_l_random_play b_l_random_play .nil pass0 (pa_cons (pv 2) (pa_cons (pv 4) (pa_cons (pv 5) (pa_cons pe_int pa_nil))))) (pg_unl (n := 2) rfl (pgs_cons (pg_name (i := 6) sc_law.nd rfl (.inl rfl)) (pgs_cons (pg_name (i := 7) sc_law.nd rfl (.inl rfl)) pgs_nil))))
    (pss_one (ps_if (pt_cmpR (op_neD hr.units) (pv 6) (pe_lst pa_nil) (nomark _)) (pss_cons (ps_set (i := 8) sc_law.nd rfl (.inl rfl) (pe_call G_l_play (hr.mono (by decide)) (by rfl) g_l_play k_l_play b_l_play .nil pass0 (pa_cons (pv 4) (pa_cons (pv 5) (pa_cons (pe_slice sl_list (pv 6) po_none (po_some (pe_un un_neg pe_int))) pa_nil)))))
    (pss_one (ps_if (PW.pt (pw_or (pt_not (pt_val (pe_callG G_l_holds (hr.mono (by decide)) hq (by rfl) g_l_holds k_l_holds b_l_holds (pa_cons (pv 2) (pa_cons (pv 4) (pa_cons (pv 7) pa_nil)))))) (pw_or1 (pt_cmpR op_isN (pe_call G_previous_index (hr.mono (by decide)) (by rfl) g_previous_index k_previous_index b_previous_index .nil pass0 (pa_cons (pv 4) (pa_cons (pv 7) (pa_cons (pv 8) pa_nil)))) pe_non (nomark _))))) (pss_one (ps_ret pe_bl)) pss_nil))) pss_nil)))))))))
    (pss_one (ps_ret pe_bl))), ?_⟩
  refine ⟨4, rfl, by decide, by decide, ?_⟩
  refine for_range (lo := 0) (n := 4) (fun i σ H1 => ∃ y1 y2 y3 y4 y5 y6 y7 y8, σ = [some (.ref a), y1, y2, y3, y4, y5, y6, y7, y8] ∧ Same H H1) ⟨_, _, _, _, _, _, _, _, rfl, Same.refl _⟩ ?_ ?_
  · rintro i σ H1 hi ⟨y1, y2, y3, y4, y5, y6, y7, y8, rfl, s1⟩
    rw [Int.zero_add]
    refine ⟨_, rfl, _, rfl, a, ns, i, rfl, s1.seq hs, by omega, fun H2 g s2 ng gen => ?_⟩
    refine ⟨_, rfl, by show 3 ≤ sizeLine; decide, fun pl npl => ?_⟩
    have nplg := gen.ne npl
    have bt3 := (Same.upd (o := .lst [.int 4, .int 12, .int 30]) npl).but (a := g)
    have g3 := gen.at (o := .lst [.int 4, .int 12, .int 30]) nplg
    have hpl : (upd H2 pl (.lst [.int 4, .int 12, .int 30])) pl = some (.lst [.int 4, .int 12, .int 30]) := upd_same
    generalize upd H2 pl (.lst [.int 4, .int 12, .int 30]) = H3 at bt3 g3 hpl
    refine ⟨_, rfl, g, 1000000, 3, rfl, g3, by decide, by decide, by decide, fun H4 v bt4 g4 hv => ?_⟩
    obtain ⟨big, hbig, hb1, hb2⟩ : ∃ big : Nat, ([.int 4, .int 12, .int 30] : List V)[v]? = some (.int (big : Int)) ∧ 0 < big ∧ big ≤ 30 := by
      match v, hv with
      | 0, _ => exact ⟨4, rfl, by decide, by decide⟩
      | 1, _ => exact ⟨12, rfl, by decide, by decide⟩
      | 2, _ => exact ⟨30, rfl, by decide, by decide⟩
    refine ⟨pl, _, _, _, rfl, rfl, SqL.of (bt4 _ _ nplg hpl), atI_nat hbig, g, 1000001, big, rfl, g4, hb1, by omega, by decide, fun H5 u bt5 g5 hu => ?_⟩
    refine ⟨_, _, rfl, rfl, ?_⟩
    have eu : (fun i j : Int => V.int (i + j)) 1 (u : Int) = V.int ((1 + u : Nat) : Int) := congrArg V.int (by omega)
    rw [eu]
    have hn60 : 1 + u ≤ 60 := by omega
    generalize hsz : 1 + u = n at hn60
    have hn0 : 0 < n := by omega
    refine ⟨_, rfl, _, rfl, g, 1000002, n, rfl, g5, hn0, hn60, by decide, fun H6 d ds bt6 g6 ndg hH tree => ?_⟩
    have g6 : GenAt H6 g 1001002 := g6
    obtain ⟨gx, hgx⟩ := g6.lst
    refine ⟨_, rfl, _, rfl, _, rfl, g, 1001002, 6, rfl, g6, by decide, by decide, by decide, fun H7 v2 bt7 g7 hv2 => ⟨_, _, rfl, rfl, ?_⟩⟩
    have hH7 := hH.but hgx bt7
    obtain ⟨gy, hgy⟩ := g7.lst
    refine ⟨g, d, 1001003, 1 + v2, n, ds, congrArg (fun z : Int => [V.ref g, V.ref d, V.int z]) (show (1 : Int) + (v2 : Int) = ((1 + v2 : Nat) : Int) by omega), g7, hH7, tree, hn60, by omega, by omega, by decide, fun H8 st S bt8 g8 sta ok hl => ?_⟩
    have g8 : GenAt H8 g 1001203 := g8
    have hH8 := hH7.but hgy bt8
    obtain ⟨gz, hgz⟩ := g8.lst
    refine ⟨_, rfl, _, rfl, _, rfl, g, d, st, 1001203, n, ds, S, rfl, g8, hH8, tree, hn60, sta, ok, by decide, fun H9 bt9 g9 => ?_⟩
    refine ⟨_, rfl, iteF ?_⟩
    have g9 : GenAt H9 g 1005203 := g9
    have hH9 := hH8.but hgz bt9
    have sta9 := sta.but hgz bt9
    obtain ⟨gw, hgw⟩ := g9.lst
    refine ⟨_, rfl, _, rfl, _, rfl, g, d, st, 1005203, n, 12, ds, S, rfl, g9, hH9, tree, hn60, sta9, ok, by decide, by decide, fun H10 q sl sf l S' bt10 g10 hq trl slg run lenE l40 stf okf => ?_⟩
    have g10 : GenAt H10 g 1005303 := g10
    refine ⟨q, _, rfl, SqL.of hq, rfl, _, _, rfl, _, _, rfl, rfl, ?_⟩
    have hH10 := hH9.but hgw bt10
    have sta10 := sta9.but hgw bt10
    have sall : Same H H10 := s1.trans (But.same s2 ng ((((((((bt3.trans bt4).trans bt5).trans bt6).trans bt7).trans bt8).trans bt9).trans bt10)))
    have ng10 : H g = none := s1.free ng
    clear bt3 bt4 bt5 bt6 bt7 bt8 bt9 bt10 g3 g4 g5 g7
    refine ⟨_, rfl, Nat.zero_le _, fun pe npe => ?_⟩
    have sx := Same.upd (o := .lst []) npe
    have trE : TrisAt (upd H10 pe (.lst [])) pe [] := ⟨[], upd_same, TL.nil⟩
    refine ⟨dMs l, dMs [], dp_Tris (trl.same sx), dp_Tris trE, dMs_shaped _, dMs_shaped _, _, rfl, ?_⟩
    rw [dMs_nil]
    have hHx := hH10.same sx
    have stx := sta10.same sx
    have sfx := stf.same sx
    have gx10 := g10.same sx
    have trx := trl.same sx
    have sallx := sall.trans sx
    generalize upd H10 pe (.lst []) = H11 at sx hHx stx sfx gx10 trx sallx
    by_cases ca : l = []
    · rw [decide_eq_true ca]
      exact iteF ⟨_, _, _, _, _, _, _, _, rfl, sallx⟩
    rw [decide_eq_false ca]
    rcases eq_nil_or_concat l with e0 | ⟨l', m, e0⟩
    · exact absurd e0 ca
    subst e0
    obtain ⟨ta, f1, f2⟩ := id trx
    have lta : ta.length = l'.length + 1 := by rw [f2.1, List.length_append]; rfl
    obtain ⟨ta', tm, eta⟩ : ∃ ta' tm, ta = ta' ++ [tm] := by
      rcases eq_nil_or_concat ta with e | ⟨x, y, e⟩
      · rw [e] at lta
        simp at lta
      · exact ⟨x, y, e⟩
    subst eta
    have f2' : TL H11 ta' l' := ⟨by simpa using lta, fun i t m' h1 h2 => f2.2 i t m' (by rw [List.getElem?_append_left (get_lt h1)]; exact h1) (by rw [List.getElem?_append_left (get_lt h2)]; exact h2)⟩
    refine iteT ⟨_, rfl, _, rfl, _, rfl, _, rfl, _, rfl, sl, _, rfl, SqL.of f1, fun pc npc => ?_⟩
    have spc := Same.upd (o := .lst (cutV ((ta' ++ [tm]).map V.ref) none (some (-1)))) npc
    have ecut : cutV ((ta' ++ [tm]).map V.ref) none (some (-1)) = ta'.map V.ref := by
      rw [List.map_append]
      exact cut_last _ _
    obtain ⟨Sm, dd, run1, qok, eS'⟩ := Run.last run
    have okm : StOk n ds Sm := Run.ok tree run1 ok
    refine ⟨d, st, pc, n, ds, S, Sm, l', rfl, hHx.same spc, tree, hn60, stx.same spc, ok, ⟨ta', by rw [upd_same, ecut], ⟨f2'.1, fun i t m' h1 h2 => spc _ _ (f2'.2 i t m' h1 h2)⟩⟩, run1, fun H12 qp s12 stp => ?_⟩
    have s112 := spc.trans s12
    have g12 := gx10.same s112
    have hH12 := hHx.same s112
    have sf12 := sfx.same s112
    obtain ⟨gv, hgv⟩ := g12.lst
    refine ⟨_, rfl, _, rfl, _, rfl, g, d, sf, 1005303, n, ds, S', rfl, g12, hH12, tree, hn60, sf12, okf, by decide, fun H13 bt13 g13 => ?_⟩
    have hH13 := hH12.but hgv bt13
    have sf13 := sf12.but hgv bt13
    have stp13 := stp.but hgv bt13
    have elm : Sm.1.length = S'.1.length := by
      rw [eS']
      show _ = (Sm.1.set _ _).length
      rw [List.length_set]
    have can : Can ds Sm m := ⟨get_lt qok.1, qok.1, dd, qok.2.1, qok.2.2⟩
    have enx : nxt ds Sm m = S' := by
      have ed := dix_is tree qok.2.1
      rw [eS']
      show (Sm.1.set m.1 m.2.2, Sm.2.set (dix ds m.2.1 m.2.2) m.1) = (Sm.1.set m.1 m.2.2, Sm.2.set dd m.1)
      rw [ed]
    obtain ⟨x, hx, bx⟩ := bfr_step tree okm can
    rw [enx] at hx bx
    obtain ⟨k, hk⟩ := List.mem_iff_getElem?.mp hx
    refine ⟨_, rfl, iteF ⟨_, rfl, _, rfl, _, rfl, d, sf, qp, ds, n, S', Sm, rfl, hH13, tree, by omega, sf13, okf, stp13, okm, elm, fun H14 s14 no => absurd bx (no k x hk), fun H14 k' y s14 hy by_ _ => ⟨rfl, _, rfl, iteF ?_⟩⟩⟩
    exact ⟨_, _, _, _, _, _, _, _, rfl, (But.same (sallx.trans s112) ng10 bt13).trans s14⟩
  · rintro σ H1 ⟨y1, y2, y3, y4, y5, y6, y7, y8, rfl, s1⟩
    exact qn H1
end
end K5

namespace K5
open PySem PySem.Spec PyProof.Rows L2
theorem def_mk {K : PySem.W.Frag} {h : Heap} {mg : Str → Option Value} {x : Str} {st : Stmt} (X : K.In h) (G : h.Ns mainGlobals mg) {f : Addr} {oc : Value} {od an : Option Addr} {osl : Array (Option Value)} {kV doc pm cdv ct : Value} (a : PySem.W.nsIn K mainGlobals x = some (some (.ref f)))
    (l : K.lookup f = some ⟨oc, od, .func (PySem.W.fnOf x x (defArgs st) (defBody st) (defScope st) .none kV doc pm an cdv ct), osl⟩) (c : PySem.W.codeIn K cdv x = true) (k : PySem.W.keepIn K (.ref f) = true) : Def K mg x st :=
  ⟨f, _, fun_mk l c k, PySem.W.mg_of X G a⟩
theorem all_mk {l : PySem.W.OpenLaw} {w : World} {K : PySem.W.Frag} {h : Heap} {mg : Str → Option Value} {fa : Addr} (X : K.In h) (G : h.Ns mainGlobals mg) (hfa : mg "law" = some (.ref fa))
    {f0 : Addr} {od0 an0 : Option Addr} {sl0 : Array (Option Value)} {oc0 kV0 dc0 pm0 cd0 ct0 : Value}
    (a0 : PySem.W.nsIn K mainGlobals "is_whole" = some (some (.ref f0))) (l0 : K.lookup f0 = some ⟨oc0, od0, .func (PySem.W.fnOf "is_whole" "is_whole" (defArgs s_is_whole) (defBody s_is_whole) (defScope s_is_whole) .none kV0 dc0 pm0 an0 cd0 ct0), sl0⟩) (c0 : PySem.W.codeIn K cd0 "is_whole" = true) (k0 : PySem.W.keepIn K (.ref f0) = true)
    {f1 : Addr} {od1 an1 : Option Addr} {sl1 : Array (Option Value)} {oc1 kV1 dc1 pm1 cd1 ct1 : Value}
    (a1 : PySem.W.nsIn K mainGlobals "is_index" = some (some (.ref f1))) (l1 : K.lookup f1 = some ⟨oc1, od1, .func (PySem.W.fnOf "is_index" "is_index" (defArgs s_is_index) (defBody s_is_index) (defScope s_is_index) .none kV1 dc1 pm1 an1 cd1 ct1), sl1⟩) (c1 : PySem.W.codeIn K cd1 "is_index" = true) (k1 : PySem.W.keepIn K (.ref f1) = true)
    {f2 : Addr} {od2 an2 : Option Addr} {sl2 : Array (Option Value)} {oc2 kV2 dc2 pm2 cd2 ct2 : Value}
    (a2 : PySem.W.nsIn K mainGlobals "is_door" = some (some (.ref f2))) (l2 : K.lookup f2 = some ⟨oc2, od2, .func (PySem.W.fnOf "is_door" "is_door" (defArgs s_is_door) (defBody s_is_door) (defScope s_is_door) .none kV2 dc2 pm2 an2 cd2 ct2), sl2⟩) (c2 : PySem.W.codeIn K cd2 "is_door" = true) (k2 : PySem.W.keepIn K (.ref f2) = true)
    {f3 : Addr} {od3 an3 : Option Addr} {sl3 : Array (Option Value)} {oc3 kV3 dc3 pm3 cd3 ct3 : Value}
    (a3 : PySem.W.nsIn K mainGlobals "check_house" = some (some (.ref f3))) (l3 : K.lookup f3 = some ⟨oc3, od3, .func (PySem.W.fnOf "check_house" "check_house" (defArgs s_check_house) (defBody s_check_house) (defScope s_check_house) .none kV3 dc3 pm3 an3 cd3 ct3), sl3⟩) (c3 : PySem.W.codeIn K cd3 "check_house" = true) (k3 : PySem.W.keepIn K (.ref f3) = true)
    {f4 : Addr} {od4 an4 : Option Addr} {sl4 : Array (Option Value)} {oc4 kV4 dc4 pm4 cd4 ct4 : Value}
    (a4 : PySem.W.nsIn K mainGlobals "first_ring" = some (some (.ref f4))) (l4 : K.lookup f4 = some ⟨oc4, od4, .func (PySem.W.fnOf "first_ring" "first_ring" (defArgs s_first_ring) (defBody s_first_ring) (defScope s_first_ring) .none kV4 dc4 pm4 an4 cd4 ct4), sl4⟩) (c4 : PySem.W.codeIn K cd4 "first_ring" = true) (k4 : PySem.W.keepIn K (.ref f4) = true)
    {f5 : Addr} {od5 an5 : Option Addr} {sl5 : Array (Option Value)} {oc5 kV5 dc5 pm5 cd5 ct5 : Value}
    (a5 : PySem.W.nsIn K mainGlobals "find_root" = some (some (.ref f5))) (l5 : K.lookup f5 = some ⟨oc5, od5, .func (PySem.W.fnOf "find_root" "find_root" (defArgs s_find_root) (defBody s_find_root) (defScope s_find_root) .none kV5 dc5 pm5 an5 cd5 ct5), sl5⟩) (c5 : PySem.W.codeIn K cd5 "find_root" = true) (k5 : PySem.W.keepIn K (.ref f5) = true)
    {f6 : Addr} {od6 an6 : Option Addr} {sl6 : Array (Option Value)} {oc6 kV6 dc6 pm6 cd6 ct6 : Value}
    (a6 : PySem.W.nsIn K mainGlobals "need_house" = some (some (.ref f6))) (l6 : K.lookup f6 = some ⟨oc6, od6, .func (PySem.W.fnOf "need_house" "need_house" (defArgs s_need_house) (defBody s_need_house) (defScope s_need_house) .none kV6 dc6 pm6 an6 cd6 ct6), sl6⟩) (c6 : PySem.W.codeIn K cd6 "need_house" = true) (k6 : PySem.W.keepIn K (.ref f6) = true)
    {f7 : Addr} {od7 an7 : Option Addr} {sl7 : Array (Option Value)} {oc7 kV7 dc7 pm7 cd7 ct7 : Value}
    (a7 : PySem.W.nsIn K mainGlobals "has_state_shape" = some (some (.ref f7))) (l7 : K.lookup f7 = some ⟨oc7, od7, .func (PySem.W.fnOf "has_state_shape" "has_state_shape" (defArgs s_has_state_shape) (defBody s_has_state_shape) (defScope s_has_state_shape) .none kV7 dc7 pm7 an7 cd7 ct7), sl7⟩) (c7 : PySem.W.codeIn K cd7 "has_state_shape" = true) (k7 : PySem.W.keepIn K (.ref f7) = true)
    {f8 : Addr} {od8 an8 : Option Addr} {sl8 : Array (Option Value)} {oc8 kV8 dc8 pm8 cd8 ct8 : Value}
    (a8 : PySem.W.nsIn K mainGlobals "check_state" = some (some (.ref f8))) (l8 : K.lookup f8 = some ⟨oc8, od8, .func (PySem.W.fnOf "check_state" "check_state" (defArgs s_check_state) (defBody s_check_state) (defScope s_check_state) .none kV8 dc8 pm8 an8 cd8 ct8), sl8⟩) (c8 : PySem.W.codeIn K cd8 "check_state" = true) (k8 : PySem.W.keepIn K (.ref f8) = true)
    {f9 : Addr} {od9 an9 : Option Addr} {sl9 : Array (Option Value)} {oc9 kV9 dc9 pm9 cd9 ct9 : Value}
    (a9 : PySem.W.nsIn K mainGlobals "need_state" = some (some (.ref f9))) (l9 : K.lookup f9 = some ⟨oc9, od9, .func (PySem.W.fnOf "need_state" "need_state" (defArgs s_need_state) (defBody s_need_state) (defScope s_need_state) .none kV9 dc9 pm9 an9 cd9 ct9), sl9⟩) (c9 : PySem.W.codeIn K cd9 "need_state" = true) (k9 : PySem.W.keepIn K (.ref f9) = true)
    {f10 : Addr} {od10 an10 : Option Addr} {sl10 : Array (Option Value)} {oc10 kV10 dc10 pm10 cd10 ct10 : Value}
    (a10 : PySem.W.nsIn K mainGlobals "need_state_of_as_many" = some (some (.ref f10))) (l10 : K.lookup f10 = some ⟨oc10, od10, .func (PySem.W.fnOf "need_state_of_as_many" "need_state_of_as_many" (defArgs s_need_state_of_as_many) (defBody s_need_state_of_as_many) (defScope s_need_state_of_as_many) .none kV10 dc10 pm10 an10 cd10 ct10), sl10⟩) (c10 : PySem.W.codeIn K cd10 "need_state_of_as_many" = true) (k10 : PySem.W.keepIn K (.ref f10) = true)
    {f11 : Addr} {od11 an11 : Option Addr} {sl11 : Array (Option Value)} {oc11 kV11 dc11 pm11 cd11 ct11 : Value}
    (a11 : PySem.W.nsIn K mainGlobals "replaced" = some (some (.ref f11))) (l11 : K.lookup f11 = some ⟨oc11, od11, .func (PySem.W.fnOf "replaced" "replaced" (defArgs s_replaced) (defBody s_replaced) (defScope s_replaced) .none kV11 dc11 pm11 an11 cd11 ct11), sl11⟩) (c11 : PySem.W.codeIn K cd11 "replaced" = true) (k11 : PySem.W.keepIn K (.ref f11) = true)
    {f12 : Addr} {od12 an12 : Option Addr} {sl12 : Array (Option Value)} {oc12 kV12 dc12 pm12 cd12 ct12 : Value}
    (a12 : PySem.W.nsIn K mainGlobals "last_moves" = some (some (.ref f12))) (l12 : K.lookup f12 = some ⟨oc12, od12, .func (PySem.W.fnOf "last_moves" "last_moves" (defArgs s_last_moves) (defBody s_last_moves) (defScope s_last_moves) .none kV12 dc12 pm12 an12 cd12 ct12), sl12⟩) (c12 : PySem.W.codeIn K cd12 "last_moves" = true) (k12 : PySem.W.keepIn K (.ref f12) = true)
    {f13 : Addr} {od13 an13 : Option Addr} {sl13 : Array (Option Value)} {oc13 kV13 dc13 pm13 cd13 ct13 : Value}
    (a13 : PySem.W.nsIn K mainGlobals "count_previous" = some (some (.ref f13))) (l13 : K.lookup f13 = some ⟨oc13, od13, .func (PySem.W.fnOf "count_previous" "count_previous" (defArgs s_count_previous) (defBody s_count_previous) (defScope s_count_previous) .none kV13 dc13 pm13 an13 cd13 ct13), sl13⟩) (c13 : PySem.W.codeIn K cd13 "count_previous" = true) (k13 : PySem.W.keepIn K (.ref f13) = true)
    {f14 : Addr} {od14 an14 : Option Addr} {sl14 : Array (Option Value)} {oc14 kV14 dc14 pm14 cd14 ct14 : Value}
    (a14 : PySem.W.nsIn K mainGlobals "state_before" = some (some (.ref f14))) (l14 : K.lookup f14 = some ⟨oc14, od14, .func (PySem.W.fnOf "state_before" "state_before" (defArgs s_state_before) (defBody s_state_before) (defScope s_state_before) .none kV14 dc14 pm14 an14 cd14 ct14), sl14⟩) (c14 : PySem.W.codeIn K cd14 "state_before" = true) (k14 : PySem.W.keepIn K (.ref f14) = true)
    {f15 : Addr} {od15 an15 : Option Addr} {sl15 : Array (Option Value)} {oc15 kV15 dc15 pm15 cd15 ct15 : Value}
    (a15 : PySem.W.nsIn K mainGlobals "previous_at" = some (some (.ref f15))) (l15 : K.lookup f15 = some ⟨oc15, od15, .func (PySem.W.fnOf "previous_at" "previous_at" (defArgs s_previous_at) (defBody s_previous_at) (defScope s_previous_at) .none kV15 dc15 pm15 an15 cd15 ct15), sl15⟩) (c15 : PySem.W.codeIn K cd15 "previous_at" = true) (k15 : PySem.W.keepIn K (.ref f15) = true)
    {f16 : Addr} {od16 an16 : Option Addr} {sl16 : Array (Option Value)} {oc16 kV16 dc16 pm16 cd16 ct16 : Value}
    (a16 : PySem.W.nsIn K mainGlobals "previous_index" = some (some (.ref f16))) (l16 : K.lookup f16 = some ⟨oc16, od16, .func (PySem.W.fnOf "previous_index" "previous_index" (defArgs s_previous_index) (defBody s_previous_index) (defScope s_previous_index) .none kV16 dc16 pm16 an16 cd16 ct16), sl16⟩) (c16 : PySem.W.codeIn K cd16 "previous_index" = true) (k16 : PySem.W.keepIn K (.ref f16) = true)
    {f17 : Addr} {od17 an17 : Option Addr} {sl17 : Array (Option Value)} {oc17 kV17 dc17 pm17 cd17 ct17 : Value}
    (a17 : PySem.W.nsIn K mainGlobals "_law_cell" = some (some (.ref f17))) (l17 : K.lookup f17 = some ⟨oc17, od17, .func (PySem.W.fnOf "_law_cell" "_law_cell" (defArgs s_l_cell) (defBody s_l_cell) (defScope s_l_cell) .none kV17 dc17 pm17 an17 cd17 ct17), sl17⟩) (c17 : PySem.W.codeIn K cd17 "_law_cell" = true) (k17 : PySem.W.keepIn K (.ref f17) = true)
    {f18 : Addr} {od18 an18 : Option Addr} {sl18 : Array (Option Value)} {oc18 kV18 dc18 pm18 cd18 ct18 : Value}
    (a18 : PySem.W.nsIn K mainGlobals "_law_hash" = some (some (.ref f18))) (l18 : K.lookup f18 = some ⟨oc18, od18, .func (PySem.W.fnOf "_law_hash" "_law_hash" (defArgs s_l_hash) (defBody s_l_hash) (defScope s_l_hash) .none kV18 dc18 pm18 an18 cd18 ct18), sl18⟩) (c18 : PySem.W.codeIn K cd18 "_law_hash" = true) (k18 : PySem.W.keepIn K (.ref f18) = true)
    {f19 : Addr} {od19 an19 : Option Addr} {sl19 : Array (Option Value)} {oc19 kV19 dc19 pm19 cd19 ct19 : Value}
    (a19 : PySem.W.nsIn K mainGlobals "_law_generator" = some (some (.ref f19))) (l19 : K.lookup f19 = some ⟨oc19, od19, .func (PySem.W.fnOf "_law_generator" "_law_generator" (defArgs s_l_generator) (defBody s_l_generator) (defScope s_l_generator) .none kV19 dc19 pm19 an19 cd19 ct19), sl19⟩) (c19 : PySem.W.codeIn K cd19 "_law_generator" = true) (k19 : PySem.W.keepIn K (.ref f19) = true)
    {f20 : Addr} {od20 an20 : Option Addr} {sl20 : Array (Option Value)} {oc20 kV20 dc20 pm20 cd20 ct20 : Value}
    (a20 : PySem.W.nsIn K mainGlobals "_law_random" = some (some (.ref f20))) (l20 : K.lookup f20 = some ⟨oc20, od20, .func (PySem.W.fnOf "_law_random" "_law_random" (defArgs s_l_random) (defBody s_l_random) (defScope s_l_random) .none kV20 dc20 pm20 an20 cd20 ct20), sl20⟩) (c20 : PySem.W.codeIn K cd20 "_law_random" = true) (k20 : PySem.W.keepIn K (.ref f20) = true)
    {f21 : Addr} {od21 an21 : Option Addr} {sl21 : Array (Option Value)} {oc21 kV21 dc21 pm21 cd21 ct21 : Value}
    (a21 : PySem.W.nsIn K mainGlobals "_law_shuffled" = some (some (.ref f21))) (l21 : K.lookup f21 = some ⟨oc21, od21, .func (PySem.W.fnOf "_law_shuffled" "_law_shuffled" (defArgs s_l_shuffled) (defBody s_l_shuffled) (defScope s_l_shuffled) .none kV21 dc21 pm21 an21 cd21 ct21), sl21⟩) (c21 : PySem.W.codeIn K cd21 "_law_shuffled" = true) (k21 : PySem.W.keepIn K (.ref f21) = true)
    {f22 : Addr} {od22 an22 : Option Addr} {sl22 : Array (Option Value)} {oc22 kV22 dc22 pm22 cd22 ct22 : Value}
    (a22 : PySem.W.nsIn K mainGlobals "_law_random_house" = some (some (.ref f22))) (l22 : K.lookup f22 = some ⟨oc22, od22, .func (PySem.W.fnOf "_law_random_house" "_law_random_house" (defArgs s_l_random_house) (defBody s_l_random_house) (defScope s_l_random_house) .none kV22 dc22 pm22 an22 cd22 ct22), sl22⟩) (c22 : PySem.W.codeIn K cd22 "_law_random_house" = true) (k22 : PySem.W.keepIn K (.ref f22) = true)
    {f24 : Addr} {od24 an24 : Option Addr} {sl24 : Array (Option Value)} {oc24 kV24 dc24 pm24 cd24 ct24 : Value}
    (a24 : PySem.W.nsIn K mainGlobals "_law_random_state" = some (some (.ref f24))) (l24 : K.lookup f24 = some ⟨oc24, od24, .func (PySem.W.fnOf "_law_random_state" "_law_random_state" (defArgs s_l_random_state) (defBody s_l_random_state) (defScope s_l_random_state) .none kV24 dc24 pm24 an24 cd24 ct24), sl24⟩) (c24 : PySem.W.codeIn K cd24 "_law_random_state" = true) (k24 : PySem.W.keepIn K (.ref f24) = true)
    {f25 : Addr} {od25 an25 : Option Addr} {sl25 : Array (Option Value)} {oc25 kV25 dc25 pm25 cd25 ct25 : Value}
    (a25 : PySem.W.nsIn K mainGlobals "_law_moves" = some (some (.ref f25))) (l25 : K.lookup f25 = some ⟨oc25, od25, .func (PySem.W.fnOf "_law_moves" "_law_moves" (defArgs s_l_moves) (defBody s_l_moves) (defScope s_l_moves) .none kV25 dc25 pm25 an25 cd25 ct25), sl25⟩) (c25 : PySem.W.codeIn K cd25 "_law_moves" = true) (k25 : PySem.W.keepIn K (.ref f25) = true)
    {f26 : Addr} {od26 an26 : Option Addr} {sl26 : Array (Option Value)} {oc26 kV26 dc26 pm26 cd26 ct26 : Value}
    (a26 : PySem.W.nsIn K mainGlobals "_law_after_move" = some (some (.ref f26))) (l26 : K.lookup f26 = some ⟨oc26, od26, .func (PySem.W.fnOf "_law_after_move" "_law_after_move" (defArgs s_l_after_move) (defBody s_l_after_move) (defScope s_l_after_move) .none kV26 dc26 pm26 an26 cd26 ct26), sl26⟩) (c26 : PySem.W.codeIn K cd26 "_law_after_move" = true) (k26 : PySem.W.keepIn K (.ref f26) = true)
    {f27 : Addr} {od27 an27 : Option Addr} {sl27 : Array (Option Value)} {oc27 kV27 dc27 pm27 cd27 ct27 : Value}
    (a27 : PySem.W.nsIn K mainGlobals "_law_play" = some (some (.ref f27))) (l27 : K.lookup f27 = some ⟨oc27, od27, .func (PySem.W.fnOf "_law_play" "_law_play" (defArgs s_l_play) (defBody s_l_play) (defScope s_l_play) .none kV27 dc27 pm27 an27 cd27 ct27), sl27⟩) (c27 : PySem.W.codeIn K cd27 "_law_play" = true) (k27 : PySem.W.keepIn K (.ref f27) = true)
    {f28 : Addr} {od28 an28 : Option Addr} {sl28 : Array (Option Value)} {oc28 kV28 dc28 pm28 cd28 ct28 : Value}
    (a28 : PySem.W.nsIn K mainGlobals "_law_random_play" = some (some (.ref f28))) (l28 : K.lookup f28 = some ⟨oc28, od28, .func (PySem.W.fnOf "_law_random_play" "_law_random_play" (defArgs s_l_random_play) (defBody s_l_random_play) (defScope s_l_random_play) .none kV28 dc28 pm28 an28 cd28 ct28), sl28⟩) (c28 : PySem.W.codeIn K cd28 "_law_random_play" = true) (k28 : PySem.W.keepIn K (.ref f28) = true)
    {f29 : Addr} {od29 an29 : Option Addr} {sl29 : Array (Option Value)} {oc29 kV29 dc29 pm29 cd29 ct29 : Value}
    (a29 : PySem.W.nsIn K mainGlobals "_law_previous" = some (some (.ref f29))) (l29 : K.lookup f29 = some ⟨oc29, od29, .func (PySem.W.fnOf "_law_previous" "_law_previous" (defArgs s_l_previous) (defBody s_l_previous) (defScope s_l_previous) .none kV29 dc29 pm29 an29 cd29 ct29), sl29⟩) (c29 : PySem.W.codeIn K cd29 "_law_previous" = true) (k29 : PySem.W.keepIn K (.ref f29) = true)
    {f30 : Addr} {od30 an30 : Option Addr} {sl30 : Array (Option Value)} {oc30 kV30 dc30 pm30 cd30 ct30 : Value}
    (a30 : PySem.W.nsIn K mainGlobals "_law_too_large" = some (some (.ref f30))) (l30 : K.lookup f30 = some ⟨oc30, od30, .func (PySem.W.fnOf "_law_too_large" "_law_too_large" (defArgs s_l_too_large) (defBody s_l_too_large) (defScope s_l_too_large) .none kV30 dc30 pm30 an30 cd30 ct30), sl30⟩) (c30 : PySem.W.codeIn K cd30 "_law_too_large" = true) (k30 : PySem.W.keepIn K (.ref f30) = true)
    {f31 : Addr} {od31 an31 : Option Addr} {sl31 : Array (Option Value)} {oc31 kV31 dc31 pm31 cd31 ct31 : Value}
    (a31 : PySem.W.nsIn K mainGlobals "_law_refusal" = some (some (.ref f31))) (l31 : K.lookup f31 = some ⟨oc31, od31, .func (PySem.W.fnOf "_law_refusal" "_law_refusal" (defArgs s_l_refusal) (defBody s_l_refusal) (defScope s_l_refusal) .none kV31 dc31 pm31 an31 cd31 ct31), sl31⟩) (c31 : PySem.W.codeIn K cd31 "_law_refusal" = true) (k31 : PySem.W.keepIn K (.ref f31) = true)
    {f32 : Addr} {od32 an32 : Option Addr} {sl32 : Array (Option Value)} {oc32 kV32 dc32 pm32 cd32 ct32 : Value}
    (a32 : PySem.W.nsIn K mainGlobals "_law_truths_refused" = some (some (.ref f32))) (l32 : K.lookup f32 = some ⟨oc32, od32, .func (PySem.W.fnOf "_law_truths_refused" "_law_truths_refused" (defArgs s_l_truths_refused) (defBody s_l_truths_refused) (defScope s_l_truths_refused) .none kV32 dc32 pm32 an32 cd32 ct32), sl32⟩) (c32 : PySem.W.codeIn K cd32 "_law_truths_refused" = true) (k32 : PySem.W.keepIn K (.ref f32) = true)
    {f33 : Addr} {od33 an33 : Option Addr} {sl33 : Array (Option Value)} {oc33 kV33 dc33 pm33 cd33 ct33 : Value}
    (a33 : PySem.W.nsIn K mainGlobals "_law_holds" = some (some (.ref f33))) (l33 : K.lookup f33 = some ⟨oc33, od33, .func (PySem.W.fnOf "_law_holds" "_law_holds" (defArgs s_l_holds) (defBody s_l_holds) (defScope s_l_holds) .none kV33 dc33 pm33 an33 cd33 ct33), sl33⟩) (c33 : PySem.W.codeIn K cd33 "_law_holds" = true) (k33 : PySem.W.keepIn K (.ref f33) = true)
    {f34 : Addr} {od34 an34 : Option Addr} {sl34 : Array (Option Value)} {oc34 kV34 dc34 pm34 cd34 ct34 : Value}
    (a34 : PySem.W.nsIn K mainGlobals "law" = some (some (.ref f34))) (l34 : K.lookup f34 = some ⟨oc34, od34, .func (PySem.W.fnOf "law" "law" (defArgs s_law) (defBody s_law) (defScope s_law) .none kV34 dc34 pm34 an34 cd34 ct34), sl34⟩) (c34 : PySem.W.codeIn K cd34 "law" = true) (k34 : PySem.W.keepIn K (.ref f34) = true)
    (z0 : PySem.W.nsIn K mainGlobals "len" = some none)
    (z1 : PySem.W.nsIn K mainGlobals "isinstance" = some none)
    (z2 : PySem.W.nsIn K mainGlobals "enumerate" = some none)
    (z3 : PySem.W.nsIn K mainGlobals "range" = some none)
    (z4 : PySem.W.nsIn K mainGlobals "list" = some none)
    (z5 : PySem.W.nsIn K mainGlobals "set" = some none)
    (z6 : PySem.W.nsIn K mainGlobals "sorted" = some none)
    (z7 : PySem.W.nsIn K mainGlobals "max" = some none)
    (z8 : PySem.W.nsIn K mainGlobals "min" = some none)
    (z9 : PySem.W.nsIn K mainGlobals "tuple" = some none)
    (z10 : PySem.W.nsIn K mainGlobals "int" = some none)
    (z11 : PySem.W.nsIn K mainGlobals "bool" = some none)
    (z12 : PySem.W.nsIn K mainGlobals "sum" = some none)
    (z13 : PySem.W.nsIn K mainGlobals "repr" = some none)
    (z14 : PySem.W.nsIn K mainGlobals "divmod" = some none)
    {CL : Addr}
    {CI fis Tis Nis : Addr} {nmis qis : Str} {bsis : List Value} {snis : List Str} {subis : List Value} {abis : Bool} {colis : Option Bool} {ddis odis anis otis : Option Addr} {uis vis wis xis yis : Option Value} {ocis kVis dcis pmis cdis ctis tcis : Value} {slis stis : Array (Option Value)} {ntis : Nat}
    (gis : PySem.W.nsIn K mainGlobals "InvalidState" = some (some (.ref CI)))
    (xis : K.lookup CI = some (excClassObj nmis qis CI Nis bsis (.ref CL :: PySem.HandSPX.veTail) true snis subis abis colis ddis uis vis wis xis yis "ValueError.__new__"))
    (sais : PySem.W.findIn K (.ref CI) "__setattr__" = some (some (.builtin "object.__setattr__")))
    (gais : PySem.W.findIn K (.ref CI) "__getattribute__" = some (some (.builtin "BaseException.__getattribute__")))
    (ggis : PySem.W.findIn K (.ref CI) "__getattr__" = some none)
    (n0_is : PySem.W.findIn K (.ref CI) "reason" = some none)
    (iis : PySem.W.findIn K (.ref CI) "__init__" = some (some (.ref fis)))
    (tis : PySem.W.typeIn K (.ref fis) = some (.type "function"))
    (lis : K.lookup fis = some ⟨ocis, odis, .func (PySem.W.fnOf "__init__" "InvalidState.__init__" (defArgs s_is) (defBody s_is) (defScope s_is) (.ref Tis) kVis dcis pmis anis cdis ctis), slis⟩)
    (cis : PySem.W.codeIn K cdis "InvalidState.__init__" = true)
    (kis : PySem.W.keepIn K (.ref fis) = true)
    (pis : K.lookup Tis = some ⟨tcis, otis, .seq [Value.none].toArray ntis, stis⟩)
    (kcis : PySem.W.keepIn K (.ref CI) = true)
    (eis : PySem.W.subIn K (.ref CI) (.type "BaseException") = some true)
    (tyis : PySem.W.typeIn K (.ref CI) = some (.type "type"))
    (hdis : PySem.W.hasDictIn K CI = true)
    (sis : PySem.W.subIn K (.ref CI) (.ref CI) = some true)
    {CT fit Tit Nit : Addr} {nmit qit : Str} {bsit : List Value} {snit : List Str} {subit : List Value} {abit : Bool} {colit : Option Bool} {ddit odit anit otit : Option Addr} {uit vit wit xit yit : Option Value} {ocit kVit dcit pmit cdit ctit tcit : Value} {slit stit : Array (Option Value)} {ntit : Nat}
    (git : PySem.W.nsIn K mainGlobals "IndexTooLarge" = some (some (.ref CT)))
    (xit : K.lookup CT = some (excClassObj nmit qit CT Nit bsit (.ref CL :: PySem.HandSPX.veTail) true snit subit abit colit ddit uit vit wit xit yit "ValueError.__new__"))
    (sait : PySem.W.findIn K (.ref CT) "__setattr__" = some (some (.builtin "object.__setattr__")))
    (gait : PySem.W.findIn K (.ref CT) "__getattribute__" = some (some (.builtin "BaseException.__getattribute__")))
    (ggit : PySem.W.findIn K (.ref CT) "__getattr__" = some none)
    (n0_it : PySem.W.findIn K (.ref CT) "count" = some none)
    (iit : PySem.W.findIn K (.ref CT) "__init__" = some (some (.ref fit)))
    (tit : PySem.W.typeIn K (.ref fit) = some (.type "function"))
    (lit : K.lookup fit = some ⟨ocit, odit, .func (PySem.W.fnOf "__init__" "IndexTooLarge.__init__" (defArgs s_it) (defBody s_it) (defScope s_it) (.ref Tit) kVit dcit pmit anit cdit ctit), slit⟩)
    (cit : PySem.W.codeIn K cdit "IndexTooLarge.__init__" = true)
    (kit : PySem.W.keepIn K (.ref fit) = true)
    (pit : K.lookup Tit = some ⟨tcit, otit, .seq [Value.none].toArray ntit, stit⟩)
    (kcit : PySem.W.keepIn K (.ref CT) = true)
    (eit : PySem.W.subIn K (.ref CT) (.type "BaseException") = some true)
    (tyit : PySem.W.typeIn K (.ref CT) = some (.type "type"))
    (hdit : PySem.W.hasDictIn K CT = true)
    (sit : PySem.W.subIn K (.ref CT) (.ref CT) = some true)
    : ∃ fd : FuncData, (∀ (s : Shared) (v : Value), BindsTo s fd ⟨[v], []⟩ [("_law_script", v)]) ∧ ∀ base : Heap, K.In base → base.Ns mainGlobals mg → FnG l.prog w K mg base 13 fa fd ["_law_script"] (spLaw K) := by
  have e := hfa.symm.trans (PySem.W.mg_of X G a34)
  cases e
  have T : Bl mg := ⟨PySem.W.mg_none_of X G z0, PySem.W.mg_none_of X G z1, PySem.W.mg_none_of X G z2, PySem.W.mg_none_of X G z3, PySem.W.mg_none_of X G z4, PySem.W.mg_none_of X G z5, PySem.W.mg_none_of X G z6, PySem.W.mg_none_of X G z7, PySem.W.mg_none_of X G z8, PySem.W.mg_none_of X G z9, PySem.W.mg_none_of X G z10, PySem.W.mg_none_of X G z11, PySem.W.mg_none_of X G z12, PySem.W.mg_none_of X G z13, PySem.W.mg_none_of X G z14⟩
  have D_is_whole : Def K mg "is_whole" s_is_whole := def_mk X G a0 l0 c0 k0
  have D_is_index : Def K mg "is_index" s_is_index := def_mk X G a1 l1 c1 k1
  have D_is_door : Def K mg "is_door" s_is_door := def_mk X G a2 l2 c2 k2
  have D_check_house : Def K mg "check_house" s_check_house := def_mk X G a3 l3 c3 k3
  have D_first_ring : Def K mg "first_ring" s_first_ring := def_mk X G a4 l4 c4 k4
  have D_find_root : Def K mg "find_root" s_find_root := def_mk X G a5 l5 c5 k5
  have D_need_house : Def K mg "need_house" s_need_house := def_mk X G a6 l6 c6 k6
  have D_has_state_shape : Def K mg "has_state_shape" s_has_state_shape := def_mk X G a7 l7 c7 k7
  have D_check_state : Def K mg "check_state" s_check_state := def_mk X G a8 l8 c8 k8
  have D_need_state : Def K mg "need_state" s_need_state := def_mk X G a9 l9 c9 k9
  have D_need_state_of_as_many : Def K mg "need_state_of_as_many" s_need_state_of_as_many := def_mk X G a10 l10 c10 k10
  have D_replaced : Def K mg "replaced" s_replaced := def_mk X G a11 l11 c11 k11
  have D_last_moves : Def K mg "last_moves" s_last_moves := def_mk X G a12 l12 c12 k12
  have D_count_previous : Def K mg "count_previous" s_count_previous := def_mk X G a13 l13 c13 k13
  have D_state_before : Def K mg "state_before" s_state_before := def_mk X G a14 l14 c14 k14
  have D_previous_at : Def K mg "previous_at" s_previous_at := def_mk X G a15 l15 c15 k15
  have D_previous_index : Def K mg "previous_index" s_previous_index := def_mk X G a16 l16 c16 k16
  have D_l_cell : Def K mg "_law_cell" s_l_cell := def_mk X G a17 l17 c17 k17
  have D_l_hash : Def K mg "_law_hash" s_l_hash := def_mk X G a18 l18 c18 k18
  have D_l_generator : Def K mg "_law_generator" s_l_generator := def_mk X G a19 l19 c19 k19
  have D_l_random : Def K mg "_law_random" s_l_random := def_mk X G a20 l20 c20 k20
  have D_l_shuffled : Def K mg "_law_shuffled" s_l_shuffled := def_mk X G a21 l21 c21 k21
  have D_l_random_house : Def K mg "_law_random_house" s_l_random_house := def_mk X G a22 l22 c22 k22
  have D_l_random_state : Def K mg "_law_random_state" s_l_random_state := def_mk X G a24 l24 c24 k24
  have D_l_moves : Def K mg "_law_moves" s_l_moves := def_mk X G a25 l25 c25 k25
  have D_l_after_move : Def K mg "_law_after_move" s_l_after_move := def_mk X G a26 l26 c26 k26
  have D_l_play : Def K mg "_law_play" s_l_play := def_mk X G a27 l27 c27 k27
  have D_l_random_play : Def K mg "_law_random_play" s_l_random_play := def_mk X G a28 l28 c28 k28
  have D_l_previous : Def K mg "_law_previous" s_l_previous := def_mk X G a29 l29 c29 k29
  have D_l_too_large : Def K mg "_law_too_large" s_l_too_large := def_mk X G a30 l30 c30 k30
  have D_l_refusal : Def K mg "_law_refusal" s_l_refusal := def_mk X G a31 l31 c31 k31
  have D_l_truths_refused : Def K mg "_law_truths_refused" s_l_truths_refused := def_mk X G a32 l32 c32 k32
  have D_l_holds : Def K mg "_law_holds" s_l_holds := def_mk X G a33 l33 c33 k33
  have exis : ErrK K mg "InvalidState" CI fis ["reason"] := ⟨PySem.W.mg_of X G gis, ⟨⟨_, _, _, _, _, _, _, _, _, _, _, _, _, _, _, xis, by rfl⟩, sais, eis, tyis, kcis⟩, ⟨gais, ggis, eis, hdis⟩, iis, tis, (by intro q hq; simp only [List.mem_cons, List.not_mem_nil, or_false] at hq; subst hq; exact n0_is), PySem.W.exm_ref eis hdis tyis sis⟩
  have Fis : FunD K "__init__" "InvalidState.__init__" (defArgs s_is) (defBody s_is) (defScope s_is) [.non] [] fis _ := ⟨⟨ocis, odis, .ref Tis, kVis, dcis, pmis, anis, cdis, ctis, slis, rfl, lis, cis, .inr ⟨by simp, Tis, _, [Value.none], ntis, rfl, pis, rfl, .cons rfl .nil⟩, .inl rfl⟩, kis⟩
  have exit : ErrK K mg "IndexTooLarge" CT fit ["count"] := ⟨PySem.W.mg_of X G git, ⟨⟨_, _, _, _, _, _, _, _, _, _, _, _, _, _, _, xit, by rfl⟩, sait, eit, tyit, kcit⟩, ⟨gait, ggit, eit, hdit⟩, iit, tit, (by intro q hq; simp only [List.mem_cons, List.not_mem_nil, or_false] at hq; subst hq; exact n0_it), PySem.W.exm_ref eit hdit tyit sit⟩
  have Fit : FunD K "__init__" "IndexTooLarge.__init__" (defArgs s_it) (defBody s_it) (defScope s_it) [.non] [] fit _ := ⟨⟨ocit, odit, .ref Tit, kVit, dcit, pmit, anit, cdit, ctit, slit, rfl, lit, cit, .inr ⟨by simp, Tit, _, [Value.none], ntit, rfl, pit, rfl, .cons rfl .nil⟩, .inl rfl⟩, kit⟩
  refine ⟨PySem.W.fnOf "law" "law" (defArgs s_law) (defBody s_law) (defScope s_law) .none kV34 dc34 pm34 an34 cd34 ct34, fun s v => .of_eq rfl, fun base _ _ => ?_⟩
  have E_is : ErrOkK l.prog w K mg base "InvalidState" CI ["self", "reason"] ["reason"] (spE1 CI "reason") := ⟨_, _, exis, e_ok_is exis Fis, e_b_is Fis⟩
  have E_it : ErrOkK l.prog w K mg base "IndexTooLarge" CT ["self", "count"] ["count"] (spE1 CT "count") := ⟨_, _, exit, e_ok_it exit Fit, e_b_it Fit⟩
  have H_cell : Cal l.prog w K mg base "_law_cell" ["_law_script", "_law_at"] 1 (spCell K) := ok_cell T D_l_cell
  have H_generator : Cal l.prog w K mg base "_law_generator" ["_law_script", "_law_at"] 2 (spGen K) := ok_generator T D_l_generator H_cell
  have H_hash : Cal l.prog w K mg base "_law_hash" ["_law_seed", "_law_at"] 1 spHash := ok_hash T D_l_hash
  have H_random : Cal l.prog w K mg base "_law_random" ["_law_generator_here", "_law_bound"] 2 spRand := ok_random T D_l_random H_hash
  have H_shuffled : Cal l.prog w K mg base "_law_shuffled" ["_law_generator_here", "_law_items"] 3 (spShuf K) := ok_shuffled T D_l_shuffled H_random
  have H_random_house : Cal l.prog w K mg base "_law_random_house" ["_law_generator_here", "_law_size"] 4 (spHouse K) := ok_random_house T D_l_random_house H_random H_shuffled
  have H_random_state : Cal l.prog w K mg base "_law_random_state" ["_law_generator_here", "_law_layout", "_law_count"] 3 (spRState K) := ok_random_state T D_l_random_state H_random
  have H_moves : Cal l.prog w K mg base "_law_moves" ["_law_layout", "_law_situation"] 1 (spMoves K) := ok_moves T D_l_moves
  have H_after_move : Cal l.prog w K mg base "_law_after_move" ["_law_situation", "_law_move"] 1 (spAfter K) := ok_after_move T D_l_after_move
  have H_random_play : Cal l.prog w K mg base "_law_random_play" ["_law_generator_here", "_law_layout", "_law_situation", "_law_longest"] 3 (spRPlay K) := ok_random_play T D_l_random_play H_random H_moves H_after_move
  have H_l_previous : Cal l.prog w K mg base "_law_previous" ["_law_layout", "_law_situation"] 1 (spPrevL K) := ok_l_previous T D_l_previous
  have H_is_whole : Cal l.prog w K mg base "is_whole" ["value"] 1 spWhole := ok_is_whole T D_is_whole
  have H_is_index : Cal l.prog w K mg base "is_index" ["value", "count"] 2 spIndex := ok_is_index T D_is_index H_is_whole
  have H_is_door : Cal l.prog w K mg base "is_door" ["value", "count"] 3 (spDoor K) := ok_is_door T D_is_door H_is_index
  have H_find_root : Cal l.prog w K mg base "find_root" ["links", "room"] 1 spFind := ok_find_root T D_find_root
  have H_first_ring : Cal l.prog w K mg base "first_ring" ["doors"] 2 (spRing K) := ok_first_ring T D_first_ring H_find_root
  have H_check_house : Cal l.prog w K mg base "check_house" ["value"] 4 (spRing K) := ok_check_house T D_check_house H_is_door H_first_ring
  have H_need_house : Cal l.prog w K mg base "need_house" ["house"] 5 (spRing K) := ok_need_house T D_need_house H_check_house
  have H_has_state_shape : Cal l.prog w K mg base "has_state_shape" ["house", "value"] 1 (spShape K) := ok_has_state_shape T D_has_state_shape
  have H_check_state : Cal l.prog w K mg base "check_state" ["house", "value"] 6 (spSt K) := ok_check_state T D_check_state H_need_house H_has_state_shape H_is_index
  have H_need_state : Cal l.prog w K mg base "need_state" ["house", "state"] 7 (spSt K) := ok_need_state T D_need_state H_check_state
  have H_replaced : Cal l.prog w K mg base "replaced" ["values", "index", "value"] 1 (spRepl K) := ok_replaced T D_replaced
  have H_last_moves : Cal l.prog w K mg base "last_moves" ["house", "state"] 2 (spLast K) := ok_last_moves T D_last_moves H_replaced
  have H_count_previous : CalK l.prog w K mg base "count_previous" ["house", "state"] 8 (spCount K) ["state", "house"] rev2 rev2 := ok_count_previous T D_count_previous H_need_state H_last_moves
  have H_state_before : Cal l.prog w K mg base "state_before" ["state", "rooms", "door", "before"] 2 (spBefore K) := ok_state_before T D_state_before H_replaced
  have H_previous_at : CalK l.prog w K mg base "previous_at" ["house", "state", "index"] 9 (spPrevAt K) ["index", "state", "house"] rev3 rev3 := ok_previous_at T D_previous_at H_count_previous.cal H_is_index H_last_moves H_state_before
  have H_need_state_of_as_many : Cal l.prog w K mg base "need_state_of_as_many" ["house", "state", "other"] 8 (spAsMany K) := ok_need_state_of_as_many T D_need_state_of_as_many H_need_state
  have H_previous_index : CalK l.prog w K mg base "previous_index" ["house", "state", "previous"] 9 (spPrevIdx K) ["previous", "state", "house"] rev3 rev3 := ok_previous_index T D_previous_index H_need_state H_need_state_of_as_many H_last_moves H_state_before
  have H_has_state_shape__v : Cal l.prog w K mg base "has_state_shape" ["house", "value"] 1 (spShapeV K) := ok_has_state_shape__v T D_has_state_shape
  have H_is_whole__o : Cal l.prog w K mg base "is_whole" ["value"] 1 (spWholeO K) := ok_is_whole__o T D_is_whole
  have H_is_index__o : Cal l.prog w K mg base "is_index" ["value", "count"] 2 (spIndexO K) := ok_is_index__o T D_is_index H_is_whole__o
  have H_check_state__b : Cal l.prog w K mg base "check_state" ["house", "value"] 6 (spStB K) := ok_check_state__b T D_check_state H_need_house H_has_state_shape__v H_is_index__o
  have H_need_state__x : CalX l.prog w K mg base "need_state" ["house", "state"] 7 (spStX K CI) := ok_need_state__x T E_is D_need_state H_check_state__b
  have H_need_state_of_as_many__x : CalX l.prog w K mg base "need_state_of_as_many" ["house", "state", "other"] 8 (spAsX K CI) := ok_need_state_of_as_many__x T D_need_state_of_as_many H_need_state__x
  have H_previous_index__x : CalX l.prog w K mg base "previous_index" ["house", "state", "previous"] 9 (spPrevIdxX K CI) := ok_previous_index__x T D_previous_index H_need_state H_need_state_of_as_many__x
  have H_l_refusal : Cal l.prog w K mg base "_law_refusal" ["_law_layout", "_law_situation", "_law_other"] 10 (spRefusal K) := ok_l_refusal T E_is D_l_refusal H_previous_index__x
  have H_l_truths_refused : Cal l.prog w K mg base "_law_truths_refused" ["_law_layout", "_law_situation", "_law_before"] 11 (spTruths K) := ok_l_truths_refused T D_l_truths_refused H_l_refusal
  have H_previous_at__xa : CalX l.prog w K mg base "previous_at" ["house", "state", "index"] 9 (spPrevAtX K CT) := ok_previous_at__xa T E_it D_previous_at H_count_previous.cal H_is_index__o
  have H_l_too_large : Cal l.prog w K mg base "_law_too_large" ["_law_layout", "_law_situation", "_law_number"] 10 (spTooLarge K) := ok_l_too_large T E_it D_l_too_large H_previous_at__xa H_count_previous.cal
  have H_l_holds : CalG l.prog w K mg base "_law_holds" ["_law_generator_here", "_law_layout", "_law_situation"] 12 (spHolds K) := ok_l_holds T D_l_holds H_l_previous H_count_previous H_previous_at H_previous_index H_after_move H_moves H_l_truths_refused H_random_state H_l_too_large
  have H_l_play : Cal l.prog w K mg base "_law_play" ["_law_layout", "_law_situation", "_law_moves_here"] 2 (spPlay K) := ok_l_play T D_l_play H_moves H_after_move
  exact ok_law T (fun_mk (st := s_law) l34 c34 k34) H_generator H_random H_random_house H_random_state H_random_play H_l_holds H_l_play H_previous_index.cal
end K5

open PySem PySem.W PyProof.Rows
set_option maxHeartbeats 0 in
theorem PySem.Challenge.cw_lastthrough_k27_previous_states_holds : PySem.Challenge.rw_lastthrough_k27_previous_states.Holds := by
  w_on; o_law; k_head; (case hw => w_witness2)
  k_fill
  refine L2.walk_ofG (l := PySem.Challenge.rw_lastthrough_k27_previous_states) (n := 63) (k := 13) (x := "_law_script") (sp := fun w => K5.spLaw _) rfl (by decide) rfl ⟨rfl, by decide, by decide⟩ (fun w h Y => PySem.W.kIn_of Y) ?F (fun _ _ a ns hl _ hS => ⟨a, ns, rfl, hS, hl, fun _ => rfl⟩)
  case F =>
    intro w mg fa h KX G hmg
    refine' K5.all_mk KX G hmg ?a0 ?l0 ?c0 ?k0 ?a1 ?l1 ?c1 ?k1 ?a2 ?l2 ?c2 ?k2 ?a3 ?l3 ?c3 ?k3 ?a4 ?l4 ?c4 ?k4 ?a5 ?l5 ?c5 ?k5 ?a6 ?l6 ?c6 ?k6 ?a7 ?l7 ?c7 ?k7 ?a8 ?l8 ?c8 ?k8 ?a9 ?l9 ?c9 ?k9 ?a10 ?l10 ?c10 ?k10 ?a11 ?l11 ?c11 ?k11 ?a12 ?l12 ?c12 ?k12 ?a13 ?l13 ?c13 ?k13 ?a14 ?l14 ?c14 ?k14 ?a15 ?l15 ?c15 ?k15 ?a16 ?l16 ?c16 ?k16 ?a17 ?l17 ?c17 ?k17 ?a18 ?l18 ?c18 ?k18 ?a19 ?l19 ?c19 ?k19 ?a20 ?l20 ?c20 ?k20 ?a21 ?l21 ?c21 ?k21 ?a22 ?l22 ?c22 ?k22 ?a24 ?l24 ?c24 ?k24 ?a25 ?l25 ?c25 ?k25 ?a26 ?l26 ?c26 ?k26 ?a27 ?l27 ?c27 ?k27 ?a28 ?l28 ?c28 ?k28 ?a29 ?l29 ?c29 ?k29 ?a30 ?l30 ?c30 ?k30 ?a31 ?l31 ?c31 ?k31 ?a32 ?l32 ?c32 ?k32 ?a33 ?l33 ?c33 ?k33 ?a34 ?l34 ?c34 ?k34 ?z0 ?z1 ?z2 ?z3 ?z4 ?z5 ?z6 ?z7 ?z8 ?z9 ?z10 ?z11 ?z12 ?z13 ?z14 ?gis ?xis ?sais ?gais ?ggis ?n0_is ?iis ?tis ?lis ?cis ?kis ?pis ?kcis ?eis ?tyis ?hdis ?sis ?git ?xit ?sait ?gait ?ggit ?n0_it ?iit ?tit ?lit ?cit ?kit ?pit ?kcit ?eit ?tyit ?hdit ?sit
    (case a0 => k_is)
    (case l0 => k_is)
    (case c0 => k_is)
    (case k0 => k_is)
    (case a1 => k_is)
    (case l1 => k_is)
    (case c1 => k_is)
    (case k1 => k_is)
    (case a2 => k_is)
    (case l2 => k_is)
    (case c2 => k_is)
    (case k2 => k_is)
    (case a3 => k_is)
    (case l3 => k_is)
    (case c3 => k_is)
    (case k3 => k_is)
    (case a4 => k_is)
    (case l4 => k_is)
    (case c4 => k_is)
    (case k4 => k_is)
    (case a5 => k_is)
    (case l5 => k_is)
    (case c5 => k_is)
    (case k5 => k_is)
    (case a6 => k_is)
    (case l6 => k_is)
    (case c6 => k_is)
    (case k6 => k_is)
    (case a7 => k_is)
    (case l7 => k_is)
    (case c7 => k_is)
    (case k7 => k_is)
    (case a8 => k_is)
    (case l8 => k_is)
    (case c8 => k_is)
    (case k8 => k_is)
    (case a9 => k_is)
    (case l9 => k_is)
    (case c9 => k_is)
    (case k9 => k_is)
    (case a10 => k_is)
    (case l10 => k_is)
    (case c10 => k_is)
    (case k10 => k_is)
    (case a11 => k_is)
    (case l11 => k_is)
    (case c11 => k_is)
    (case k11 => k_is)
    (case a12 => k_is)
    (case l12 => k_is)
    (case c12 => k_is)
    (case k12 => k_is)
    (case a13 => k_is)
    (case l13 => k_is)
    (case c13 => k_is)
    (case k13 => k_is)
    (case a14 => k_is)
    (case l14 => k_is)
    (case c14 => k_is)
    (case k14 => k_is)
    (case a15 => k_is)
    (case l15 => k_is)
    (case c15 => k_is)
    (case k15 => k_is)
    (case a16 => k_is)
    (case l16 => k_is)
    (case c16 => k_is)
    (case k16 => k_is)
    (case a17 => k_is)
    (case l17 => k_is)
    (case c17 => k_is)
    (case k17 => k_is)
    (case a18 => k_is)
    (case l18 => k_is)
    (case c18 => k_is)
    (case k18 => k_is)
    (case a19 => k_is)
    (case l19 => k_is)
    (case c19 => k_is)
    (case k19 => k_is)
    (case a20 => k_is)
    (case l20 => k_is)
    (case c20 => k_is)
    (case k20 => k_is)
    (case a21 => k_is)
    (case l21 => k_is)
    (case c21 => k_is)
    (case k21 => k_is)
    (case a22 => k_is)
    (case l22 => k_is)
    (case c22 => k_is)
    (case k22 => k_is)
    (case a24 => k_is)
    (case l24 => k_is)
    (case c24 => k_is)
    (case k24 => k_is)
    (case a25 => k_is)
    (case l25 => k_is)
    (case c25 => k_is)
    (case k25 => k_is)
    (case a26 => k_is)
    (case l26 => k_is)
    (case c26 => k_is)
    (case k26 => k_is)
    (case a27 => k_is)
    (case l27 => k_is)
    (case c27 => k_is)
    (case k27 => k_is)
    (case a28 => k_is)
    (case l28 => k_is)
    (case c28 => k_is)
    (case k28 => k_is)
    (case a29 => k_is)
    (case l29 => k_is)
    (case c29 => k_is)
    (case k29 => k_is)
    (case a30 => k_is)
    (case l30 => k_is)
    (case c30 => k_is)
    (case k30 => k_is)
    (case a31 => k_is)
    (case l31 => k_is)
    (case c31 => k_is)
    (case k31 => k_is)
    (case a32 => k_is)
    (case l32 => k_is)
    (case c32 => k_is)
    (case k32 => k_is)
    (case a33 => k_is)
    (case l33 => k_is)
    (case c33 => k_is)
    (case k33 => k_is)
    (case a34 => k_is)
    (case l34 => k_is)
    (case c34 => k_is)
    (case k34 => k_is)
    (case z0 => k_is)
    (case z1 => k_is)
    (case z2 => k_is)
    (case z3 => k_is)
    (case z4 => k_is)
    (case z5 => k_is)
    (case z6 => k_is)
    (case z7 => k_is)
    (case z8 => k_is)
    (case z9 => k_is)
    (case z10 => k_is)
    (case z11 => k_is)
    (case z12 => k_is)
    (case z13 => k_is)
    (case z14 => k_is)
    (case gis => k_is)
    (case xis => k_is)
    (case sais => k_is)
    (case gais => k_is)
    (case ggis => k_is)
    (case n0_is => k_is)
    (case iis => k_is)
    (case tis => k_is)
    (case lis => k_is)
    (case cis => k_is)
    (case kis => k_is)
    (case pis => k_is)
    (case kcis => k_is)
    (case eis => k_is)
    (case tyis => k_is)
    (case hdis => k_is)
    (case sis => first | k_is | rfl)
    (case git => k_is)
    (case xit => k_is)
    (case sait => k_is)
    (case gait => k_is)
    (case ggit => k_is)
    (case n0_it => k_is)
    (case iit => k_is)
    (case tit => k_is)
    (case lit => k_is)
    (case cit => k_is)
    (case kit => k_is)
    (case pit => k_is)
    (case kcit => k_is)
    (case eit => k_is)
    (case tyit => k_is)
    (case hdit => k_is)
    (case sit => first | k_is | rfl)

