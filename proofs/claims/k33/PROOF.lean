import PyProof.Rows.All
import Wide.All
import OpenK.AllK
import Wide.FinOn
import HandS.ForMost
import HandS.Walk
import HandS.IsInst
import HandS.Conv
import HandS.Strs
import HandS.Style
import HandS.Sort
import HandS.SortRule
import HandS.Wide
import HandS.WideBits
import HandS.TupAny
import KE.GoesMore
import KE.GoesEnum
import KE.GoesNew
import HandS.ForExc
import HandS.ExcInit
import HandS.ExcField
import HandS.ExcIs
import HandS.TupSets
import HandS.Evl
import HandS.Ends
import HandS.RaiseMore
import PyProof.ReprReads
import HandS.Codes
import HandS.SlotsOwn
import PyProof.InstNe
import HandS.More
import KE.KDictList
import HandS.SetFor
import HandS.ExcOwn
import HandS.ExcValue
import KE.SortData
import HandS.Flow
import PyProof.SumAny
import PyProof.ListOps
import PyProof.Commute
import PyProof.FactsAll.subtypes_4
import KE.DataMinMax
import KE.DataMinKey
import HandS.SortKw
import PySem.Challenge.RW_lastthrough_k33_openings_in_large_houses
set_option Elab.async false
set_option linter.all false
set_option maxRecDepth 100000
set_option maxHeartbeats 4000000
/-! rules of our own: powers of any size, enumerate of a tuple, a pair turned by its step, a set made of a list of numbers -/
namespace L2
open PySem PySem.Spec PyProof.Rows
theorem op_powX {X : Cx} : OpR X (binaryOp .Pow) (rI (fun i j => 0 ≤ j ∧ (Builtin.Int.intBits i : Int) * j ≤ 2 ^ 27) fun i j => .int (i ^ j.toNat)) := opI fun _ _ _ _ _ _ _ hc q => pow_int hc.1 hc.2 q

/-! ### enumerate of a tuple: by what its iterator draws (GoesN) -/
def IteT (K : PySem.W.Frag) (a : Addr) : It where
  go i H := ∃ (xs : List V) (x : V), SqT K H a xs ∧ xs[i]? = some x
  yld i H v H' := ∃ T x, v = .ref T ∧ H T = none ∧ H' = upd H T (.tup [.int (i : Nat), x]) ∧ ∀ xs, SqT K H a xs → xs[i]? = some x
  stop i H := ∃ xs : List V, SqT K H a xs ∧ xs.length = i
/-- the three objects differ: their classes do -/
theorem enum_apart {h : Heap} {e it t : Addr} {i : Int} {old : Value} {j : Nat} {items : Array Value} (he : IsEnum h e it i old) (hi : h.IsTupleIter it t j) (ht : h.IsTuple t items) : e ∉ [it, t] ∧ t ≠ it := by
  obtain ⟨o, ho, hc, _⟩ := ht
  obtain ⟨oi, hoi, hci, _⟩ := hi
  have he' : h.get? e = some _ := he
  have n1 : e ≠ t := fun z => by
    rw [z, ho] at he'
    rw [← Option.some.inj he'.symm] at hc
    exact absurd (Value.type.inj hc) (by decide)
  have n2 : t ≠ it := fun z => by
    rw [z, hoi] at ho
    rw [← Option.some.inj ho, hci] at hc
    exact absurd (Value.type.inj hc) (by decide)
  have n3 : e ≠ it := fun z => by
    rw [z, hoi] at he'
    rw [← Option.some.inj he'.symm] at hci
    exact absurd (Value.type.inj hci) (by decide)
  exact ⟨by simp [n1, n3], n2⟩
/-- where the walk stands at its i-th turn -/
def EnT (a e it : Addr) (i : Nat) (h : Heap) : Prop := (∃ old, IsEnum h e it (0 + (i : Int)) old) ∧ h.IsTupleIter it a i ∧ e ≠ it
theorem EnT.lts {a e it : Addr} {i : Nat} {h : Heap} (st : EnT a e it i h) : ∀ b ∈ [e, it], b < h.objs.size := fun b hb => by
  obtain ⟨⟨old, he⟩, ⟨u, hu, _⟩, _⟩ := st
  rcases (List.mem_cons.mp hb : b = e ∨ b ∈ [it]) with z | z
  · exact z ▸ Heap.lt_size he
  · exact (List.mem_singleton.mp z) ▸ Heap.lt_size hu
theorem goesT {prog : Program} {w : World} {A : Around} {elts : List Expr} {kk : Nat} {tpos : Pos} (hh : A.handled = none) {a e it : Addr} {items : Array Value} (ne : e ≠ it) (ap : e ∉ [it, a] ∧ a ≠ it) :
    GoesN prog w A (.Tuple elts kk tpos) e [e, it, a] [e, it] items.size (fun i h0 v h => ∃ T t x, v = .ref T ∧ h0.objs.size ≤ T ∧ items[i]? = some x ∧ h.IsTuple T #[.int (0 + (i : Int)) t, x])
      (fun i h => (∃ old, IsEnum h e it (0 + (i : Int)) old) ∧ h.IsTupleIter it a i ∧ h.IsTuple a items) :=
  GoesN.enumFrom 0 (Draws.tuple (A := A.in1) hh it a ap.2 items) e ne ap.1 (by simp)
theorem turn_enumT {P : Program} {w : World} {K : PySem.W.Frag} {elts : List Expr} {kk : Nat} {tpos : Pos} (a e it : Addr) : Turn P w K (.Tuple elts kk tpos) (IteT K a) [e, it] e (EnT a e it) where
  mem := List.mem_cons_self
  obj := by
    rintro i h ⟨⟨old, he⟩, ⟨u, hu, _, hd⟩, _⟩ b hb
    rcases (List.mem_cons.mp hb : b = e ∨ b ∈ [it]) with rfl | m
    · exact ⟨_, he, by intro v z; cases z⟩
    · rw [List.mem_singleton.mp m]
      exact ⟨u, hu, by intro v z; rw [hd] at z; cases z⟩
  keep := by
    rintro i h h' ⟨⟨old, he⟩, ht, hn⟩ k
    exact ⟨⟨old, k _ List.mem_cons_self _ he⟩, ht.at (k it (List.mem_cons_of_mem _ (List.mem_singleton.mpr rfl))), hn⟩
  item := by
    rintro X rfl rfl rfl calm i pins s σ H E I hf st ⟨xs, x, hq, hx⟩
    have lts := st.lts
    obtain ⟨⟨old, he⟩, ht, hn⟩ := st
    obtain ⟨its, vals, tup, _⟩ := I.tuple hq
    obtain ⟨u, hu, ru⟩ := vals.get hx
    have hu' : its.toArray[i]? = some u := by
      rw [List.getElem?_toArray]
      exact hu
    have len : i < its.toArray.size := (Array.getElem?_eq_some_iff.mp hu').1
    refine (goesT (I.ok.hd calm) hn (enum_apart he ht tup)).goes i s _ _ len ⟨⟨old, he⟩, ht, tup⟩ fun v h' tk hY st' keep _ => ?_
    obtain ⟨T, t, y, rfl, nT, hy, hT⟩ := hY
    cases hu'.symm.trans hy
    have ok : ObjOk X.prog X.w (upd H T (.tup [.int (i : Nat), x])) h' T (.tup [.int (i : Nat), x]) :=
      ⟨by show 2 ≤ sizeLine; decide, [.int (0 + (i : Int)) t, u], .cons ⟨t, by rw [Int.zero_add]⟩ (.cons ru .nil), hT⟩
    refine ⟨.ref T, _, I.turnedNew keep hf nT ok, rfl, ⟨T, x, rfl, I.hok.fresh nT, rfl, fun ys hy => ?_⟩, ⟨st'.1, st'.2.1, hn⟩, fun b hb => ?_⟩
    · rw [I.tuple_inj hy hq]
      exact hx
    · rw [upd_ne (Nat.ne_of_lt (Nat.lt_of_lt_of_le (lts b hb) nT))]
      exact (hf b hb).1
  done := by
    rintro X rfl rfl rfl calm i pins s σ H E I hf ⟨⟨old, he⟩, ht, hn⟩ ⟨xs, hq, rfl⟩
    obtain ⟨its, vals, tup, _⟩ := I.tuple hq
    have sz : its.toArray.size = xs.length := by rw [List.size_toArray, vals.length]
    have g := goesT (prog := X.prog) (w := X.w) (elts := elts) (kk := kk) (tpos := tpos) (items := its.toArray) (I.ok.hd calm) hn (enum_apart he ht tup)
    refine g.stops s _ _ ⟨⟨old, by rw [sz]; exact he⟩, by rw [sz]; exact ht, tup⟩ fun h' tk keep _ => I.turnedL keep hf
  self := by
    rintro A i s Q E ⟨⟨old, he⟩, _⟩ q
    exact wpAny_pyIter_enum he q
/-- the object that enumerate makes over the iterator at i -/
abbrev enumOver (i : Addr) : Obj := { cls := .type "enumerate", data := .fields #[.none, .bool false, .ref i, rawInt 0, .none, .none] }
set_option maxHeartbeats 1200000 in
theorem enum_made {v : Value} {o : Obj} {C : Heap → Prop} (B : Begins v o C) : Meets (Builtin.«enumerate.__new__» ⟨[.type "enumerate", v], []⟩) (fun _ R s =>
    C s.heap ∧ R (.ok (.ret (.ref (s.heap.push o).objs.size))) { s with heap := (s.heap.push o).push (enumOver s.heap.objs.size) }) := by
  refine .of_wp fun prog w A R s ⟨c, h⟩ => ?_
  obtain ⟨hp, gs, dr, tk, os⟩ := s
  have sub := sub_enumerate
  have begun : ∀ {A' : Around} {E Q : Value → Shared → Prop}, Q (.ref hp.objs.size) ⟨hp.push o, gs, dr, tk, os⟩ → wpAny (model prog w) A' (pyIter v) Q E ⟨hp, gs, dr, tk, os⟩ := fun q => B.iter prog w _ _ _ _ c q
  wp_walk using begun
  refine wpAny_stack_any fun _ => ?_
  refine wpAny_pure ?_
  split
  · rename_i k _ _ _ _ _
    cases (k == Value.type "enumerate") <;> (wp_walk using begun; exact ⟨_, rfl, h⟩)
  · wp_walk using begun
    exact ⟨_, rfl, h⟩
theorem enum_call {prog : Program} {w : World} {A : Around} {E : Value → Shared → Prop} {s : Shared} {v : Value} {o : Obj} {C : Heap → Prop} (B : Begins v o C) (c : C s.heap) {Q : Value → Shared → Prop}
    (h : Q (.ref (s.heap.objs.size + 1)) { s with heap := (s.heap.push o).push (enumOver s.heap.objs.size) }) : wpAny (model prog w) A (call (.type "enumerate") [v]) Q E s := by
  have sz : (s.heap.push o).objs.size = s.heap.objs.size + 1 := Heap.size_push ..
  refine callType_new F.called_enumerate (by decide) (F.typeCall_enumerate_1 _) (F.newCall_enumerate_1 _)
    (fun obj => F.args_object_init_2 obj _) F.entry_enumerate_new (enum_made B) ⟨c, ?_⟩
  rw [← sz] at h
  refine ⟨?_, h⟩
  exact ⟨_, Heap.get?_push_size _ rfl, rfl⟩
def iEnumT (K : PySem.W.Frag) (ta : TA) : TI := fun σ H R => ta σ H fun vs H1 => ∃ a xs, vs = [.ref a] ∧ SqT K H1 a xs ∧ R (IteT K a) H1
theorem pi_enumT {X : Cx} {e : Expr} {ta : TA} {p pos tpos : Pos} {elts : List Expr} {kk : Nat} (hg : Gl X "enumerate") (hm : X.mg "enumerate" = none) (ha : PA X [e] ta) (one : starEach [e] X.env = [(false, eval e X.env)] := by rfl) :
    PI X (.Tuple elts kk tpos) (.Call (.Name "enumerate" p) [e] [] pos) (iEnumT X.K ta) := by
  constructor
  intro pins s σ H R I h
  refine Call_ (ld_blt I hg hm boot_enumerate (callWith_type1 (thn (ha.run pos pins s σ H _ I h) ?_) one rfl))
  rintro us s1 ⟨vs, H1, I1, r1, a, xs, rfl, hq, q⟩
  obtain ⟨u, rfl, (ru : u = .ref a)⟩ := vals1 r1
  subst ru
  obtain ⟨its, vals, tup, _⟩ := I1.tuple hq
  refine enum_call (begins_tuple a its.toArray) tup (wpAny_pyIter_enum (i := 0) (old := .none) (it := s1.heap.objs.size) ?_ ?_)
  all_goals have sz : (s1.heap.push { cls := .type "tuple_iterator", data := .fields #[.ref a, .int 0 0] }).objs.size = s1.heap.objs.size + 1 := Heap.size_push ..
  all_goals have get := Heap.get?_push_size (s1.heap.push { cls := .type "tuple_iterator", data := .fields #[.ref a, .int 0 0] }) (o := enumOver s1.heap.objs.size) rfl
  all_goals rw [sz] at get
  · exact get
  · have I2 : Inv X pins σ H1 { s1 with heap := (s1.heap.push { cls := .type "tuple_iterator", data := .fields #[.ref a, .int 0 0] }).push (enumOver s1.heap.objs.size) } :=
      I1.kept (t' := s1.toks) fun b ob k => Heap.get?_push_of_some _ (Heap.get?_push_of_some _ k)
    refine ⟨s1.heap.objs.size + 1, [s1.heap.objs.size + 1, s1.heap.objs.size], _, _, H1, rfl, I2, turn_enumT a _ s1.heap.objs.size, ⟨⟨.none, get⟩, ⟨_, Heap.get?_push_of_some _ (Heap.get?_push_size _ rfl), rfl, rfl⟩, Nat.succ_ne_self _⟩, fun b hb => ?_, q⟩
    have above : s1.heap.objs.size ≤ b := by
      rcases (List.mem_cons.mp hb : b = s1.heap.objs.size + 1 ∨ _) with rfl | m
      · exact Nat.le_succ _
      · exact Nat.le_of_eq (List.mem_singleton.mp m).symm
    exact I1.fpOk above (I1.hok.fresh above)
theorem walk_enumT {K : PySem.W.Frag} {a : Addr} {xs : List V} : Walk (IteT K a) xs.length (fun H => SqT K H a xs) (YPair (fun i => some (.int (i : Nat))) (fun i => xs[i]?)) where
  goes := fun i _ hi q => ⟨xs, _, q, List.getElem?_eq_getElem hi⟩
  stops := fun _ q => ⟨xs, q, rfl⟩
  yields := by
    rintro i H v H' _ q ⟨T, x, e1, e2, e3, e4⟩
    exact ⟨T, _, x, e1, e2, e3, rfl, e4 xs q⟩

/-! ### a pair turned by its step: t[::k], k one or minus one -/
section
variable {prog : Program} {w : World} {A : Around} {s : Shared} {E : Value → Shared → Prop}
/-- the slice object [::k] applied to n items -/
theorem applied_stp {sl : Addr} {vs : Value} {k : Int} {n : Nat} {Q : Int × Int × Nat → Shared → Prop} (hs : s.heap.IsSliceOf sl .none .none vs) (ps : IsPart vs (some k)) (h0 : ¬ (k == 0) = true)
    (h : Q ((Builtin.Slice.sliceAdjust none none k (n : Int)).1, k, Builtin.Slice.slicePlaces (Builtin.Slice.sliceAdjust none none k (n : Int)).1 (Builtin.Slice.sliceAdjust none none k (n : Int)).2 k) s) : wpAny (model prog w) A (Builtin.Slice.sliceApplied (.ref sl) (pure (n : Int))) Q E s := by
  obtain ⟨so, hso, _, dso⟩ := id hs
  delta Builtin.Slice.sliceApplied Builtin.Slice.sliceFields
  have read : ∀ {j : Nat} {y : Value} {α : Type} {f : Value → Sem α} {R : α → Shared → Prop}, #[Value.none, Value.none, vs][j]? = some y → wpAny (model prog w) A (f y) R E s → wpAny (model prog w) A (field (.ref sl) j >>= f) R E s := fun e q => wpAny_bind (wpAny_field hso dso e q)
  refine wpAny_bind (read rfl (read rfl (read rfl (wpAny_pure ?_))))
  refine wpAny_bind (HT.slicePart_ ps ?_)
  show wpAny _ _ (if (k == 0) = true then _ else _) _ _ s
  rw [if_neg h0]
  exact wpAny_bind (HT.slicePart_ .none (wpAny_bind (HT.slicePart_ .none (wpAny_bind (wpAny_pure (wpAny_pure h))))))
theorem pair_stp {t sl : Addr} {x y : Value} {vs : Value} {k : Int} {Q : Value → Shared → Prop} (ht : IsTup s.heap t #[x, y]) (hs : s.heap.IsSliceOf sl .none .none vs) (ps : IsPart vs (some k))
    (h : (k = 1 ∧ Q (.ref t) s) ∨ (k = -1 ∧ Q (.ref s.heap.objs.size) { s with heap := s.heap.push { cls := .type "tuple", data := .seq #[y, x] } })) : wpAny (model prog w) A (getItem (.ref t) (.ref sl)) Q E s := by
  have isS : s.TypeIs (.ref sl) "slice" := let ⟨so, a, b, _⟩ := id hs; ⟨so, a, b⟩
  unfold getItem
  refine wpAny_holding (wpAny_bind (wpAny_sequenceKey ht.typeIs (by decide) (wpAny_bind ?_)))
  refine wpAny_callSpecial?_slot (name := Str.ofString "__getitem__") ht.typeIs slot_tuple_getitem ?_
  refine wpAny_call_entry slot_tuple_getitem ht.typeIs entry_tuple_getitem ?_ (args_tuple_getitem _ _)
  show wpAny _ _ (Builtin.Tuple.tupleItemsOf _ >>= _) _ _ s
  refine wpAny_bind (tupleItemsOf_ ht (wpAny_bind (wpAny_typeOf isS ?_)))
  rw [if_pos (by decide)]
  rcases h with ⟨rfl, h⟩ | ⟨rfl, h⟩ <;> refine wpAny_bind (applied_stp (n := 2) hs ps (by decide) ?_)
  · show wpAny _ _ (if (((0 : Int) == 0 && (1 : Int) == 1 && (2 : Nat) == 2) = true) then _ else _) _ _ s
    rw [if_pos (by decide)]
    have whole : wpAny (model prog w) A.in1 (Builtin.Tuple.tupleIsExact (.ref t)) (fun b s' => b = true ∧ s' = s) (fun _ _ => False) s := by
      show wpAny _ _ (typeOf (.ref t) >>= _) _ _ s
      exact wpAny_bind (wpAny_typeOf ht.typeIs (wpAny_pure ⟨by decide, rfl⟩))
    refine wpAny_bind (wpAny_mono whole ?_ fun _ _ z => z.elim)
    rintro b s' ⟨rfl, rfl⟩
    rw [if_pos rfl]
    first | exact wpAny_bind (wpAny_rule (wpAny_pure ⟨_, rfl, wpAny_pure h⟩)) | exact wpAny_bind (wpAny_rule (wpAny_bind (wpAny_pure (wpAny_pure ⟨_, rfl, wpAny_pure h⟩))))
  · show wpAny _ _ (if (((1 : Int) == 0 && (-1 : Int) == 1 && (2 : Nat) == 2) = true) then _ else _) _ _ s
    rw [if_neg (by decide)]
    have sz : sizeOk (.seq #[y, x]) := by show 2 ≤ sizeLine; decide
    first
      | exact wpAny_bind (m := Builtin.Tuple.tupleExact #[y, x]) (wpAny_newObj_type (wpAny_pure ⟨_, rfl, wpAny_pure h⟩) sz)
      | exact wpAny_bind (m := Builtin.Tuple.tupleExact #[y, x]) (wpAny_newObj_type (wpAny_bind (wpAny_pure (wpAny_pure ⟨_, rfl, wpAny_pure h⟩))) sz)
      | exact wpAny_bind (wpAny_bind (m := Builtin.Tuple.tupleExact #[y, x]) (wpAny_newObj_type (wpAny_pure (wpAny_pure ⟨_, rfl, wpAny_pure h⟩)) sz))
      | exact wpAny_bind (wpAny_bind (m := Builtin.Tuple.tupleExact #[y, x]) (wpAny_newObj_type (wpAny_pure ⟨_, rfl, wpAny_pure h⟩) sz))
end
def tStp (K : PySem.W.Frag) (te tk : TE) : TE := fun σ H Q => te σ H fun x H1 => tk σ H1 fun z H2 => ∃ a u v, x = .ref a ∧ SqT K H2 a [u, v] ∧ ((z = .int 1 ∧ Q (.ref a) H2) ∨ (z = .int (-1) ∧ ∀ p, H2 p = none → Q (.ref p) (upd H2 p (.tup [v, u]))))
theorem no_part {X : Cx} {pins : List (Addr × Obj)} {σ : St} {H : Hp} {s : Shared} {Q : Value → Shared → Prop} (I : Inv X pins σ H s) (h : Q .none s) : wpAny (model X.prog X.w) X.A (evalPart none X.env) Q X.xe s := by
  rw [evalPart_none]
  exact wpAny_pure h
theorem pe_stp {X : Cx} {e st : Expr} {te tk : TE} {p3 pos : Pos} (he : PE X e te) (hk : PE X st tk) (hp : ∀ o i, subscripted (.Slice none none (some st) p3) false o i = operate [o, i] (getItem o i) := by intro _ _; rfl) : PE X (.Subscript e (.Slice none none (some st) p3) pos) (tStp X.K te tk) := by
  constructor
  intro pins s σ H Q I h
  refine Subscript_ (thn (he.run pins s σ H _ I h) ?_)
  rintro v s1 ⟨x, H1, I1, r1, q1⟩
  refine wpAny_Slice (no_part I1 (no_part I1 ?_))
  rw [evalPart_some]
  refine thn (hk.run pins s1 σ H1 _ I1 q1) ?_
  rintro vs s2 ⟨z, H2, I2, rz, a, y1, y2, rfl, hx, q⟩
  obtain rfl : v = .ref a := r1
  have I3 : Inv X pins σ H2 { s2 with heap := s2.heap.push { cls := .type "slice", data := .fields #[.none, .none, vs] } } := I2.kept (t' := s2.toks) fun b ob k => Heap.get?_push_of_some _ k
  obtain ⟨its, r, ht, _⟩ := I3.tuple hx
  obtain ⟨w1, w2, rfl, rw1, rw2⟩ := vals2 r
  have isS := Heap.IsSliceOf.new s2.heap .none .none vs
  have isT : Shared.TypeIs { s2 with heap := s2.heap.push { cls := .type "slice", data := .fields #[.none, .none, vs] } } (.ref a) "tuple" := ht.typeIs
  rcases q with ⟨rfl, q⟩ | ⟨rfl, q⟩ <;> obtain ⟨t, rfl⟩ := rz
  · exact tail_any isT slot_tuple_getitem.lookup (pair_stp ht isS (.int 1 t) (.inl ⟨rfl, .ref a, H2, I3, rfl, q⟩)) (hp _ _)
  · have laid := I3.laid (t' := s2.toks) (o := .tup [y2, y1]) (fun b ob k => Heap.get?_push_of_some { cls := .type "tuple", data := .seq #[w2, w1] } k) (Nat.le_refl _) ⟨by show 2 ≤ sizeLine; decide, [w2, w1], .cons rw2 (.cons rw1 .nil), IsTup.new _ _⟩
    exact tail_any isT slot_tuple_getitem.lookup (pair_stp ht isS (.int (-1) t) (.inr ⟨rfl, .ref _, _, laid, rfl, q _ (I3.hok.fresh (Nat.le_refl _))⟩)) (hp _ _)

/-! ### set(list of ints), k not in it -/
def rSetI (K : PySem.W.Frag) : List V → Hp → VK → Prop := fun xs H Q => ∃ (a : Addr) (ns : List Int), xs = [.ref a] ∧ SqL K H a (ns.map V.int) ∧ ns.length + 1 < scanBound ∧ ∀ p S n, H p = none → (∀ k, S k = decide (k ∈ ns)) → Q (.ref p) (upd H p (.set S n))
theorem getD_any (k : Int) : ∀ ns : List Int, (((List.range ns.length).map fun i => ns.getD i 0).any (· == k)) = decide (k ∈ ns) := by
  intro ns
  have e : ((List.range ns.length).map fun i => ns.getD i 0) = ns := by
    apply List.ext_getElem?
    intro i
    rw [List.getElem?_map]
    by_cases h : i < ns.length
    · rw [List.getElem?_range h, List.getElem?_eq_getElem h]
      simp [List.getD_eq_getElem?_getD, List.getElem?_eq_getElem h]
    · rw [List.getElem?_eq_none (by simpa using Nat.le_of_not_lt h), List.getElem?_eq_none (Nat.le_of_not_lt h)]
      rfl
  rw [e]
  by_cases h : k ∈ ns
  · rw [decide_eq_true h]
    exact List.any_eq_true.mpr ⟨k, h, beq_self_eq_true k⟩
  · rw [decide_eq_false h]
    refine List.any_eq_false.mpr fun x hx hb => h ?_
    rw [← eq_of_beq hb]
    exact hx
theorem cr_setI {X : Cx} (hc : X.calm = true) : CallR X (.type "set") (rSetI X.K) := by
  rintro pins s σ H xs us Q I r ⟨a, ns, rfl, hs, hn, q⟩
  obtain ⟨u, rfl, (ru : u = .ref a)⟩ := vals1 r
  subst ru
  obtain ⟨its, rv, hl, few⟩ := I.list hs
  have len : its.length = ns.length := by rw [← rv.length, List.length_map]
  refine call_set_list (I.ok.hd hc) hl.isList (intsAre_of rv) (by rw [List.size_toArray, len]; exact hn) fun h' tk hS hk => ?_
  have laid := I.laid (t' := tk) (o := .set _ _) (fun b o e => hk b o (Heap.lt_size e) e) (Nat.le_refl _) hS
  refine ⟨.ref _, _, laid, rfl, q _ _ _ (I.hok.fresh (Nat.le_refl _)) fun k => ?_⟩
  rw [firstMet_any, List.size_toArray, len]
  exact getD_any k ns
def rSNotI : V → V → Hp → VK → Prop := fun x y H Q => ∃ k a S n, x = V.int k ∧ y = V.ref a ∧ H a = some (.set S n) ∧ Q (.bl (!S k)) H
theorem op_notset {X : Cx} : OpR X (compareOp .NotIn) rSNotI := by
  rintro pins s σ H x y v u Q I rx ry ⟨k, a, S, n, rfl, rfl, ha, q⟩
  obtain ⟨tk, rfl⟩ := rx
  obtain rfl : u = .ref a := ry
  have at_a : s.heap.SetOf (intKind X.prog X.w) a S n := I.hok a _ ha
  exact wpAny_notInSet_of (intKind_is _ _ _ _) rfl at_a ⟨.bl (!S k), H, I.tok _, rfl, q⟩

/-! a def that the top holds; what a caller uses of it -/
def Def (K : PySem.W.Frag) (mg : Str → Option Value) (x : Str) (st : Stmt) : Prop := ∃ (f : Addr) (fd : FuncData), Fun K x x st f fd ∧ mg x = some (.ref f)
def Cal (P : Program) (w : World) (K : PySem.W.Frag) (mg : Str → Option Value) (base : Heap) (x : Str) (ps : List Str) (k : Nat) (sp : Sp) : Prop :=
  ∃ (f : Addr) (fd : FuncData), mg x = some (.ref f) ∧ PySem.W.keepIn K (.ref f) = true ∧ Binds K fd ps [] ∧ FnOk P w K mg base CX0 k f fd ps sp
theorem Def.ok {P : Program} {w : World} {K : PySem.W.Frag} {mg : Str → Option Value} {base : Heap} {x : Str} {st : Stmt} {N ps : List Str} {k : Nat} {sp : Sp} (D : Def K mg x st) (S : FnScope N ps (defScope st))
    (hb : ∀ (kV doc pm : Value) (an : Option Addr) (cdv ct : Value) (us : List Value), us.length = ps.length → bindArgs (PySem.W.fnOf x x (defArgs st) (defBody st) (defScope st) .none kV doc pm an cdv ct) ⟨us, []⟩ = pure (ps.zip us))
    (ar : ∀ vs H Q E, sp vs H Q E → vs.length = ps.length)
    (hbody : ∀ (f : Addr) (cdv : Value) (A : Around) (outer : List Env) (s : Shared) (H : Hp) (vs : List V) (Q : VK) (E : XK), Room k (A.deeper (envOfC x (defScope st) s.heap.objs.size f cdv)) → sp vs H Q E →
      ∃ t, PSs (cxOf CX0 P w K mg base N x (defScope st) f cdv A outer s H E).nox (defBody st) t ∧ t { nx := fun _ H' => Q .non H', rt := Q } (start N vs) H) : Cal P w K mg base x ps (k + 1) sp := by
  obtain ⟨f, fd, F, m⟩ := D
  exact ⟨f, fd, m, F.kp, F.binds hb, F.ok S ar fun cdv A outer s H vs Q E hr h => hbody f cdv A outer s H vs Q E hr h⟩

/-! heaps -/
/-- all but what stands at a is as it was -/
def But (a : Addr) (H H' : Hp) : Prop := ∀ b o, b ≠ a → H b = some o → H' b = some o
theorem Same.but {a : Addr} {H H' : Hp} (s : Same H H') : But a H H' := fun b o _ e => s b o e
theorem But.trans {a : Addr} {H H1 H2 : Hp} (x : But a H H1) (y : But a H1 H2) : But a H H2 := fun b o n e => y b o n (x b o n e)
theorem Same.upd {H : Hp} {p : Addr} {o : HO} (h : H p = none) : Same H (upd H p o) := fun b x e => by
  rw [upd_ne (ne_of_none e h)]
  exact e
theorem But.upd {a : Addr} {H H' : Hp} (x : But a H H') (o : HO) : But a H (upd H' a o) := fun b u n e => by
  rw [upd_ne n]
  exact x b u n e
/-- what is new at p may change: all that stood in H stands -/
theorem Same.at {H H' : Hp} {p : Addr} {o : HO} (s : Same H H') (h : H p = none) : Same H (L2.upd H' p o) := fun b x e => by
  rw [upd_ne (ne_of_none e h)]
  exact s b x e
theorem But.same {a : Addr} {H0 H H' : Hp} (s : Same H0 H) (n : H0 a = none) (b : But a H H') : Same H0 H' := fun c o e => b c o (ne_of_none e n) (s c o e)
theorem Same.tup {K : PySem.W.Frag} {H H' : Hp} {a : Addr} {xs : List V} (e : Same H H') (h : SqT K H a xs) : SqT K H' a xs := by
  rcases h with (z | ⟨o, z⟩) | z
  · exact .inl (.inl (e _ _ z))
  · exact .inl (.inr ⟨o, e a _ z⟩)
  · exact .inr z
theorem But.tup {K : PySem.W.Frag} {H H' : Hp} {g a : Addr} {xs ys : List V} (e : But g H H') (hg : H g = some (.lst ys)) (h : SqT K H a xs) : SqT K H' a xs := by
  rcases h with (z | ⟨o, z⟩) | z
  · exact .inl (.inl (e _ _ (ne_of z hg (by intro q; cases q)) z))
  · exact .inl (.inr ⟨o, e _ _ (ne_of z hg (by intro q; cases q)) z⟩)
  · exact .inr z
theorem ref_same {H H' : Hp} {a : Addr} {o : HO} (s : Same H H') (h : H a = some o) : H' a = some o := s _ _ h
end L2

/-! own rules: an error that a clause has caught and a local keeps behind the clause; its fields, isinstance of it by its own class -/
namespace L2
open PySem PySem.Spec PyProof.Rows
/-- a caught error, kept: its class, its own dict's address -/
def exk (a : Addr) (cls : Value) (d : Option Addr) : HO :=
  .ext fun g => ∃ ob fs, g.get? a = some ob ∧ Zc cls d ob ∧ ob.data = Data.fields fs
theorem exk_ok {P : Program} {w : World} {H : Hp} {g : Heap} {a : Addr} {cls : Value} {d : Option Addr} {ob : Obj} {fs : Array Value} (e : g.get? a = some ob) (z : Zc cls d ob) (f : ob.data = Data.fields fs) : ObjOk P w H g a (exk a cls d) := by
  refine ⟨⟨ob, fs, e, z, f⟩, ⟨ob, e⟩, ?_⟩
  rintro g1 g2 ⟨ob1, fs1, e1, z1, f1⟩ st
  exact ⟨ob1, fs1, st ob1 e1, z1, f1⟩
theorem exk_at {P : Program} {w : World} {H : Hp} {g : Heap} {a : Addr} {cls : Value} {d : Option Addr} (ok : HOk P w H g) (e : H a = some (exk a cls d)) : ∃ ob fs, g.get? a = some ob ∧ Zc cls d ob ∧ ob.data = Data.fields fs := by
  have z : ObjOk P w H g a (.ext _) := ok a _ e
  exact z.1
section
variable {X : Cx} {H : Hp} {s : Shared} {pins : List (Addr × Obj)} {σ : St}
/-- behind the clause the error is an object of the heap as any other -/
theorem Inv.regain {a : Addr} {cls : Value} {d : Option Addr} {ob : Obj} {fs : Array Value} (I : Inv X pins σ H s) (e : s.heap.get? a = some ob) (z : Zc cls d ob) (f : ob.data = Data.fields fs) (n0 : X.s_0.heap.get? a = none)
    (nl : a ≠ X.env.locals) (np : ∀ p ∈ X.pn ++ pins, p.1 ≠ a) (na : H a = none) : Inv X pins σ (upd H a (exk a cls d)) s where
  ok := I.ok
  os := I.os
  bare := I.bare
  base :=
    { keep := I.base.keep
      slot := I.base.slot
      free := fun b o q n x => by
        have ne : b ≠ a := fun y => by rw [y, n0] at q; cases q
        rw [upd_ne ne]
        exact I.base.free b o q n x
      there := I.base.there
      tups := fun b xs q => by
        have q1 := I.base.tups b xs q
        rw [upd_ne (ne_of_none q1 na)]
        exact q1
      frzs := fun b o u q => by
        have q1 := I.base.frzs b o u q
        rw [upd_ne (ne_of_none q1 na)]
        exact q1
      tbls := fun b ps q => by
        obtain ⟨m, q1⟩ := I.base.tbls b ps q
        rw [upd_ne (ne_of_none q1 na)]
        exact ⟨m, q1⟩ }
  loc := I.loc
  cell := I.cell
  free := by
    rw [upd_ne (Ne.symm nl)]
    exact I.free
  freeC := fun x c q => by
    have ne : c ≠ a := fun y => by
      obtain ⟨v, o, q1, q2⟩ := I.cell x c q
      rw [y, e] at q1
      cases q1
      rw [f] at q2
      exact nomatch q2
    rw [upd_ne ne]
    exact I.freeC x c q
  pin := fun p hp => by
    obtain ⟨q1, q2, q3⟩ := I.pin p hp
    rw [upd_ne (np p hp)]
    exact ⟨q1, q2, q3⟩
  hok := fun b o q => by
    by_cases y : b = a
    · subst y
      rw [upd_same] at q
      cases q
      exact exk_ok e z f
    · rw [upd_ne y] at q
      refine (I.hok b o q).stay (fun _ _ _ r => r) (fun c r => ?_) fun c xs r => ?_
      · rw [upd_ne (ne_of_none r na)]
        exact r
      · rw [upd_ne (ne_of_none r na)]
        exact r
  len := I.len
/-- the wish of the clause 'except x as n', the error kept -/
def wKeep (K : PySem.W.Frag) (c : Value) (i : Nat) (ts : Addr → Value → Option Addr → TS) (Wout : WX) (D : Ends) : WX := fun cls d σ H =>
  ∃ y, PySem.W.exmOne K cls c = some y ∧ (y = false → Wout cls d σ H) ∧ (y = true → ∀ a, H a = none →
    ts a cls d ⟨fun σ1 H1 => D.nx (σ1.set i none) (upd H1 a (exk a cls d)), fun v H1 => D.rt v (upd H1 a (exk a cls d)), fun σ1 H1 => D.bk (σ1.set i none) (upd H1 a (exk a cls d)), fun σ1 H1 => D.ct (σ1.set i none) (upd H1 a (exk a cls d))⟩ (σ.set i (some (.ref a))) H)

variable {x n : Str} {c : Value} {i : Nat} {work suite : List Stmt} {st0 : Stmt} {np q1 q2 : Pos} {tw : WX → TS} {ts : Addr → Value → Option Addr → TS} {Wout : WX}
/-- try: work / except x as n: suite, the error kept behind it -/
theorem ps_try_keep (e1 : X.stack = X.env :: X.outer) (e2 : X.env.frame = some X.env.locals) (e3 : X.ex = []) (nd : X.N.Nodup) (ni : X.N[i]? = some n) (nk : X.env.kindOf n = some .local) (nm : Names X x c) (tk : Takes X Wout)
    (W1 : ∀ (W : WX) (pn : List (Addr × Obj)) (xe : Value → Shared → Prop), Takes (X.tr pn xe) W → PassesOwn (model X.prog X.w) X.A X.env xe → PSs (X.tr pn xe) work (tw W))
    (W2 : ∀ (a : Addr) (ob : Obj) (cls : Value) (d : Option Addr) (pn : List (Addr × Obj)), Zc cls d ob → (∃ fs, ob.data = .fields fs) → PSs (X.suite a ((a, ob) :: pn)) (st0 :: suite) (ts a cls d)) :
    PS X (.Try work [.ExceptHandler (some (.Name x np)) (some n) (st0 :: suite) q1] [] [] q2) (fun D σ H => tw (wKeep X.K c i ts Wout D) D σ H) := by
  constructor
  intro pins s σ H D I h
  have ok := I.ok
  have frm : X.A.frames = some (X.env :: X.outer) := ok.frames.trans (congrArg some e1)
  apply wpAny_Try_except
  have caught : ∀ (xe0 : Value → Shared → Prop) (er : Value) (s9 : Shared), XE (X.tr (X.pn ++ pins) xe0) (wKeep X.K c i ts Wout D) er s9 →
      wpAny (model X.prog X.w) X.A (noteFrame er X.env) (fun _ s₂ => wpAny (model X.prog X.w) X.A (setFlight er none) (fun _ s₃ =>
        wpAny (model X.prog X.w) X.A (handleBy er X.env [.ExceptHandler (some (.Name x np)) (some n) (st0 :: suite) q1]) (SP X pins D) X.xe s₃) X.xe s₂) X.xe s9 := by
    rintro xe0 er s9 ⟨a, B, sI, pins1, σ1, H1, cls, d, rfl, J0, nb, up, sky, na, os, ag, y, ey, no, yes⟩
    have J1 : Inv X pins σ1 H1 sI := J0.ofTry ok
    have sky1 : Sky B (X.env :: X.outer) a (Zc cls d) X.env.locals s9.heap := e1 ▸ sky
    refine Sky.land Zc.steady frm e2 sky1 fun g3 fl3 up3 => ?_
    have J3 : Inv X pins σ1 H1 { s9 with heap := g3 } := J1.landed nb fl3.1 (up.trans up3) os ag
    obtain ⟨ob3, fs3, at3, z3, d3⟩ := fl3.there
    have off : ∀ {g : Heap} {ob : Obj} {fs : Array Value}, g.FunFrames B (X.env :: X.outer) → g.get? a = some ob → ob.data = Data.fields fs → a ∉ frs (X.env :: X.outer) := by
      intro g ob fs ff q r m
      obtain ⟨_, o1, r1, r2⟩ := ff.mem m
      rw [q] at r1
      cases r1
      exact r2 _ r
    have n1 := off fl3.2.2.1 at3 d3
    have nL : a ≠ X.env.locals := by
      intro y
      refine n1 (List.mem_filterMap.mpr ⟨X.env, List.mem_cons_self, ?_⟩)
      rw [e2, y]
    have nF : a ∉ X.fs := by
      intro m
      obtain ⟨v, m1, m2⟩ := List.mem_filterMap.mp m
      exact n1 (List.mem_filterMap.mpr ⟨v, List.mem_cons_of_mem _ m1, m2⟩)
    -- the error is new: it stood neither in the state at the raise nor at the def's start
    have nI : sI.heap.get? a = none := by
      cases q : sI.heap.get? a with
      | none => rfl
      | some o =>
        have r := nb a o q (by rw [e1]; exact n1)
        rw [fl3.2.1] at r
        cases r
    have unborn : X.s_0.heap.get? a = none := by
      cases q : X.s_0.heap.get? a with
      | none => rfl
      | some o =>
        obtain ⟨o1, r⟩ := J1.base.there a o q (by rw [e3]; simp)
        rw [nI] at r
        cases r
    have nP : ∀ p ∈ X.pn ++ pins, p.1 ≠ a := by
      intro p m y
      obtain ⟨r, _⟩ := J1.pin p m
      rw [y, nI] at r
      cases r
    have S3 := J3.suite at3 d3 na nL nF
    refine wpAny_handleBy_cons (codeAny_handlers_test ?_) (fun q => by cases q)
    have lt : PySem.W.Looks (model X.prog X.w) g3 (typeOf (.ref a)) cls := by
      intro A Q E sx k q
      refine wpAny_typeOf_ref (k _ _ at3) ?_
      rw [z3.1]
      exact q
    have lm := PySem.W.exm_one (M := model X.prog X.w) J3.kIn lt ey
    have named : ∀ {Q : Value → Shared → Prop} {E : Value → Shared → Prop}, Q c { s9 with heap := g3 } → wpAny (model X.prog X.w) (X.A.mark (some (.ref a))) (eval (.Name x np) X.env) Q E { s9 with heap := g3 } := by
      intro Q E q
      obtain ⟨m1, m2, m3⟩ := nm
      rcases m3 with m3 | ⟨m3, m4, m5⟩
      · exact ld_glob (X := X.suite a ((a, ob3) :: (X.pn ++ pins))) S3 m1 m3 q m2
      · exact ld_blt (X := X.suite a ((a, ob3) :: (X.pn ++ pins))) S3 m1 m3 m4 q m5 m2
    apply named
    apply lm.here
    cases y with
    | true =>
      apply codeAny_handlers_suite_as
      refine HandSPX.lands_againZ fl3 fun g4 fl4 up4 => ?_
      have J4 : Inv X pins σ1 H1 { s9 with heap := g4 } := J1.landed nb fl4.1 ((up.trans up3).trans up4) os ag
      obtain ⟨ob4, fs4, at4, z4, d4⟩ := fl4.there
      have S4 := J4.suite at4 d4 na nL nF
      refine store_ok (X := X.suite a ((a, ob4) :: (X.pn ++ pins))) (v := .ref a) S4 nd ni (.inl nk) rfl (fun s5 S5 => ?_) (.inr nk)
      refine wpAny_mono ((W2 a ob4 cls d (X.pn ++ pins) z4 ⟨_, d4⟩).run [] s5 _ H1 _ S5 (yes rfl a na)) (fun f s6 sp6 => ?_) (fun _ _ z => z.elim)
      have past : ∀ {σ6 : St} {H6 : Hp} {G : Shared → Prop}, Inv (X.suite a ((a, ob4) :: (X.pn ++ pins))) [] σ6 H6 s6 → (∀ s7, Inv X pins (σ6.set i none) (upd H6 a (exk a cls d)) s7 → G s7) →
          wpAny (model X.prog X.w) X.A (do bindName X.env n .none; unbindBehindTheSuite X.env n q1) (fun _ s7 => G s7) X.xe s6 := by
        intro σ6 H6 G S6 g
        obtain ⟨p1, p2, _⟩ := S6.pin (a, ob4) (List.mem_append_left _ List.mem_cons_self)
        exact gone_ok ((S6.unsuite ok).regain p1 z4 d4 unborn nL nP p2) nd ni nk g
      cases f with
      | next =>
        obtain ⟨σ6, H6, S6, r⟩ := sp6
        exact past S6 fun s7 J7 => ⟨_, _, J7, r⟩
      | brk =>
        obtain ⟨σ6, H6, S6, r⟩ := sp6
        exact past S6 fun s7 J7 => ⟨_, _, J7, r⟩
      | cont =>
        obtain ⟨σ6, H6, S6, r⟩ := sp6
        exact past S6 fun s7 J7 => ⟨_, _, J7, r⟩
      | ret u =>
        obtain ⟨v6, σ6, H6, S6, rr, r⟩ := sp6
        exact past S6 fun s7 J7 => ⟨_, _, _, J7, rr, r⟩
    | false =>
      change wpAny _ X.A (handleBy (.ref a) X.env []) _ _ _
      apply wpAny_handleBy_nil
      obtain ⟨_, _, _, ob, fs, T, oT, ts', at_e, z_e, d_e, f_e, r_e⟩ := id fl3
      unfold PySem.passOn
      refine wpAny_bind (wpAny_field at_e d_e f_e ?_)
      rw [if_neg (by simp)]
      have onward : wpAny (model X.prog X.w) X.A (setFlight (.ref a) X.env.frame) (fun _ s4 => wpAny (model X.prog X.w) X.A (throw (.ref a) : Sem Flow) (SP X pins D) X.xe s4) X.xe { s9 with heap := g3 } := by
        rw [e2]
        refine HandSPX.setFlight_upZ fl3 fun g4 hh4 up4 => wpAny_throw (tk _ _ ⟨a, B, sI, pins, σ1, H1, cls, d, rfl, J1, nb, (up.trans up3).trans up4, .inr (.inr ?_), na, os, ag, no rfl⟩)
        rw [e1]
        exact hh4
      first
        | exact wpAny_bind (wpAny_pure (wpAny_bind onward))
        | exact wpAny_bind onward
  refine wpAny_mono ((W1 (wKeep X.K c i ts Wout D) (X.pn ++ pins) _ (fun u s9 xx => caught _ u s9 xx) PassesOwn.looking).run [] s σ H D (I.toTry _) h) (fun f s9 sp => ?_) (fun e s9 he => he)
  cases f with
  | next =>
    obtain ⟨σ1, H1, J1, q⟩ := sp
    exact wpAny_execs_nil ⟨σ1, H1, J1.ofTry ok, q⟩
  | brk =>
    obtain ⟨σ1, H1, J1, q⟩ := sp
    exact ⟨σ1, H1, J1.ofTry ok, q⟩
  | cont =>
    obtain ⟨σ1, H1, J1, q⟩ := sp
    exact ⟨σ1, H1, J1.ofTry ok, q⟩
  | ret u =>
    obtain ⟨v, σ1, H1, J1, r, q⟩ := sp
    exact ⟨v, σ1, H1, J1.ofTry ok, r, q⟩

/-- err.f, err a kept error of the class at C -/
def tKf (C : Addr) (f : Str) (te : TE) : TE := fun σ H Q => te σ H fun v H1 => ∃ (a d : Addr) (fs : List (Str × V)) (y : V), v = .ref a ∧ H1 a = some (exk a (.ref C) (some d)) ∧ H1 d = some (.xd fs) ∧ fs.lookup f = some y ∧ Q y H1
theorem pe_kf {C : Addr} {e : Expr} {te : TE} {pos : Pos} {f : Str} (T : XfC X.K C) (no : PySem.W.findIn X.K (.ref C) f = some none) (he : PE X e te) (hb : attributeBase e f X.env (eval e X.env) = eval e X.env := by rfl) : PE X (.Attribute e f pos) (tKf C f te) := by
  constructor
  intro pins s σ H Q I h
  refine attr_of hb (thn (he.run pins s σ H _ I h) ?_)
  rintro u s1 ⟨v, H1, I1, rv, a, d, fs, y, rfl, ha, hd, l, q⟩
  obtain rfl : u = Value.ref a := rv
  obtain ⟨ob, vs, g1, z, g2⟩ := exk_at I1.hok ha
  have od1 : ObjOk X.prog X.w H1 s1.heap d (.xd fs) := I1.hok d _ hd
  obtain ⟨m, ns, rl⟩ := od1
  obtain ⟨od, o1, o2⟩ := lookIn_ns ns
  have rl' := rl f
  rw [l] at rl'
  obtain ⟨u, hu, ru⟩ := RelO.some_of (v := y) (o := m f) rl'
  have J : PySem.W.InstAt s1.heap a ob C (some od) := by
    refine ⟨g1, z.1, ?_, ?_⟩
    · unfold PySem.W.notCls
      rw [g2] <;> rfl
    · rw [z.2]
      exact o1
  refine HandSPX.exc_get I1.kIn J T.ga T.gg T.exC (PySem.W.findObj_own T.hdC no rfl ?_) (handed_of ru) ⟨y, H1, I1.tok _, ru, q⟩
  rw [o2, hu]

/-- isinstance(err, C), err of just that class -/
def rIsK (C : Addr) : List V → Hp → VK → Prop := fun xs H Q => ∃ (a : Addr) (d : Option Addr), xs = [.ref a, .ref C] ∧ H a = some (exk a (.ref C) d) ∧ Q (.bl true) H
theorem answers_self {a : Addr} {c : Value} : Answers (fun s => ∃ ob, s.heap.get? a = some ob ∧ ob.cls = c) (.ref a) c true := by
  intro dep tk prog w A R s hs
  obtain ⟨g, g2, d, tt, os⟩ := s
  obtain ⟨⟨ob, e, z⟩, q⟩ := hs
  have lt : PySem.W.Looks (model prog w) g (typeOf (.ref a)) c := by
    intro A Q E sx k q
    refine wpAny_typeOf_ref (k _ _ e) ?_
    rw [z]
    exact q
  (unfold Builtin.«isinstance.nested»)
  refine wpAny_bind (lt.at ?_)
  rw [if_pos (beq_self_eq_true c)]
  first
    | exact wpAny_bind (wpAny_rule (q tt))
    | exact wpAny_bind (wpAny_rule (wpAny_pure (q tt)))
    | exact wpAny_pure (q tt)
theorem call_isK {C : Addr} : CallR X (.builtin "isinstance") (rIsK C) := by
  rintro pins s σ H xs us Q I r ⟨a, d, rfl, e, q⟩
  obtain ⟨y1, y2, rfl, ry1, ry2⟩ := vals2 r
  obtain rfl : y1 = Value.ref a := ry1
  obtain rfl : y2 = Value.ref C := ry2
  obtain ⟨ob, vs, g1, z, g2⟩ := exk_at I.hok e
  exact call_isinstance (S := fun _ R s => (∃ ob, s.heap.get? a = some ob ∧ ob.cls = .ref C) ∧ ∀ tk, R (.ok (.ret (.bool true))) { s with toks := tk })
    (fun prog w A R s hs => isinstance_outer (answers_self 0 _ prog w A R s hs) (fun z => nomatch z)) ⟨⟨ob, g1, z.1⟩, fun tk => ⟨.bl true, H, I.tok tk, rfl, q⟩⟩
end
end L2

/-! own rules: defs that are called while nothing is being shown (no guard stands), so that repr of nested data is its text -/
namespace L2
open PySem PySem.Spec PyProof.Rows
/-- a def's promise, told where no guard stands -/
structure FnG (P : Program) (w : World) (K : PySem.W.Frag) (mg : Str → Option Value) (base : Heap) (k : Nat) (f : Addr) (fd : FuncData) (ps : List Str) (sp : Sp) : Prop where
  ar : ∀ vs H Q E, sp vs H Q E → vs.length = ps.length
  go : ∀ (A : Around) (outer : List Env) (s : Shared) (H : Hp) (args : Args) (us : List Value) (vs : List V) (Q : VK) (E : XK), Room k A → A.guards = some [] → Env0 P w K mg base A outer s H → BindsTo s fd args (ps.zip us) → Vals vs us → sp vs H Q E →
    codeAny (model P w) A (.call (.ref f) args) (CR CX0 outer P w H s Q E) s
section
variable {P : Program} {w : World} {K : PySem.W.Frag}
      {mg : Str → Option Value} {base : Heap}
theorem Fun.okG {x qual : Str} {st : Stmt} {f : Addr} {fd : FuncData} {N ps : List Str} {k : Nat} {sp : Sp} (F : Fun K x qual st f fd) (S : FnScope N ps (defScope st)) (ar : ∀ vs H Q E, sp vs H Q E → vs.length = ps.length)
    (body : ∀ (cdv : Value) (A : Around) (outer : List Env) (s : Shared) (H : Hp) (vs : List V) (Q : VK) (E : XK), Room k (A.deeper (envOfC qual (defScope st) s.heap.objs.size f cdv)) → (A.deeper (envOfC qual (defScope st) s.heap.objs.size f cdv)).guards = some [] → sp vs H Q E →
      ∃ t, PSs (cxOf CX0 P w K mg base N qual (defScope st) f cdv A outer s H E).nox (defBody st) t ∧ t { nx := fun _ H' => Q .non H', rt := Q } (start N vs) H) : FnG P w K mg base (k + 1) f fd ps sp := by
  obtain ⟨oc, od, kV, doc, pm, an, cdv, ct, osl, rfl, at_f, code⟩ := F.ex
  refine ⟨ar, fun A outer s H args us vs Q E room quiet e0 bind rel h => ?_⟩
  have inK : K.In s.heap := e0.mod.kin.keeps fun b o e => (e0.bs b o e).1
  have noLim : s.heap.NoLimit := e0.mod.nolimit.keeps fun b o e => (e0.bs b o e).1
  have arity := ar _ _ _ _ h
  have kinds : ∀ y ∈ ps.zip us, (defScope st).names.lookup y.1 = some .local ∨ ((defScope st).names.lookup y.1 = some .cell ∧ ((cellsFrom (s.heap.objs.size + 1) (defScope st).names []).lookup y.1).isSome = true) := by
    rintro ⟨n, v⟩ hy
    rcases S.par n (List.of_mem_zip
          hy).1 with q | q
    · exact .inl q
    · exact .inr ⟨q, PySem.W.cellsFrom_some
          _ _ _ (.inl q)⟩
  refine codeAny_call_function room.depth (inK _ _ at_f) rfl S.co S.gen rfl (PySem.W.codeRec_of inK code) (bind _ _ _ _ ?_)
  refine wpAny_newFunctionEnv_cells S.kind kinds fun env same s1 made => ?_
  subst same
  refine ⟨noLim.keeps made.toInCall.keep, codeAny_func ?_⟩
  obtain ⟨t, der, rd⟩ := body cdv A outer s H vs Q E (room.deeper _) quiet h
  have I : Inv (cxOf CX0 P w K mg base N qual (defScope st) f cdv A outer s H E) [] (start N vs) H s1 := inv_start S room.hd e0 arity rel made
  refine wpAny_mono (der.nox.run [] s1 (start N vs) H _ I rd) (fun fl s2 z => ?_) fun _ _ z => z
  cases fl with
  | ret u =>
    obtain ⟨v, σ2, H2, J, rv, q⟩ := z
    exact ⟨v, H2, J.os, J.bare, J.base, J.hok, rv, q⟩
  | next =>
    obtain ⟨σ2, H2, J, q⟩ := z
    exact ⟨.non, H2, J.os, J.bare, J.base, J.hok, rfl, q⟩
  | brk =>
    obtain ⟨_, _, _, q⟩ := z
    exact q.elim
  | cont =>
    obtain ⟨_, _, _, q⟩ := z
    exact q.elim
/-- a call of such a def -/
theorem pe_callG {X : Cx} {k : Nat} {f : Addr} {fd : FuncData} {ps : List Str} {sp : Sp} {x : Str} {p pos : Pos} {e : Expr} {es : List Expr} {t : TA} (F : FnG X.prog X.w X.K X.mg X.base k f fd ps sp) (hr : Room k X.A) (hq : X.A.guards = some []) (hg : Gl X x) (hm : X.mg x = some (.ref f)) (hk : PySem.W.keepIn X.K (.ref f) = true)
    (hb : Binds X.K fd ps []) (ha : PA X (e :: es) t) (hdb : (x == ("__debug__" : Str)) = false := by decide) (he : starEach (e :: es) X.env = (false, eval e X.env) :: starEach es X.env := by rfl) (hpl : (backTo pos (starEach es X.env)).any (·.1) = false := by rfl) :
    PE X (.Call (.Name x p) (e :: es) [] pos) (tCall sp [] E0 t) := by
  constructor
  intro pins s σ H Q I h
  refine wpAny_Call_Name_kw
        (ld_glob I hg hm ?_ hdb)
  refine PySem.W.callWith_K (h₀ := X.base) I.ok.mod.kin hk (thn (ha.run pos pins s σ H _ I h) ?_) he hpl
  rintro us s1 ⟨vs, H1, I1, r, q⟩
  refine ⟨I1.kIn, ?_⟩
  have q' : sp vs H1 Q E0 := by
    have z : sp (vs ++ []) H1 Q E0 := q
    rwa [List.append_nil] at z
  have n : us.length = ps.length := by rw [← r.length]; exact F.ar _ _ _ _ q'
  have b := hb s1 us I1.kIn (by rw [List.append_nil]; exact n)
  rw [List.append_nil] at b
  refine wpAny_call (codeAny_mono (F.go X.A X.stack s1 H1 ⟨us, []⟩ us vs Q E0 hr hq I1.env0 b r q') fun res s2 z => ?_)
  cases res with
  | error er => exact (show False from z).elim
  | ok fl =>
    cases fl with
    | ret u => exact I1.after z
    | next => exact (show False from z).elim
    | brk => exact (show False from z).elim
    | cont => exact (show False from z).elim
/-- repr of nested data -/
def rRepD (K : PySem.W.Frag) : List V → Hp → VK → Prop := fun xs H Q => ∃ (a : Addr) (d : PyData), xs = [.ref a] ∧ Dp K H (.ref a) d ∧ d.showable = true ∧ d.hasDict = false ∧ d.depth ≤ 20 ∧ d.shown.length ≤ sizeLine ∧ Q (.str d.shown) H
theorem call_reprD {X : Cx} (hq : X.A.guards = some []) (hu : X.A.units + 64 < cLine) : CallR X (.builtin "repr") (rRepD X.K) := by
  rintro pins s σ H xs us Q I r ⟨a, d, rfl, dp, sh, nd, dep, sz, q⟩
  obtain ⟨u, rfl, (ru : u = .ref a)⟩ := vals1 r
  subst ru
  obtain ⟨as, rd⟩ := Dp.reads I d _ _ dp rfl
  refine repr_of_reads' rd sh (fun z => by rw [nd] at z; cases z) hq (by omega) (fun _ _ e => e) (fun h' u tk k => ?_) sz
  exact ⟨.str d.shown, H, I.kept k, ⟨u, rfl⟩, q⟩
/-- the law's own call -/
theorem law_callG {mb : Str → Option Value} {k : Nat} {fa a : Addr} {fd : FuncData} {x : Str} {sp : Sp} {s₁ : Shared} {vs : List Value} {ns : List Int} (inK : K.In s₁.heap) (glob : s₁.heap.Ns mainGlobals mg) (bi : s₁.heap.Ns builtinsNs mb) (bb : ∀ y : Str, y ≠ "__name__" → mb y = bootBuiltins y)
    (noLim : s₁.heap.NoLimit) (noGen : s₁.gens = #[]) (list : s₁.heap.get? a = some { cls := .type "list", data := .seq vs.toArray }) (wholes : IntsAre vs ns) (size : ns.length ≤ sizeLine) (room : Room k callerA)
    (F : ∀ base : Heap, K.In base → base.Ns mainGlobals mg → FnG P w K mg base k fa fd [x] sp) (bind : ∀ (s : Shared) (u : Value), BindsTo s fd ⟨[u], []⟩ [(x, u)]) (h : ∀ H : Hp, Only H → SqL K H a (ns.map V.int) → sp [.ref a] H (fun v _ => v = .bl true) fun _ _ _ => False) :
    codeAny (model P w) callerA (.call (.ref fa) ⟨[.ref a], []⟩) (fun r s' => r = .ok (.ret
          (.bool true)) ∧ OldK s₁.heap s'.heap ∧ s'.os = s₁.os ∧ AllBare s'.gens) s₁ := by
  have items := vals_ints wholes
  have few := wholes.length
  have main : ∀ H : Hp, Only H → SqL K H a (ns.map V.int) → HOk P w H s₁.heap → (∀ b u, H b = some u → b = a ∧ K.lookup a = none) →
      codeAny (model P w) callerA (.call (.ref fa) ⟨[.ref a], []⟩) (fun r s' => r = .ok (.ret
            (.bool true)) ∧ OldK s₁.heap s'.heap ∧ s'.os = s₁.os ∧ AllBare s'.gens) s₁ := by
    intro H only seq ok just
    have under : ∀ {b : Addr} {o : Obj}, s₁.heap.get? b = some o → H b = none → (hidT s₁.heap H).get? b = some o := fun e n => hidT_get e n
    have nsp : ∀ {b : Addr} {m : Str → Option Value}, s₁.heap.Ns b m → (hidT s₁.heap H).Ns b m := by
      rintro b m ⟨o, es, ep, e, d, r⟩
      refine ⟨o, es, ep, under e ?_, d, r⟩
      cases q : H b with
      | none => rfl
      | some u =>
        obtain ⟨rfl, _⟩ := just b u q
        rw [list] at e
        cases e
        exact nomatch (show Data.seq vs.toArray _ = Data.dict es ep from d)
    have inB : K.In (hidT s₁.heap H) := by
      intro b o e
      refine under (inK b o e) ?_
      cases q : H b with
      | none => rfl
      | some u =>
        obtain ⟨rfl, z⟩ := just b u q
        rw [z] at e
        cases e
    have modu : Mod K mg (hidT s₁.heap H) := by
      obtain ⟨mc, l1, l2⟩ := noLim
      exact ⟨inB, nsp glob, ⟨mb, nsp bi, bb⟩, ⟨mc, nsp l1, l2⟩⟩
    have e0 : Env0 P w K mg (hidT s₁.heap H) callerA [] s₁ H := ⟨rfl, modu, fun b o e => of_hidT e, Nat.le_of_eq (hidT_size _ _), trivial, fun b hb => absurd (show b ∈ ([] : List Addr) from hb) List.not_mem_nil, ok, .of_eq noGen⟩
    refine codeAny_mono ((F _ inB (nsp glob)).go callerA [] s₁ H ⟨[.ref a], []⟩ [.ref a] [.ref a] _ _ room rfl e0 (bind s₁ (.ref a)) (.cons rfl .nil) (h H only seq)) fun r s2 z => ?_
    cases r with
    | error e => exact (show False from z).elim
    | ok fl =>
      cases fl with
      | next => exact (show False from z).elim
      | brk => exact (show False from z).elim
      | cont => exact (show False from z).elim
      | ret u =>
        obtain ⟨v, H2, os, bare, un, ok2, rv, (q : v = .bl true)⟩ := z
        subst q
        obtain rfl : u = Value.bool true := rv
        refine ⟨rfl, OldK.of_keep fun
              b o e => ?_, os, bare⟩
        cases q : H b with
        | none => exact un.keep b o e q (by simp [frs]) (by simp)
        | some u =>
          rcases only b with y | ⟨ob, xs, y⟩
          · rw [q] at y
            cases y
          · have y2 := un.frzs b ob _ y
            obtain ⟨e1, _⟩ := ok b _ y
            obtain ⟨e2, _⟩ := ok2 b _ y2
            rw [e] at e1
            cases e1
            exact e2
  cases hk : K.lookup a with
  | some o =>
    have e := inK a o hk
    rw [list] at e
    cases e
    refine main (fun _ => none) (fun _ => .inl rfl) (.inr ⟨_, vs.toArray, _, hk, rfl, rfl, rfl, ?_, by simpa using items⟩) (fun b u z => nomatch (show (none : Option HO) = some u from z)) (fun b u z => nomatch (show (none : Option HO) = some u from z))
    rw [List.size_toArray, few]
    exact size
  | none =>
    have one : ∀ b u, (if b = a then some (HO.frz { cls := .type "list", data := .seq vs.toArray } (.lst (ns.map V.int))) else none) = some u → b = a ∧ u = HO.frz { cls := .type "list", data := .seq vs.toArray } (.lst (ns.map V.int)) := by
      intro b u z
      by_cases y : b = a
      · rw [if_pos y] at z
        exact ⟨y, (Option.some.inj z).symm⟩
      · rw [if_neg y] at z
        cases z
    refine main (fun b => if b = a then some (.frz { cls := .type "list", data := .seq vs.toArray } (.lst (ns.map V.int))) else none) (fun b => ?_) (.inl (.inr ⟨_, if_pos rfl⟩)) (fun b u z => ?_) (fun b u z => ⟨(one b u z).1, hk⟩)
    · by_cases y : b = a
      · exact .inr ⟨_, _, if_pos y⟩
      · exact .inl (if_neg y)
    · obtain ⟨rfl, rfl⟩ := one b u z
      exact ⟨list, by rw [List.length_map]; exact size, vs, _, items, list⟩
end
/-- the head's goal from such a promise -/
theorem walk_ofG {l : PySem.W.OpenLaw} {n k : Nat} {q : Program} {loose : List Str} {XP : (Str → Option Value) → Heap → Prop} {YP : World → Heap → Prop} {d : DefRec} {K : Params → PySem.W.Frag} {sp : World → Sp} {x : Str} (most : l.most = some n) (fits : n ≤ sizeLine) (noDef : d.params.defaults = []) (room : Room k callerA)
    (inK : ∀ (w : World) (h : Heap), YP w h → (K w.params).In h)
    (F : ∀ (w : World) (mg : Str → Option Value) (fa : Addr) (h : Heap), (K
          w.params).In h → h.Ns mainGlobals mg → mg d.name = some (.ref fa) →
      ∃ fd : FuncData, (∀ (s : Shared) (u : Value), BindsTo s fd ⟨[u], []⟩ [(x, u)]) ∧ ∀ base : Heap, (K w.params).In base → base.Ns mainGlobals mg → FnG l.prog w (K w.params) mg base k fa fd [x] (sp w))
    (h : ∀ (w : World) (H : Hp) (a : Addr) (ns : List Int), ns.length ≤ n → Only H → SqL (K w.params) H a (ns.map V.int) → sp w [.ref a] H (fun v _ => v = .bl true) fun _ _ _ => False) :
    PySem.W.WalkO q loose XP YP l.row.toRowW
          d [] (fun f vs => PySem.call f vs) := by
  refine Att.attach_call most noDef fun w s₀ s₁ mg mb fa o pm cd doc a vs ns G Y _ _ _ name list wholes len gens => ?_
  have KX := inK w _ Y
  obtain ⟨fd, bind, made⟩ := F w mg fa _ KX G.T.g name
  exact law_callG KX G.T.g G.T.b G.T.builtins G.T.nolimit gens list wholes (Nat.le_trans len fits) room made bind fun H only seq => h w H a ns len only seq
end L2

/-! trees: the mathematics -/
namespace K5
/-- doors es, each (parent, child), children all different; a bridge each; all connected -/
structure Tr0 (n : Nat) (es : List (Nat × Nat)) : Prop where
  len : es.length + 1 = n
  lt : ∀ e ∈ es, e.1 < n ∧ e.2 < n
  nd : (es.map Prod.snd).Nodup
  side : ∃ side : Nat → Nat → Bool, (∀ e ∈ es, side e.2 e.1 ≠ side e.2 e.2) ∧ ∀ e ∈ es, ∀ f ∈ es, e.2 ≠ f.2 → side e.2 f.1 = side e.2 f.2
  conn : ∀ S : Nat → Prop, (∀ e ∈ es, S e.1 ↔ S e.2) → ∀ x y, x < n → y < n → S x → S y
theorem Tr0.one : Tr0 1 [] where
  len := rfl
  lt := fun _ h => nomatch h
  nd := List.nodup_nil
  side := ⟨fun _ _ => true, fun _ h => (nomatch h), fun _ h => (nomatch h)⟩
  conn := fun S _ x y hx hy h => (show x = y by omega) ▸ h
theorem Tr0.grow {n : Nat} {es : List (Nat × Nat)} (T : Tr0 n es) (o : Nat) (ho : o < n) : Tr0 (n + 1) (es ++ [(o, n)]) := by
  obtain ⟨len, lt, nd, ⟨side, s1, s2⟩, conn⟩ := T
  have hn : ∀ e ∈ es, e.2 ≠ n := fun e h => by have := (lt e h).2; omega
  have hn1 : ∀ e ∈ es, e.1 ≠ n := fun e h => by have := (lt e h).1; omega
  refine ⟨by simp; omega, fun e h => ?_, ?_, ⟨fun c x => if c = n then decide (x = n) else if x = n then side c o else side c x, fun e h => ?_, fun e h f hf hne => ?_⟩, fun S hS x y hx hy h => ?_⟩
  · rcases List.mem_append.mp h with h | h
    · have := lt e h; omega
    · rw [List.mem_singleton.mp h]; exact ⟨Nat.lt_succ_of_lt ho, Nat.lt_succ_self _⟩
  · rw [List.map_append]
    refine List.nodup_append.mpr ⟨nd, by simp, fun a ha b hb => ?_⟩
    obtain ⟨e, he, rfl⟩ := List.mem_map.mp ha
    simp at hb
    rw [hb]
    exact hn e he
  · rcases List.mem_append.mp h with h | h
    · simp only [if_neg (hn e h), if_neg (hn1 e h)]
      exact s1 e h
    · rw [List.mem_singleton.mp h]
      simp only [if_pos rfl]
      rw [decide_eq_false (show ¬ o = n by omega)]
      simp
  · rcases List.mem_append.mp h with h | h
    · simp only [if_neg (hn e h)]
      rcases List.mem_append.mp hf with hf | hf
      · simp only [if_neg (hn f hf), if_neg (hn1 f hf)]
        exact s2 e h f hf hne
      · rw [List.mem_singleton.mp hf]
        simp only [if_neg (show ¬ o = n by omega), if_true]
    · rcases List.mem_append.mp hf with hf | hf
      · rw [List.mem_singleton.mp h]
        simp only [if_true]
        rw [decide_eq_false (hn f hf), decide_eq_false (hn1 f hf)]
      · rw [List.mem_singleton.mp h, List.mem_singleton.mp hf] at hne
        exact absurd rfl hne
  · have h0 : ∀ e ∈ es, S e.1 ↔ S e.2 := fun e he => hS e (List.mem_append.mpr (.inl he))
    have h1 : S o ↔ S n := hS (o, n) (List.mem_append.mpr (.inr (List.mem_singleton.mpr rfl)))
    by_cases ex : x = n
    · subst ex
      have so : S o := h1.mpr h
      by_cases ey : y = x
      · exact ey ▸ h
      · exact conn S h0 o y ho (by omega) so
    · have sx : S o := conn S h0 x o (by omega) ho h
      by_cases ey : y = n
      · exact ey ▸ h1.mp sx
      · exact conn S h0 x y (by omega) (by omega) h
theorem Tr0.perm {n : Nat} {es fs : List (Nat × Nat)} (T : Tr0 n es) (p : fs.Perm es) : Tr0 n fs := by
  obtain ⟨len, lt, nd, ⟨side, s1, s2⟩, conn⟩ := T
  exact ⟨by rw [p.length_eq]; exact len, fun e h => lt e (p.mem_iff.mp h), (p.map Prod.snd).nodup_iff.mpr nd,
    ⟨side, fun e h => s1 e (p.mem_iff.mp h), fun e h f hf => s2 e (p.mem_iff.mp h) f (p.mem_iff.mp hf)⟩,
    fun S hS => conn S fun e h => hS e (p.mem_iff.mpr h)⟩
/-- renamed by a list of names that is a rearrangement of 0 .. n - 1 -/
theorem Tr0.names {n : Nat} {es : List (Nat × Nat)} (T : Tr0 n es) (f g : Nat → Nat) (h1 : ∀ x, x < n → f x < n) (h2 : ∀ x, x < n → g (f x) = x) (h3 : ∀ y, y < n → g y < n ∧ f (g y) = y) :
    Tr0 n (es.map fun e => (f e.1, f e.2)) := by
  obtain ⟨len, lt, nd, ⟨side, s1, s2⟩, conn⟩ := T
  refine ⟨by rw [List.length_map]; exact len, fun e h => ?_, ?_, ⟨fun c x => side (g c) (g x), fun e h => ?_, fun e h e' h' hne => ?_⟩, fun S hS x y hx hy h => ?_⟩
  · obtain ⟨a, ha, rfl⟩ := List.mem_map.mp h
    exact ⟨h1 _ (lt a ha).1, h1 _ (lt a ha).2⟩
  · rw [List.map_map]
    have q : ∀ l : List (Nat × Nat), (∀ e ∈ l, e.2 < n) → (l.map Prod.snd).Nodup → (l.map (Prod.snd ∘ fun e => (f e.1, f e.2))).Nodup := by
      intro l
      induction l with
      | nil => intro _ _; exact List.nodup_nil
      | cons a r ih =>
        intro hl hd
        rw [List.map_cons] at hd ⊢
        obtain ⟨d1, d2⟩ := List.nodup_cons.mp hd
        refine List.nodup_cons.mpr ⟨fun m => d1 ?_, ih (fun e he => hl e (List.mem_cons_of_mem _ he)) d2⟩
        obtain ⟨b, hb, e⟩ := List.mem_map.mp m
        have e' : f b.2 = f a.2 := e
        have : b.2 = a.2 := by rw [← h2 b.2 (hl b (List.mem_cons_of_mem _ hb)), e', h2 a.2 (hl a List.mem_cons_self)]
        exact List.mem_map.mpr ⟨b, hb, this⟩
    exact q es (fun e he => (lt e he).2) nd
  · obtain ⟨a, ha, rfl⟩ := List.mem_map.mp h
    show side (g (f a.2)) (g (f a.1)) ≠ side (g (f a.2)) (g (f a.2))
    rw [h2 _ (lt a ha).1, h2 _ (lt a ha).2]
    exact s1 a ha
  · obtain ⟨a, ha, rfl⟩ := List.mem_map.mp h
    obtain ⟨b, hb, rfl⟩ := List.mem_map.mp h'
    show side (g (f a.2)) (g (f b.1)) = side (g (f a.2)) (g (f b.2))
    rw [h2 _ (lt a ha).2, h2 _ (lt b hb).1, h2 _ (lt b hb).2]
    exact s2 a ha b hb fun e => hne (by show f a.2 = f b.2; rw [e])
  · have q := conn (fun z => S (f z)) (fun e he => hS _ (List.mem_map.mpr ⟨e, he, rfl⟩)) (g x) (g y) (h3 x hx).1 (h3 y hy).1 (by show S (f (g x)); rw [(h3 x hx).2]; exact h)
    have q' : S (f (g y)) := q
    rw [(h3 y hy).2] at q'
    exact q'

/-- a house of n rooms that is a tree, its doors by their numbers, the ends in either order -/
structure Tree (n : Nat) (ds : List (Nat × Nat)) : Prop where
  len : ds.length + 1 = n
  lt : ∀ e ∈ ds, e.1 < n ∧ e.2 < n
  side : ∃ side : Nat → Nat → Bool, (∀ d e, ds[d]? = some e → side d e.1 ≠ side d e.2) ∧ ∀ c d e, ds[d]? = some e → c ≠ d → side c e.1 = side c e.2
  conn : ∀ S : Nat → Prop, (∀ e ∈ ds, S e.1 ↔ S e.2) → ∀ x y, x < n → y < n → S x → S y
/-- pointwise the same up to the order of the ends -/
inductive Flip : List (Nat × Nat) → List (Nat × Nat) → Prop
  | nil : Flip [] []
  | same {e es fs} (h : Flip es fs) : Flip (e :: es) (e :: fs)
  | turn {a b es fs} (h : Flip es fs) : Flip ((a, b) :: es) ((b, a) :: fs)
theorem Flip.len : ∀ {es fs}, Flip es fs → es.length = fs.length
  | _, _, .nil => rfl
  | _, _, .same h => by rw [List.length_cons, List.length_cons, h.len]
  | _, _, .turn h => by rw [List.length_cons, List.length_cons, h.len]
theorem Flip.get : ∀ {es fs}, Flip es fs → ∀ {d : Nat} {f : Nat × Nat}, fs[d]? = some f → ∃ e, es[d]? = some e ∧ (f = e ∨ f = (e.2, e.1))
  | _, _, .nil, d, f, h => by simp at h
  | _, _, .same h, 0, f, e => ⟨_, rfl, .inl (Option.some.inj e).symm⟩
  | _, _, .turn h, 0, f, e => ⟨_, rfl, .inr (Option.some.inj e).symm⟩
  | _, _, .same h, d + 1, f, e => h.get (d := d) e
  | _, _, .turn h, d + 1, f, e => h.get (d := d) e
theorem Flip.get' : ∀ {es fs}, Flip es fs → ∀ {d : Nat} {e : Nat × Nat}, es[d]? = some e → ∃ f, fs[d]? = some f ∧ (f = e ∨ f = (e.2, e.1))
  | _, _, .nil, d, f, h => by simp at h
  | _, _, .same h, 0, f, e => ⟨_, rfl, .inl (Option.some.inj e)⟩
  | _, _, .turn h, 0, f, e => ⟨_, rfl, .inr (by rw [← Option.some.inj e])⟩
  | _, _, .same h, d + 1, f, e => h.get' (d := d) e
  | _, _, .turn h, d + 1, f, e => h.get' (d := d) e
theorem Flip.snoc : ∀ {es fs} (e : Nat × Nat), Flip es fs → Flip (es ++ [e]) (fs ++ [e])
  | _, _, _, .nil => .same .nil
  | _, _, e, .same h => .same (h.snoc e)
  | _, _, e, .turn h => .turn (h.snoc e)
theorem Flip.snocT : ∀ {es fs} (a b : Nat), Flip es fs → Flip (es ++ [(a, b)]) (fs ++ [(b, a)])
  | _, _, _, _, .nil => .turn .nil
  | _, _, a, b, .same h => .same (h.snocT a b)
  | _, _, a, b, .turn h => .turn (h.snocT a b)
theorem Flip.refl : ∀ es, Flip es es
  | [] => .nil
  | _ :: r => .same (Flip.refl r)
theorem Tr0.tree {n : Nat} {es ds : List (Nat × Nat)} (T : Tr0 n es) (F : Flip es ds) : Tree n ds := by
  obtain ⟨len, lt, nd, ⟨side, s1, s2⟩, conn⟩ := T
  refine ⟨by rw [← F.len]; exact len, fun f h => ?_, ⟨fun d x => match es[d]? with | some e => side e.2 x | none => true, fun d f h => ?_, fun c d f h hne => ?_⟩, fun S hS => conn S fun e he => ?_⟩
  · obtain ⟨d, hd⟩ := List.mem_iff_getElem?.mp h
    obtain ⟨e, he, q⟩ := F.get hd
    have := lt e (List.mem_of_getElem? he)
    rcases q with q | q <;> subst q
    · exact this
    · exact ⟨this.2, this.1⟩
  · obtain ⟨e, he, q⟩ := F.get h
    have := s1 e (List.mem_of_getElem? he)
    simp only [he]
    rcases q with q | q <;> subst q
    · exact this
    · exact this.symm
  · obtain ⟨e, he, q⟩ := F.get h
    cases hc : es[c]? with
    | none => simp only [hc]
    | some e' =>
      simp only [hc]
      have hne2 : e'.2 ≠ e.2 := fun z => by
        apply hne
        obtain ⟨hd, hed⟩ := List.getElem?_eq_some_iff.mp he
        obtain ⟨hc', hec⟩ := List.getElem?_eq_some_iff.mp hc
        exact (List.getElem_inj (xs := es.map Prod.snd) (h₀ := by simpa using hc') (h₁ := by simpa using hd) nd).mp (by simp [hed, hec, z])
      have := s2 e' (List.mem_of_getElem? hc) e (List.mem_of_getElem? he) hne2
      rcases q with q | q <;> subst q
      · exact this
      · exact this.symm
  · obtain ⟨d, hd⟩ := List.mem_iff_getElem?.mp he
    obtain ⟨f, hf, q⟩ := F.get' hd
    have := hS f (List.mem_of_getElem? hf)
    rcases q with q | q <;> subst q
    · exact this
    · exact this.symm

/-- door d joins x and y -/
def Joins (ds : List (Nat × Nat)) (d x y : Nat) : Prop := ds[d]? = some (x, y) ∨ ds[d]? = some (y, x)
theorem Joins.symm {ds d x y} (j : Joins ds d x y) : Joins ds d y x := Or.symm j
theorem Joins.other {ds d x y z} (j : Joins ds d x y) (k : Joins ds d x z) (hxy : x ≠ y) : y = z := by
  rcases j with j | j <;> rcases k with k | k <;> rw [j] at k <;> cases k
  · rfl
  · exact absurd rfl hxy
  · exact absurd rfl hxy
  · rfl
/-- a way by the doors of the list -/
inductive Walk (ds : List (Nat × Nat)) : Nat → List Nat → Nat → Prop
  | nil (a) : Walk ds a [] a
  | cons {a c b d p} (j : Joins ds d a c) (w : Walk ds c p b) : Walk ds a (d :: p) b
theorem Walk.snoc {ds a p b d c} (w : Walk ds a p b) (j : Joins ds d b c) : Walk ds a (p ++ [d]) c := by
  induction w with
  | nil a => exact .cons j (.nil _)
  | cons j' w ih => exact .cons j' (ih j)
theorem Walk.app {ds a p b q c} (w : Walk ds a p b) (v : Walk ds b q c) : Walk ds a (p ++ q) c := by
  induction w with
  | nil a => exact v
  | cons j' w ih => exact .cons j' (ih v)
theorem Walk.rev {ds a p b} (w : Walk ds a p b) : Walk ds b p.reverse a := by
  induction w with
  | nil a => exact .nil _
  | cons j w ih =>
    rw [List.reverse_cons]
    exact ih.snoc j.symm
theorem Walk.split {ds} {e : Nat} : ∀ {a p b}, Walk ds a p b → e ∈ p → ∃ p1 p2 x y, p = p1 ++ e :: p2 ∧ Walk ds a p1 x ∧ Joins ds e x y ∧ Walk ds y p2 b
  | _, _, _, .nil a, h => by cases h
  | a, d :: p, b, .cons j w, h => by
    by_cases q : e = d
    · subst q
      exact ⟨[], p, a, _, rfl, .nil _, j, w⟩
    · have h' : e ∈ p := (List.mem_cons.mp h).resolve_left q
      obtain ⟨p1, p2, x, y, e1, w1, j1, w2⟩ := Walk.split w h'
      exact ⟨d :: p1, p2, x, y, by rw [e1]; rfl, .cons j w1, j1, w2⟩
section
variable {n : Nat} {ds : List (Nat × Nat)}
theorem side_join {side : Nat → Nat → Bool} (s1 : ∀ d e, ds[d]? = some e → side d e.1 ≠ side d e.2) {d x y : Nat} (j : Joins ds d x y) : side d x ≠ side d y := by
  rcases j with j | j
  · exact s1 _ _ j
  · exact (s1 _ _ j).symm
theorem side_other {side : Nat → Nat → Bool} (s2 : ∀ c d e, ds[d]? = some e → c ≠ d → side c e.1 = side c e.2) {c d x y : Nat} (j : Joins ds d x y) (h : c ≠ d) : side c x = side c y := by
  rcases j with j | j
  · exact s2 _ _ _ j h
  · exact (s2 _ _ _ j h).symm
theorem side_walk {side : Nat → Nat → Bool} (s2 : ∀ c d e, ds[d]? = some e → c ≠ d → side c e.1 = side c e.2) {c : Nat} : ∀ {a p b}, Walk ds a p b → c ∉ p → side c a = side c b
  | _, _, _, .nil a, _ => rfl
  | _, _, _, .cons j w, h => by
    rw [side_other s2 j fun e => h (by rw [e]; exact List.mem_cons_self)]
    exact side_walk s2 w fun m => h (List.mem_cons_of_mem _ m)
theorem side_use {side : Nat → Nat → Bool} (s1 : ∀ d e, ds[d]? = some e → side d e.1 ≠ side d e.2) (s2 : ∀ c d e, ds[d]? = some e → c ≠ d → side c e.1 = side c e.2) {c : Nat} {a p b} (w : Walk ds a p b) (nd : p.Nodup) (h : c ∈ p) : side c a ≠ side c b := by
  obtain ⟨p1, p2, x, y, rfl, w1, j, w2⟩ := w.split h
  obtain ⟨n1, n2, n3⟩ := List.nodup_append.mp nd
  have c1 : c ∉ p1 := fun m => n3 c m c List.mem_cons_self rfl
  have c2 : c ∉ p2 := (List.nodup_cons.mp n2).1
  rw [side_walk s2 w1 c1, ← side_walk s2 w2 c2]
  exact side_join s1 j
theorem way_unique (T : Tree n ds) : ∀ {p q a b}, Walk ds a p b → Walk ds a q b → p.Nodup → q.Nodup → p = q := by
  obtain ⟨side, s1, s2⟩ := T.side
  intro p
  induction p with
  | nil =>
    intro q a b w v np nq
    cases w
    cases v with
    | nil => rfl
    | cons j v => exact absurd rfl (side_use s1 s2 (.cons j v) nq List.mem_cons_self)
  | cons d p ih =>
    intro q a b w v np nq
    have hd := side_use s1 s2 w np List.mem_cons_self
    cases w with
    | @cons _ c _ _ _ j w =>
    cases v with
    | nil => exact absurd rfl hd
    | @cons _ c' _ e q j' v =>
      by_cases hde : d = e
      · subst hde
        have hac : a ≠ c := fun z => side_join s1 j (by rw [z])
        have := j.other j' hac
        subst this
        rw [ih w v (List.nodup_cons.mp np).2 (List.nodup_cons.mp nq).2]
      · exfalso
        have he := side_use s1 s2 (.cons j' v) nq List.mem_cons_self
        have hep : e ∈ p := by
          refine Classical.byContradiction fun hn => he ?_
          rw [side_other s2 j (Ne.symm hde)]
          exact side_walk s2 w hn
        obtain ⟨p1, p2, x, y, rfl, w1, j1, w2⟩ := w.split hep
        have n0 := List.nodup_cons.mp np
        obtain ⟨n1, n2, n3⟩ := List.nodup_append.mp n0.2
        have c1 : e ∉ p1 := fun m => n3 e m e List.mem_cons_self rfl
        have hx : side e x = side e a := by
          rw [← side_walk s2 w1 c1, ← side_other s2 j (Ne.symm hde)]
        have hxa : x = a := by
          rcases j1 with k | k <;> rcases j' with k' | k' <;> rw [k] at k' <;> cases k'
          · rfl
          · exact absurd hx.symm (s1 _ _ k).symm
          · exact absurd hx.symm (s1 _ _ k)
          · rfl
        subst hxa
        have c2 : d ∉ p1 := fun m => n0.1 (List.mem_append.mpr (.inl m))
        exact side_join s1 j (side_walk s2 w1 c2).symm
theorem way_uses (T : Tree n ds) {side : Nat → Nat → Bool} (s1 : ∀ d e, ds[d]? = some e → side d e.1 ≠ side d e.2) (s2 : ∀ c d e, ds[d]? = some e → c ≠ d → side c e.1 = side c e.2) {a p b d} (w : Walk ds a p b) (np : p.Nodup) : d ∈ p ↔ side d a ≠ side d b :=
  ⟨side_use s1 s2 w np, fun h => Classical.byContradiction fun hn => h (side_walk s2 w hn)⟩
theorem Joins.lt (T : Tree n ds) {d x y} (j : Joins ds d x y) : x < n ∧ y < n ∧ d + 1 < n ∧ x ≠ y := by
  obtain ⟨side, s1, s2⟩ := T.side
  have ne : x ≠ y := fun z => side_join s1 j (by rw [z])
  have hl := T.len
  rcases j with j | j
  · have := T.lt _ (List.mem_of_getElem? j)
    have h := (List.getElem?_eq_some_iff.mp j).1
    exact ⟨this.1, this.2, by omega, ne⟩
  · have := T.lt _ (List.mem_of_getElem? j)
    have h := (List.getElem?_eq_some_iff.mp j).1
    exact ⟨this.2, this.1, by omega, ne⟩
end
end K5

namespace K5
structure Uf (n : Nat) (L : List Nat) (rank : Nat → Nat) (R : Nat → Nat → Prop) : Prop where
  len : L.length = n
  at_ : ∀ x y, L[x]? = some y → y < n ∧ R x y ∧ (y ≠ x → rank y < rank x)
theorem get_lt {α : Type} {L : List α} {x : Nat} {y : α} (h : L[x]? = some y) : x < L.length := (List.getElem?_eq_some_iff.mp h).1
theorem get_set {α : Type} {L : List α} {x w : Nat} {z v : α} (h : (L.set x z)[w]? = some v) : (w = x ∧ v = z) ∨ (w ≠ x ∧ L[w]? = some v) := by
  rw [List.getElem?_set] at h
  by_cases e : x = w
  · rw [if_pos e] at h
    split at h
    · exact .inl ⟨e.symm, (Option.some.inj h).symm⟩
    · cases h
  · rw [if_neg e] at h
    exact .inr ⟨fun q => e q.symm, h⟩
theorem Uf.half {n L rank R} (u : Uf n L rank R) (tr : ∀ a b c, R a b → R b c → R a c) {x y z : Nat} (hx : L[x]? = some y) (hy : L[y]? = some z) : Uf n (L.set x z) rank R := by
  refine ⟨by rw [List.length_set]; exact u.len, fun w v h => ?_⟩
  rcases get_set h with ⟨rfl, rfl⟩ | ⟨_, h⟩
  · obtain ⟨a1, a2, a3⟩ := u.at_ _ _ hx
    obtain ⟨b1, b2, b3⟩ := u.at_ _ _ hy
    refine ⟨b1, tr _ _ _ a2 b2, fun ne => ?_⟩
    by_cases e : y = w
    · subst e
      rw [hx] at hy
      exact absurd (Option.some.inj hy).symm ne
    · have := a3 e
      by_cases e2 : v = y
      · subst e2; exact this
      · exact Nat.lt_trans (b3 e2) this
  · exact u.at_ _ _ h
theorem Uf.less {n L rank R} (u : Uf n L rank R) {x y z : Nat} (hx : L[x]? = some y) (hy : L[y]? = some z) (ne : y ≠ x) : rank z < rank x := by
  have h1 := (u.at_ _ _ hx).2.2 ne
  by_cases e : z = y
  · subst e; exact h1
  · exact Nat.lt_trans ((u.at_ _ _ hy).2.2 e) h1
theorem Uf.range (n : Nat) (R : Nat → Nat → Prop) (rf : ∀ a, R a a) : Uf n (List.range n) (fun _ => 0) R := by
  refine ⟨List.length_range, fun x y h => ?_⟩
  have hx : x < n := by simpa using get_lt h
  rw [List.getElem?_range hx] at h
  have e : x = y := Option.some.inj h
  subst e
  exact ⟨hx, rf _, fun z => absurd rfl z⟩
/-- alike for all doors from k on -/
def Rk (side : Nat → Nat → Bool) (k : Nat) (x y : Nat) : Prop := ∀ d, k ≤ d → side d x = side d y
theorem Rk.tr {side k} : ∀ a b c, Rk side k a b → Rk side k b c → Rk side k a c := fun a b c h1 h2 d hd => (h1 d hd).trans (h2 d hd)
theorem Rk.rf {side k} : ∀ a, Rk side k a a := fun a d _ => rfl
theorem Uf.union {n L rank side k} {ds : List (Nat × Nat)} (u : Uf n L rank (Rk side k)) (s1 : ∀ d e, ds[d]? = some e → side d e.1 ≠ side d e.2) (s2 : ∀ c d e, ds[d]? = some e → c ≠ d → side c e.1 = side c e.2)
    {x y ra rb : Nat} (hd : ds[k]? = some (x, y)) (ha : Rk side k x ra) (hb : Rk side k y rb) (hra : L[ra]? = some ra) (hrb : L[rb]? = some rb) :
    Uf n (L.set ra rb) (fun z => rank z + if side k z = side k x then rank rb + 1 else 0) (Rk side (k + 1)) := by
  refine ⟨by rw [List.length_set]; exact u.len, fun w v h => ?_⟩
  have hne : side k x ≠ side k y := s1 _ _ hd
  rcases get_set h with ⟨rfl, rfl⟩ | ⟨_, h⟩
  · refine ⟨(u.at_ _ _ hrb).1, fun d hd' => ?_, fun _ => ?_⟩
    · rw [← ha d (by omega), ← hb d (by omega)]
      exact s2 d k _ hd (by omega)
    · have e1 : side k w = side k x := (ha k (Nat.le_refl _)).symm
      have e2 : ¬ side k v = side k x := fun z => hne (z.symm.trans (hb k (Nat.le_refl _)).symm)
      simp only [e1, if_true, if_neg e2]
      omega
  · obtain ⟨b1, b2, b3⟩ := u.at_ _ _ h
    refine ⟨b1, fun d hd' => b2 d (by omega), fun ne => ?_⟩
    have := b3 ne
    have e : side k w = side k v := b2 k (Nat.le_refl _)
    rw [e]
    omega
theorem ring_no {side : Nat → Nat → Bool} {k} {ds : List (Nat × Nat)} (s1 : ∀ d e, ds[d]? = some e → side d e.1 ≠ side d e.2) {x y r : Nat} (hd : ds[k]? = some (x, y)) (ha : Rk side k x r) (hb : Rk side k y r) : False :=
  s1 _ _ hd ((ha k (Nat.le_refl _)).trans (hb k (Nat.le_refl _)).symm)
end K5

namespace K5
theorem nodup_le : ∀ (n : Nat) (l : List Nat), l.Nodup → (∀ x ∈ l, x < n) → l.length ≤ n
  | 0, [], _, _ => Nat.le_refl _
  | 0, a :: r, _, h => absurd (h a List.mem_cons_self) (Nat.not_lt_zero _)
  | n + 1, l, nd, h => by
    by_cases m : n ∈ l
    · have h1 := nodup_le n (l.erase n) (nd.erase n) fun x hx => by
        have q := (List.Nodup.mem_erase_iff nd).mp hx
        have := h x q.2
        have := q.1
        omega
      rw [List.length_erase_of_mem m] at h1
      have : 0 < l.length := List.length_pos_of_mem m
      omega
    · have h1 := nodup_le n l nd fun x hx => by
        have := h x hx
        have : x ≠ n := fun e => m (e ▸ hx)
        omega
      omega
/-- a search: kl the rooms found, ws those that wait -/
structure Dfs (n : Nat) (ds : List (Nat × Nat)) (shut kl ws : List Nat) : Prop where
  nd : kl.Nodup
  lt : ∀ x ∈ kl, x < n
  sub : ∀ x ∈ ws, x ∈ kl
  cl : ∀ x ∈ kl, x ∉ ws → ∀ d y, Joins ds d x y → d ∉ shut → y ∈ kl
structure DfsIn (n : Nat) (ds : List (Nat × Nat)) (shut kl ws : List Nat) (here : Nat) (don : List (Nat × Nat)) : Prop where
  nd : kl.Nodup
  lt : ∀ x ∈ kl, x < n
  sub : ∀ x ∈ ws, x ∈ kl
  cl : ∀ x ∈ kl, x ∉ ws → x ≠ here → ∀ d y, Joins ds d x y → d ∉ shut → y ∈ kl
  he : here ∈ kl
  dn : ∀ d y, (d, y) ∈ don → d ∉ shut → y ∈ kl
section
variable {n : Nat} {ds : List (Nat × Nat)} {shut kl ws : List Nat} {here : Nat} {don : List (Nat × Nat)}
theorem Dfs.start {x : Nat} (h : x < n) : Dfs n ds shut [x] [x] :=
  ⟨by simp, fun y hy => by rw [List.mem_singleton.mp hy]; exact h, fun y hy => hy, fun y hy hn => absurd hy hn⟩
theorem Dfs.pop (h : Dfs n ds shut kl (ws ++ [here])) : DfsIn n ds shut kl ws here [] :=
  ⟨h.nd, h.lt, fun x m => h.sub x (List.mem_append.mpr (.inl m)), fun x m nw ne d y j ns => h.cl x m (fun q => by
    rcases List.mem_append.mp q with q | q
    · exact nw q
    · exact ne (List.mem_singleton.mp q)) d y j ns, h.sub here (List.mem_append.mpr (.inr (List.mem_singleton.mpr rfl))), fun d y m => nomatch m⟩
theorem DfsIn.skip (h : DfsIn n ds shut kl ws here don) {d y : Nat} (q : d ∈ shut ∨ y ∈ kl) : DfsIn n ds shut kl ws here (don ++ [(d, y)]) :=
  ⟨h.nd, h.lt, h.sub, h.cl, h.he, fun d' y' m ns => by
    rcases List.mem_append.mp m with m | m
    · exact h.dn d' y' m ns
    · cases List.mem_singleton.mp m
      exact q.resolve_left ns⟩
theorem DfsIn.add (h : DfsIn n ds shut kl ws here don) {d y : Nat} (hy : y < n) (nk : y ∉ kl) : DfsIn n ds shut (kl ++ [y]) (ws ++ [y]) here (don ++ [(d, y)]) where
  nd := List.nodup_append.mpr ⟨h.nd, by simp, fun a ha b hb e => by
    rw [List.mem_singleton.mp hb] at e
    exact nk (e ▸ ha)⟩
  lt := fun x m => by
    rcases List.mem_append.mp m with m | m
    · exact h.lt x m
    · rw [List.mem_singleton.mp m]; exact hy
  sub := fun x m => by
    rcases List.mem_append.mp m with m | m
    · exact List.mem_append.mpr (.inl (h.sub x m))
    · exact List.mem_append.mpr (.inr m)
  cl := fun x m nw ne d' y' j ns => by
    rcases List.mem_append.mp m with m | m
    · exact List.mem_append.mpr (.inl (h.cl x m (fun q => nw (List.mem_append.mpr (.inl q))) ne d' y' j ns))
    · exact absurd (List.mem_append.mpr (.inr m)) nw
  he := List.mem_append.mpr (.inl h.he)
  dn := fun d' y' m ns => by
    rcases List.mem_append.mp m with m | m
    · exact List.mem_append.mpr (.inl (h.dn d' y' m ns))
    · cases List.mem_singleton.mp m
      exact List.mem_append.mpr (.inr (List.mem_singleton.mpr rfl))
theorem DfsIn.done (h : DfsIn n ds shut kl ws here don) (all : ∀ d y, Joins ds d here y → (d, y) ∈ don) : Dfs n ds shut kl ws :=
  ⟨h.nd, h.lt, h.sub, fun x m nw d y j ns => by
    by_cases e : x = here
    · subst e
      exact h.dn d y (all d y j) ns
    · exact h.cl x m nw e d y j ns⟩
theorem Dfs.le (h : Dfs n ds shut kl ws) : kl.length ≤ n := nodup_le n kl h.nd h.lt
theorem DfsIn.le (h : DfsIn n ds shut kl ws here don) : kl.length ≤ n := nodup_le n kl h.nd h.lt
/-- in the end: a closed set of rooms; without shut doors it is all -/
theorem Dfs.all (T : Tree n ds) (h : Dfs n ds [] kl []) {x : Nat} (hx : x ∈ kl) : ∀ y, y < n → y ∈ kl := by
  intro y hy
  refine T.conn (fun z => z ∈ kl) (fun e he => ?_) x y (h.lt x hx) hy hx
  obtain ⟨d, hd⟩ := List.mem_iff_getElem?.mp he
  exact ⟨fun m => h.cl _ m (by simp) d _ (.inl hd) (by simp), fun m => h.cl _ m (by simp) d _ (.inr hd) (by simp)⟩
theorem Dfs.walk (h : Dfs n ds shut kl []) : ∀ {x p y}, Walk ds x p y → (∀ d ∈ p, d ∉ shut) → x ∈ kl → y ∈ kl := by
  intro x p y w
  induction w with
  | nil a => intro _ m; exact m
  | cons j w ih => intro ns m; exact ih (fun d hd => ns d (List.mem_cons_of_mem _ hd)) (h.cl _ m (by simp) _ _ j (ns _ List.mem_cons_self))
end
/-- steps towards the beginning -/
structure Ptr (ds : List (Nat × Nat)) (shut : List Nat) (room : Nat) (ks : List (Nat × Option (Nat × Nat))) : Prop where
  st : ∀ x d y, (x, some (d, y)) ∈ ks → Joins ds d x y ∧ d ∉ shut ∧ y ∈ ks.map Prod.fst ∧ (ks.map Prod.fst).idxOf y < (ks.map Prod.fst).idxOf x
  fin : ∀ x, (x, none) ∈ ks → x = room
theorem Ptr.start {ds shut room} : Ptr ds shut room [(room, none)] :=
  ⟨fun x d y m => (by cases List.mem_singleton.mp m), fun x m => (by cases List.mem_singleton.mp m; rfl)⟩
theorem Ptr.add {ds shut room ks} (P : Ptr ds shut room ks) {x d y : Nat} (j : Joins ds d x y) (ns : d ∉ shut) (hy : y ∈ ks.map Prod.fst) (hx : x ∉ ks.map Prod.fst) : Ptr ds shut room (ks ++ [(x, some (d, y))]) := by
  refine ⟨fun x' d' y' m => ?_, fun x' m => ?_⟩
  · rw [List.map_append]
    rcases List.mem_append.mp m with m | m
    · obtain ⟨a, b, c, e⟩ := P.st x' d' y' m
      have hx' : x' ∈ ks.map Prod.fst := List.mem_map.mpr ⟨_, m, rfl⟩
      refine ⟨a, b, List.mem_append.mpr (.inl c), ?_⟩
      rw [List.idxOf_append, if_pos c, List.idxOf_append, if_pos hx']
      exact e
    · cases List.mem_singleton.mp m
      refine ⟨j, ns, List.mem_append.mpr (.inl hy), ?_⟩
      rw [List.idxOf_append, if_pos hy, List.idxOf_append, if_neg hx]
      have := List.idxOf_lt_length_iff.mpr hy
      omega
  · rcases List.mem_append.mp m with m | m
    · exact P.fin x' m
    · cases List.mem_singleton.mp m
/-- the way made so far from a to here along the steps -/
structure Made (ds : List (Nat × Nat)) (kl : List Nat) (a : Nat) (p : List Nat) (here : Nat) : Prop where
  w : Walk ds a p here
  nd : p.Nodup
  up : ∀ d ∈ p, ∀ x y, Joins ds d x y → kl.idxOf here ≤ kl.idxOf x ∧ kl.idxOf here ≤ kl.idxOf y
theorem Made.start {ds kl a} : Made ds kl a [] a := ⟨.nil _, List.nodup_nil, fun _ h => nomatch h⟩
theorem Made.step {ds shut room ks a p here d y} (T : ∃ n, Tree n ds) (M : Made ds (ks.map Prod.fst) a p here) (P : Ptr ds shut room ks) (h : (here, some (d, y)) ∈ ks) : Made ds (ks.map Prod.fst) a (p ++ [d]) y := by
  obtain ⟨j, ns, hy, lt⟩ := P.st here d y h
  refine ⟨M.w.snoc j, ?_, fun d' m x z k => ?_⟩
  · refine List.nodup_append.mpr ⟨M.nd, by simp, fun c hc b hb e => ?_⟩
    rw [List.mem_singleton.mp hb] at e
    subst e
    have := (M.up _ hc here y j).2
    omega
  · rcases List.mem_append.mp m with m | m
    · have := M.up d' m x z k
      omega
    · cases List.mem_singleton.mp m
      obtain ⟨n, T⟩ := T
      rcases j with j | j <;> rcases k with k | k <;> rw [j] at k <;> cases k
      · exact ⟨Nat.le_of_lt lt, Nat.le_refl _⟩
      · exact ⟨Nat.le_refl _, Nat.le_of_lt lt⟩
      · exact ⟨Nat.le_refl _, Nat.le_of_lt lt⟩
      · exact ⟨Nat.le_of_lt lt, Nat.le_refl _⟩
/-- the ways that the law makes: kl with the way to each -/
def Pth (ds : List (Nat × Nat)) (a : Nat) (ks : List (Nat × List Nat)) : Prop :=
  ∀ x p, (x, p) ∈ ks → Walk ds a p x ∧ p.Nodup ∧ ∀ d ∈ p, ∀ u v, Joins ds d u v → u ∈ ks.map Prod.fst ∧ v ∈ ks.map Prod.fst
theorem Pth.start {ds a} : Pth ds a [(a, [])] := fun x p m => by
  cases List.mem_singleton.mp m
  exact ⟨.nil _, List.nodup_nil, fun _ h => nomatch h⟩
theorem Pth.add {ds a ks x y p d} (P : Pth ds a ks) (h : (x, p) ∈ ks) (j : Joins ds d x y) (hy : y ∉ ks.map Prod.fst) : Pth ds a (ks ++ [(y, p ++ [d])]) := by
  intro x' p' m
  rw [List.map_append]
  rcases List.mem_append.mp m with m | m
  · obtain ⟨a, b, c⟩ := P x' p' m
    exact ⟨a, b, fun d hd u v k => ⟨List.mem_append.mpr (.inl (c d hd u v k).1), List.mem_append.mpr (.inl (c d hd u v k).2)⟩⟩
  · cases List.mem_singleton.mp m
    obtain ⟨a, b, c⟩ := P x p h
    have hx : x ∈ ks.map Prod.fst := List.mem_map.mpr ⟨_, h, rfl⟩
    refine ⟨a.snoc j, List.nodup_append.mpr ⟨b, by simp, fun c' hc b' hb e => ?_⟩, fun d' hd u v k => ?_⟩
    · rw [List.mem_singleton.mp hb] at e
      subst e
      exact hy (c _ hc x y j).2
    · rcases List.mem_append.mp hd with hd | hd
      · exact ⟨List.mem_append.mpr (.inl (c d' hd u v k).1), List.mem_append.mpr (.inl (c d' hd u v k).2)⟩
      · cases List.mem_singleton.mp hd
        have e1 := List.mem_append.mpr (.inl hx : x ∈ ks.map Prod.fst ∨ x ∈ [y])
        have e2 : y ∈ ks.map Prod.fst ++ [y] := List.mem_append.mpr (.inr (List.mem_singleton.mpr rfl))
        rcases j with j | j <;> rcases k with k | k <;> rw [j] at k <;> cases k
        · exact ⟨e1, e2⟩
        · exact ⟨e2, e1⟩
        · exact ⟨e2, e1⟩
        · exact ⟨e1, e2⟩
end K5

namespace K5
theorem perm_of_map {α β : Type} (f : α → β) : ∀ (l : List α) (ys : List β), ys.Perm (l.map f) → ∃ l' : List α, ys = l'.map f ∧ l'.Perm l
  | [], ys, h => ⟨[], h.eq_nil, List.Perm.refl _⟩
  | a :: r, ys, h => by
    have ha : f a ∈ ys := h.mem_iff.mpr List.mem_cons_self
    obtain ⟨s, t, rfl⟩ := List.append_of_mem ha
    have h2 : (s ++ t).Perm (r.map f) := (List.perm_middle.symm.trans h).cons_inv
    obtain ⟨r', e, p⟩ := perm_of_map f r _ h2
    refine ⟨r'.take s.length ++ a :: r'.drop s.length, ?_, ?_⟩
    · rw [List.map_append, List.map_cons, List.map_take, List.map_drop, ← e, List.take_left, List.drop_left]
    · have : (r'.take s.length ++ a :: r'.drop s.length).Perm (a :: r') := by
        have q := @List.perm_middle _ a (r'.take s.length) (r'.drop s.length)
        rw [List.take_append_drop] at q
        exact q
      exact this.trans (p.cons a)
theorem Tr0.nv {n : Nat} {es : List (Nat × Nat)} (T : Tr0 n es) {L : List Nat} (p : L.Perm (List.range n)) : Tr0 n (es.map fun e => (L.getD e.1 0, L.getD e.2 0)) := by
  have nd : L.Nodup := p.symm.nodup List.nodup_range
  have hl : L.length = n := by rw [p.length_eq, List.length_range]
  have hm : ∀ y, y ∈ L ↔ y < n := fun y => by rw [p.mem_iff, List.mem_range]
  have gd : ∀ x (h : x < n), L.getD x 0 = L[x]'(by omega) := fun x h => by
    rw [List.getD_eq_getElem?_getD, List.getElem?_eq_getElem (by omega)]
    rfl
  refine T.names (fun x => L.getD x 0) (fun y => L.idxOf y) (fun x h => ?_) (fun x h => ?_) (fun y h => ?_)
  · show L.getD x 0 < n
    rw [gd x h]
    exact (hm _).mp (List.getElem_mem _)
  · show L.idxOf (L.getD x 0) = x
    rw [gd x h]
    exact nd.idxOf_getElem x (by omega)
  · have hy := (hm y).mpr h
    have hi := List.idxOf_lt_length_iff.mpr hy
    refine ⟨by show L.idxOf y < n; omega, ?_⟩
    show L.getD (L.idxOf y) 0 = y
    rw [gd _ (by omega)]
    exact List.getElem_idxOf hi
end K5

/-! groups: rooms joined by doors, the mathematics -/
namespace K5
/-- a walk through doors of a set -/
def Con (ds : List (Nat × Nat)) (J : Nat → Prop) (x y : Nat) : Prop := ∃ u, Walk ds x u y ∧ ∀ e ∈ u, J e
section
variable {n : Nat} {ds : List (Nat × Nat)} {J J' : Nat → Prop}
theorem Con.refl (x : Nat) : Con ds J x x := ⟨[], .nil _, fun _ h => nomatch h⟩
theorem Con.symm {x y : Nat} (h : Con ds J x y) : Con ds J y x := by
  obtain ⟨u, w, hu⟩ := h
  exact ⟨u.reverse, w.rev, fun e he => hu e (List.mem_reverse.mp he)⟩
theorem Con.trans {x y z : Nat} (h : Con ds J x y) (k : Con ds J y z) : Con ds J x z := by
  obtain ⟨u, w, hu⟩ := h
  obtain ⟨v, w', hv⟩ := k
  refine ⟨u ++ v, w.app w', fun e he => ?_⟩
  rcases List.mem_append.mp he with he | he
  · exact hu e he
  · exact hv e he
theorem Con.door {d x y : Nat} (j : Joins ds d x y) (h : J d) : Con ds J x y := ⟨[d], .cons j (.nil _), fun e he => by
  rw [List.mem_singleton] at he
  rw [he]
  exact h⟩
theorem Con.mono (f : ∀ e, J e → J' e) {x y : Nat} (h : Con ds J x y) : Con ds J' x y := by
  obtain ⟨u, w, hu⟩ := h
  exact ⟨u, w, fun e he => f e (hu e he)⟩
/-- a mark that both ends of each such door share, is shared along -/
theorem Con.eq {β : Type} {f : Nat → β} (hf : ∀ d x y, J d → Joins ds d x y → f x = f y) : ∀ {x : Nat} {u : List Nat} {y : Nat}, Walk ds x u y → (∀ e ∈ u, J e) → f x = f y
  | _, _, _, .nil _, _ => rfl
  | _, _, _, .cons j w, h => (hf _ _ _ (h _ List.mem_cons_self) j).trans (Con.eq hf w fun e he => h e (List.mem_cons_of_mem _ he))
end
/-- the explained doors: the least set -/
inductive Ex (ds : List (Nat × Nat)) (S : List Nat × List Nat) : Nat → Prop
  | mk {d p r x y : Nat} {u : List Nat} : S.2[d]? = some p → S.1[p]? = some r → Joins ds d x y → Walk ds r u x → (∀ e ∈ u, Ex ds S e) → Ex ds S d
/-- marks of the rooms, the doors of J joined so far -/
structure Mk (n : Nat) (ds : List (Nat × Nat)) (S : List Nat × List Nat) (M : List Nat) (J : List Nat) : Prop where
  len : M.length = n
  nd : J.Nodup
  ex : ∀ d ∈ J, Ex ds S d
  lt : ∀ d ∈ J, d < ds.length
  le : ∀ x m, M[x]? = some m → m ≤ x ∧ Con ds (· ∈ J) x m
  eq : ∀ d x y, d ∈ J → Joins ds d x y → M.getD x 0 = M.getD y 0
section
variable {n : Nat} {ds : List (Nat × Nat)} {S : List Nat × List Nat} {M J : List Nat}
theorem Mk.start (n : Nat) : Mk n ds S (List.range n) [] where
  len := List.length_range
  nd := List.nodup_nil
  ex := fun _ h => nomatch h
  lt := fun _ h => nomatch h
  le := fun x m h => by
    have hx : x < n := by have := get_lt h; rwa [List.length_range] at this
    rw [List.getElem?_range hx] at h
    cases h
    exact ⟨Nat.le_refl _, Con.refl _⟩
  eq := fun _ _ _ h => nomatch h
theorem Mk.get (h : Mk n ds S M J) {x : Nat} (hx : x < n) : M[x]? = some (M.getD x 0) := by
  have hl : x < M.length := by rw [h.len]; exact hx
  rw [List.getD_eq_getElem?_getD, List.getElem?_eq_getElem hl]
  rfl
theorem Mk.con (h : Mk n ds S M J) {x y : Nat} (c : Con ds (· ∈ J) x y) : M.getD x 0 = M.getD y 0 := by
  obtain ⟨u, w, hu⟩ := c
  exact Con.eq (J := (· ∈ J)) (f := fun x => M.getD x 0) (fun d x y hd j => h.eq d x y hd j) w hu
theorem Mk.iff (h : Mk n ds S M J) {x y : Nat} (hx : x < n) (hy : y < n) : M.getD x 0 = M.getD y 0 ↔ Con ds (· ∈ J) x y := by
  refine ⟨fun e => ?_, h.con⟩
  have c1 := (h.le x _ (h.get hx)).2
  have c2 := (h.le y _ (h.get hy)).2
  rw [e] at c1
  exact c1.trans c2.symm
theorem Mk.lo (h : Mk n ds S M J) {x : Nat} (hx : x < n) : M.getD x 0 ≤ x := (h.le x _ (h.get hx)).1
/-- marks after a door is joined -/
def join (M : List Nat) (lo hi : Nat) : List Nat := M.map fun m => if m = hi then lo else m
theorem join_get {lo hi x : Nat} (hx : x < M.length) : (join M lo hi).getD x 0 = if M.getD x 0 = hi then lo else M.getD x 0 := by
  unfold join
  rw [List.getD_eq_getElem?_getD, List.getElem?_map, List.getElem?_eq_getElem hx, List.getD_eq_getElem?_getD, List.getElem?_eq_getElem hx]
  rfl
theorem Mk.step (T : Tree n ds) (h : Mk n ds S M J) {d a b p r : Nat} (hd : ds[d]? = some (a, b)) (ne : M.getD a 0 ≠ M.getD b 0) (hp : S.2[d]? = some p) (hr : S.1[p]? = some r) (hrn : r < n) (near : M.getD r 0 = M.getD a 0 ∨ M.getD r 0 = M.getD b 0) :
    Mk n ds S (join M (min (M.getD a 0) (M.getD b 0)) (max (M.getD a 0) (M.getD b 0))) (d :: J) := by
  have j : Joins ds d a b := .inl hd
  obtain ⟨la, lb, _, _⟩ := j.lt T
  have dJ : d ∉ J := fun z => ne (h.eq d a b z j)
  have exd : Ex ds S d := by
    rcases near with e | e
    · obtain ⟨u, w, hu⟩ := (h.iff hrn la).mp e
      exact .mk hp hr j w fun e he => h.ex e (hu e he)
    · obtain ⟨u, w, hu⟩ := (h.iff hrn lb).mp e
      exact .mk hp hr j.symm w fun e he => h.ex e (hu e he)
  generalize ea : M.getD a 0 = ma at ne near
  generalize eb : M.getD b 0 = mb at ne near
  have hmn : ∀ x, x < n → x < M.length := fun x hx => by rw [h.len]; exact hx
  have sub : ∀ e, e ∈ J → e ∈ d :: J := fun e he => List.mem_cons_of_mem _ he
  have cab : Con ds (· ∈ d :: J) a b := Con.door j List.mem_cons_self
  have ca : Con ds (· ∈ d :: J) a ma := ea ▸ ((h.le a _ (h.get la)).2.mono sub)
  have cb : Con ds (· ∈ d :: J) b mb := eb ▸ ((h.le b _ (h.get lb)).2.mono sub)
  have chl : Con ds (· ∈ d :: J) (max ma mb) (min ma mb) := by
    by_cases c : ma ≤ mb
    · rw [Nat.max_eq_right c, Nat.min_eq_left c]
      exact cb.symm.trans (cab.symm.trans ca)
    · rw [Nat.max_eq_left (by omega), Nat.min_eq_right (by omega)]
      exact ca.symm.trans (cab.trans cb)
  refine ⟨by unfold join; rw [List.length_map]; exact h.len, List.nodup_cons.mpr ⟨dJ, h.nd⟩, fun e he => ?_, fun e he => ?_, fun x m hm => ?_, fun e x y he jo => ?_⟩
  · rcases List.mem_cons.mp he with rfl | he
    · exact exd
    · exact h.ex e he
  · rcases List.mem_cons.mp he with rfl | he
    · exact get_lt hd
    · exact h.lt e he
  · have hx : x < n := by
      have := get_lt hm
      unfold join at this
      rwa [List.length_map, h.len] at this
    have e1 : m = (join M (min ma mb) (max ma mb)).getD x 0 := by rw [List.getD_eq_getElem?_getD, hm]; rfl
    rw [join_get (hmn x hx)] at e1
    have l1 := h.lo hx
    have c1 := (h.le x _ (h.get hx)).2.mono sub
    by_cases c : M.getD x 0 = max ma mb
    · rw [if_pos c] at e1
      rw [c] at c1
      refine ⟨by omega, ?_⟩
      rw [e1]
      exact c1.trans chl
    · rw [if_neg c] at e1
      rw [e1]
      exact ⟨l1, c1⟩
  · obtain ⟨lx, ly, _, _⟩ := jo.lt T
    rw [join_get (hmn x lx), join_get (hmn y ly)]
    rcases List.mem_cons.mp he with rfl | he
    · have key : ∀ z, z = a ∨ z = b → (if M.getD z 0 = max ma mb then min ma mb else M.getD z 0) = min ma mb := by
        rintro z (rfl | rfl)
        · rw [ea]
          by_cases c : ma = max ma mb
          · rw [if_pos c]
          · rw [if_neg c]
            omega
        · rw [eb]
          by_cases c : mb = max ma mb
          · rw [if_pos c]
          · rw [if_neg c]
            omega
      have ex : x = a ∨ x = b := by
        rcases jo with q | q <;> (rw [hd] at q; cases q; simp)
      have ey : y = a ∨ y = b := by
        rcases jo with q | q <;> (rw [hd] at q; cases q; simp)
      rw [key x ex, key y ey]
    · rw [h.eq e x y he jo]
theorem Mk.few (h : Mk n ds S M J) : J.length ≤ ds.length := nodup_le ds.length J h.nd h.lt
/-- nothing left to join -/
def Closed (ds : List (Nat × Nat)) (S : List Nat × List Nat) (M : List Nat) (d : Nat) : Prop :=
  ∀ a b p r, ds[d]? = some (a, b) → S.2[d]? = some p → S.1[p]? = some r → M.getD a 0 = M.getD b 0 ∨ (M.getD r 0 ≠ M.getD a 0 ∧ M.getD r 0 ≠ M.getD b 0)
theorem Mk.done (T : Tree n ds) (h : Mk n ds S M J) (cl : ∀ d, d < ds.length → Closed ds S M d) : ∀ d, Ex ds S d → ∀ x y, Joins ds d x y → M.getD x 0 = M.getD y 0 := by
  intro d hd
  induction hd with
  | @mk d p r x y u hp hr j w hu ih =>
    intro x' y' j'
    have er : M.getD r 0 = M.getD x 0 := Con.eq (J := (· ∈ u)) (f := fun x => M.getD x 0) (fun e a b he jo => ih e he a b jo) w fun e he => he
    have hdl : d < ds.length := by rcases j with q | q <;> exact get_lt q
    have fin : ∀ a b, ds[d]? = some (a, b) → M.getD a 0 = M.getD b 0 := by
      intro a b hab
      rcases cl d hdl a b p r hab hp hr with e | ⟨e1, e2⟩
      · exact e
      · rcases j with q | q
        · rw [hab] at q
          cases q
          exact absurd er e1
        · rw [hab] at q
          cases q
          exact absurd er e2
    rcases j' with q | q
    · exact fin _ _ q
    · exact (fin _ _ q).symm
/-- in the end: the joined doors are the explained ones -/
theorem Mk.all (T : Tree n ds) (h : Mk n ds S M J) (cl : ∀ d, d < ds.length → Closed ds S M d) {d x y : Nat} (j : Joins ds d x y) : M.getD x 0 = M.getD y 0 ↔ Ex ds S d := by
  refine ⟨fun e => ?_, fun e => h.done T cl d e x y j⟩
  obtain ⟨lx, ly, _, _⟩ := j.lt T
  obtain ⟨u, w, hu⟩ := (h.iff lx ly).mp e
  obtain ⟨side, s1, s2⟩ := T.side
  have : d ∈ u := Classical.byContradiction fun z => side_join s1 j (side_walk s2 w z)
  exact h.ex d (hu d this)
theorem Mk.con_ex (T : Tree n ds) (h : Mk n ds S M J) (cl : ∀ d, d < ds.length → Closed ds S M d) {x y : Nat} (hx : x < n) (hy : y < n) : M.getD x 0 = M.getD y 0 ↔ Con ds (Ex ds S) x y := by
  refine ⟨fun e => ((h.iff hx hy).mp e).mono h.ex, fun c => ?_⟩
  obtain ⟨u, w, hu⟩ := c
  exact Con.eq (J := Ex ds S) (f := fun x => M.getD x 0) (fun d a b hd jo => h.done T cl d hd a b jo) w hu
/-- two such lists of marks are one -/
theorem Mk.unique (T : Tree n ds) {M' J' : List Nat} (h : Mk n ds S M J) (cl : ∀ d, d < ds.length → Closed ds S M d) (h' : Mk n ds S M' J') (cl' : ∀ d, d < ds.length → Closed ds S M' d) : M = M' := by
  apply List.ext_getElem?
  intro x
  by_cases hx : x < n
  · rw [h.get hx, h'.get hx]
    congr 1
    have root : ∀ {M J : List Nat}, Mk n ds S M J → (∀ d, d < ds.length → Closed ds S M d) → ∀ y, y < n → Con ds (Ex ds S) x y → M.getD x 0 ≤ y := fun hm hc y hy c => by
      rw [(hm.con_ex T hc hx hy).mpr c]
      exact hm.lo hy
    have a1 := (h.le x _ (h.get hx)).2.mono h.ex
    have a2 := (h'.le x _ (h'.get hx)).2.mono h'.ex
    have l1 := h.lo hx
    have l2 := h'.lo hx
    have b1 := root h cl _ (by omega) a2
    have b2 := root h' cl' _ (by omega) a1
    omega
  · rw [List.getElem?_eq_none (by rw [h.len]; omega), List.getElem?_eq_none (by rw [h'.len]; omega)]
end
end K5

/-! own rules: a class of the program: its methods as promises; != of two of its instances by its own __eq__ -/
namespace L2
open PySem PySem.Spec PyProof.Rows
/-- a class of the text; no name of its fields stands in it -/
structure ClsD (K : PySem.W.Frag) (mg : Str → Option Value) (x : Str) (C : Addr) (fs : List Str) : Prop where
  cl : Cls K C
  g : mg x = some (.ref C)
  no : ∀ f ∈ fs, NoAttr K C f
/-- a method of the text -/
def MetD (K : PySem.W.Frag) (C : Addr) (m qual : Str) (st : Stmt) : Prop := ∃ (f : Addr) (fd : FuncData), Fun K m qual st f fd ∧ Meth K C m f
/-- a method's promise -/
def CalM (P : Program) (w : World) (K : PySem.W.Frag) (mg : Str → Option Value) (base : Heap) (C : Addr) (m : Str) (ps : List Str) (k : Nat) (sp : Sp) : Prop :=
  ∃ (f : Addr) (fd : FuncData), Meth K C m f ∧ Binds K fd ps [] ∧ FnOk P w K mg base CX0 k f fd ps sp
theorem MetD.ok {P : Program} {w : World} {K : PySem.W.Frag} {mg : Str → Option Value} {base : Heap} {C : Addr} {m qual : Str} {st : Stmt} {N ps : List Str} {k : Nat} {sp : Sp} (D : MetD K C m qual st) (S : FnScope N ps (defScope st))
    (hb : ∀ (kV doc pm : Value) (an : Option Addr) (cdv ct : Value) (us : List Value), us.length = ps.length → bindArgs (PySem.W.fnOf m qual (defArgs st) (defBody st) (defScope st) .none kV doc pm an cdv ct) ⟨us, []⟩ = pure (ps.zip us))
    (ar : ∀ vs H Q E, sp vs H Q E → vs.length = ps.length)
    (hbody : ∀ (f : Addr) (cdv : Value) (A : Around) (outer : List Env) (s : Shared) (H : Hp) (vs : List V) (Q : VK) (E : XK), Room k (A.deeper (envOfC qual (defScope st) s.heap.objs.size f cdv)) → sp vs H Q E →
      ∃ t, PSs (cxOf CX0 P w K mg base N qual (defScope st) f cdv A outer s H E).nox (defBody st) t ∧ t { nx := fun _ H' => Q .non H', rt := Q } (start N vs) H) : CalM P w K mg base C m ps (k + 1) sp := by
  obtain ⟨f, fd, F, me⟩ := D
  exact ⟨f, fd, me, F.binds hb, F.ok S ar fun cdv A outer s H vs Q E hr h => hbody f cdv A outer s H vs Q E hr h⟩
section
variable {X : Cx} {C f : Addr} {fd : FuncData} {ps : List Str} {sp : Sp} {k : Nat} {CX : CXT} {E : XK}
/-- x != y: both of the class at C, whose own __eq__ answers True or False -/
def rNeOwn (C : Addr) (sp : Sp) (E : XK) : R2 := fun x y H Q => ∃ a dx fs b dy gs, x = .ref a ∧ y = .ref b ∧ H a = some (.ins C dx fs) ∧ H b = some (.ins C dy gs) ∧ sp [x, y] H (fun v H' => ∃ r, v = .bl r ∧ Q (.bl (!r)) H') E
theorem ins_at {pins : List (Addr × Obj)} {σ : St} {H : Hp} {s : Shared} {a dx : Addr} {fs : List (Str × V)} (I : Inv X pins σ H s) (h : H a = some (.ins C dx fs)) : ∃ od, PySem.W.InstAt s.heap a (PySem.W.instObj C dx) C (some od) := by
  obtain ⟨mA, O, _⟩ := ins_get I.hok h
  obtain ⟨od, ho, _⟩ := lookIn_ns O.ns
  exact ⟨od, O.obj, rfl, rfl, ho⟩
theorem op_neOwn (cE : PySem.W.findIn X.K (.ref C) "__eq__" = some (some (.ref f))) (cf : PySem.W.isFn X.K (.ref f) = true) (cN : PySem.W.findIn X.K (.ref C) "__ne__" = some (some (.builtin "object.__ne__"))) (cO : PySem.W.mroIn X.K C (.type "object") = some true)
    (F : FnOk X.prog X.w X.K X.mg X.base CX k f fd ps sp) (hr : Room (k + 1) X.A) (hb : Binds X.K fd ps []) (hx : Passes CX X E) : OpR X (compareOp .NotEq) (rNeOwn C sp E) := by
  intro pins s σ H x y v u Q I rx ry h
  obtain ⟨a, dx, fs, b, dy, gs, rfl, rfl, ha, hbb, q⟩ := h
  cases (show v = Value.ref a from rx)
  cases (show u = Value.ref b from ry)
  obtain ⟨od, J⟩ := ins_at I ha
  obtain ⟨od', J'⟩ := ins_at I hbb
  have X1 := I.kIn
  have units : X.A.units < cLine := hr.units0
  -- the call of the own __eq__, one level down
  have asked : wpAny (model X.prog X.w) X.A.in1 (call (.ref f) [.ref a, .ref b]) (fun r s' => ∃ t, r = .bool t ∧ EP X pins σ Q (.bool (!t)) s') X.xe s := by
    have r2 : Vals [V.ref a, V.ref b] [Value.ref a,
          Value.ref b] := .cons rfl (.cons rfl .nil)
    have hl : ([Value.ref a, Value.ref b] ++ []).length = ps.length := (F.len _ _ _ _ q).symm ▸ rfl
    have b2 := hb s [Value.ref a, Value.ref b] I.kIn (by rw [← F.len _ _ _ _ q]; rfl)
    refine wpAny_call (codeAny_mono (F.run X.A.in1 X.stack s H ⟨[.ref a, .ref b], []⟩ _ _ _ E hr.in1 I.env0.in1 b2 r2 q) fun r s' hq => ?_)
    cases r with
    | error e => exact hx pins σ H s e s' I hq
    | ok fl =>
      cases fl with
      | ret u =>
        obtain ⟨z, H', I2, rz, t, ez, qz⟩ := I.after hq
        subst ez
        cases rz
        exact ⟨t, rfl, .bl (!t), H', I2, rfl, qz⟩
      | next => exact False.elim hq
      | brk => exact False.elim hq
      | cont => exact False.elim hq
  have below : wpAny (model X.prog X.w) X.A.in1 (callSpecialIfBound? (.ref a) (Str.ofString "__eq__") [.ref b]) (fun r s' => ∃ t, r = some (.bool t) ∧ EP X pins σ Q (.bool (!t)) s') X.xe s :=
    PySem.W.ifBound_K X1 J cE cf (wpAny_mono asked (fun r s' ⟨t, e, z⟩ => ⟨t, congrArg some e, z⟩) fun _ _ e => e)
  have told : wpAny (model X.prog X.w) X.A (tryCompare (.ref a) (Str.ofString "__ne__") (.ref b)) (fun r s' => ∃ t, r = some (.bool t) ∧ EP X pins σ Q (.bool t) s') X.xe s := by
    unfold tryCompare
    have called : wpAny (model X.prog X.w) X.A (callSpecialIfBound? (.ref a) (Str.ofString "__ne__") [.ref b]) (fun r s' => ∃ t, r = some (.bool t) ∧ EP X pins σ Q (.bool t) s') X.xe s := by
      simp only [callSpecialIfBound?,
            bindSpecialIfBound?]
      refine wpAny_holding (wpAny_bind (wpAny_bind (wpAny_bind (J.type.here ((PySem.W.looks_findIn X1 cN).here ?_)))))
      simp only [PySem.F.cmp_object.ne.bind]
      refine wpAny_bind (wpAny_askSetting
            (wpAny_ite ?_))
      have it : wpAny (model X.prog X.w) X.A (call (.builtin "object.__ne__") ([.ref a] ++ [.ref b])) (fun r s' => ∃ t, r = .bool t ∧ EP X pins σ Q (.bool t) s') X.xe s := by
        refine wpAny_call (codeAny_call_builtin PySem.F.cmp_object.ne.plain PySem.F.cmpEntry_ne ?_)
        have body : wpAny (model X.prog X.w) X.A.in1 (Builtin.«object.__ne__» ⟨[.ref a, .ref b], []⟩) (fun fin s' => ∃ t, fin = .done (.ret (.bool t)) ∧ EP X pins σ Q (.bool t) s') X.xe s := by
          unfold Builtin.«object.__ne__»
          repeat (first
            | with_reducible refine wpAny_cRoomFor hr.in1.units0 ?_
            | (refine wpAny_bind (m := callSpecialIfBound? (.ref a) (Str.ofString "__eq__") [.ref b]) (wpAny_mono below (fun r s' hrr => by
                obtain ⟨t, rfl, hq⟩ := hrr
                repeat (first | exact ⟨_, rfl, hq⟩ | exact wpAny_pure ⟨_, rfl, hq⟩ | (refine wpAny_bind (m := truthy (.bool _)) (wpAny_truthy_bool ?_)) | wp_step)) fun _ _ e => e))
            | wp_step)
        simp only [checkBuiltinCall, PySem.F.cmpKind_ne, PySem.F.cmpSplit_ne]
        have isO : PySem.W.Looks (model X.prog X.w) s.heap (isInstance (.ref a) (.type "object")) true := J.type.andThen (PySem.W.looks_subIn X1 (show PySem.W.subIn X.K (.ref C) (.type "object") = some true from cO))
        have args := PySem.F.cmpArgs_ne (.ref a) (.ref b)
        show wpAny _ _ (isInstance (.ref a) (.type "object") >>= _) _ _ _
        refine wpAny_bind (isO.here ?_)
        simp only [Bool.not_true, Bool.false_eq_true,
              if_false]
        cases hsig : Manifest.signature? "object.__ne__" with
        | none => exact wpAny_pure (wpAny_mono body (fun fin s' ⟨t, e, z⟩ => by subst e; exact ⟨t, rfl, z⟩) fun _ _ z => z)
        | some sig =>
          simp only [argsOk, hsig] at args
          show wpAny _ _ (Bind.checkArgs "object.__ne__" sig ⟨[.ref a, .ref b], []⟩) _ _ _
          rw [show Bind.checkArgs "object.__ne__" sig ⟨[.ref a, .ref b], []⟩ = pure () from args]
          exact wpAny_pure (wpAny_mono body (fun fin s' ⟨t, e, z⟩ => by subst e; exact ⟨t, rfl, z⟩) fun _ _ z => z)
      have fin : wpAny (model X.prog X.w) X.A (call (.builtin "object.__ne__") ([.ref a] ++ [.ref b]) >>= fun v => pure (some v)) (fun r s' => ∃ t, r = some (.bool t) ∧ EP X pins σ Q (.bool t) s') X.xe s :=
        wpAny_bind (wpAny_mono it (fun v s' ⟨t, e, z⟩ => wpAny_pure ⟨t, congrArg some e, z⟩) fun _ _ z => z)
      split
      · exact wpAny_bind (wpAny_pure
            (wpAny_pure fin))
      · exact wpAny_tryCatch (wpAny_bind
            (wpAny_pure (wpAny_pure fin)))
    refine wpAny_bind (wpAny_mono called (fun r s' ⟨t, e, z⟩ => ?_) fun _ _ z => z)
    subst e
    exact wpAny_pure ⟨t, rfl, z⟩
  unfold compareOp
  show wpAny _ _ (richCompare .NotEq (.ref a) (.ref b)) _ _ _
  unfold richCompare
  simp only [oneThing_ref]
  refine wpAny_holding (wpAny_bind (wpAny_cRoomFor units ?_))
  refine wpAny_bind (J.type.here (wpAny_bind (J'.type.here ?_)))
  rw [cmpInfo_NotEq]
  dsimp only
  rw [show (Value.ref C != Value.ref
        C) = false from by simp]
  simp only [Bool.false_eq_true, if_false]
  refine wpAny_bind (wpAny_pure ?_)
  simp only [Bool.false_eq_true, if_false]
  refine wpAny_bind (wpAny_mono told (fun r s' ⟨t, e, z⟩ => ?_) fun _ _ z => z)
  subst e
  exact wpAny_pure z
end
end L2

namespace K5
open PySem PySem.Spec PyProof.Rows L2
def top (i : Nat) : Stmt := PySem.Challenge.pw_lastthrough_k33_openings_in_large_houses.main.body.getD i (.Pass ⟨0, 0, 0, 0⟩)
def mem (j : Nat) (s : Stmt) : Stmt := match s with
  | .ClassDef _ _ _ body _ _ _ _ _ _ _
        => body.getD j (.Pass ⟨0, 0, 0, 0⟩)
  | _ => .Pass ⟨0, 0, 0, 0⟩
abbrev s_is_whole : Stmt := top 5
abbrev N_is_whole : List Str := ["value"]
theorem sc_is_whole : FnScope N_is_whole ["value"] (defScope s_is_whole) := ⟨rfl, rfl, rfl, by decide +kernel, rfl, by decide +kernel, by decide +kernel⟩
abbrev s_is_index : Stmt := top 6
abbrev N_is_index : List Str := ["value", "count"]
theorem sc_is_index : FnScope N_is_index ["value", "count"] (defScope s_is_index) := ⟨rfl, rfl, rfl, by decide +kernel, rfl, by decide +kernel, by decide +kernel⟩
abbrev s_is_door : Stmt := top 7
abbrev N_is_door : List Str := ["value", "count", "a", "b"]
theorem sc_is_door : FnScope N_is_door ["value", "count"] (defScope s_is_door) := ⟨rfl, rfl, rfl, by decide +kernel, rfl, by decide +kernel, by decide +kernel⟩
abbrev s_check_house : Stmt := top 8
abbrev N_check_house : List Str := ["value", "door", "ends", "ring"]
theorem sc_check_house : FnScope N_check_house ["value"] (defScope s_check_house) := ⟨rfl, rfl, rfl, by decide +kernel, rfl, by decide +kernel, by decide +kernel⟩
abbrev s_first_ring : Stmt := top 9
abbrev N_first_ring : List Str := ["doors", "links", "door", "a", "b", "a_root", "b_root"]
theorem sc_first_ring : FnScope N_first_ring ["doors"] (defScope s_first_ring) := ⟨rfl, rfl, rfl, by decide +kernel, rfl, by decide +kernel, by decide +kernel⟩
abbrev s_find_root : Stmt := top 10
abbrev N_find_root : List Str := ["links", "room"]
theorem sc_find_root : FnScope N_find_root ["links", "room"] (defScope s_find_root) := ⟨rfl, rfl, rfl, by decide +kernel, rfl, by decide +kernel, by decide +kernel⟩
abbrev s_need_house : Stmt := top 11
abbrev N_need_house : List Str := ["house", "reason"]
theorem sc_need_house : FnScope N_need_house ["house"] (defScope s_need_house) := ⟨rfl, rfl, rfl, by decide +kernel, rfl, by decide +kernel, by decide +kernel⟩
abbrev s_exits_of : Stmt := top 12
abbrev N_exits_of : List Str := ["house", "exits", "room", "door", "a", "b"]
theorem sc_exits_of : FnScope N_exits_of ["house"] (defScope s_exits_of) := ⟨rfl, rfl, rfl, by decide +kernel, rfl, by decide +kernel, by decide +kernel⟩
abbrev s_ways_from : Stmt := top 13
abbrev N_ways_from : List Str := ["house", "room", "shut", "exits", "shut_doors", "ways", "waiting", "here", "door", "there"]
theorem sc_ways_from : FnScope N_ways_from ["house", "room", "shut"] (defScope s_ways_from) := ⟨rfl, rfl, rfl, by decide +kernel, rfl, by decide +kernel, by decide +kernel⟩
abbrev s_steps_along : Stmt := top 14
abbrev N_steps_along : List Str := ["ways", "room", "steps", "here", "door", "there"]
theorem sc_steps_along : FnScope N_steps_along ["ways", "room"] (defScope s_steps_along) := ⟨rfl, rfl, rfl, by decide +kernel, rfl, by decide +kernel, by decide +kernel⟩
abbrev s_steps_between : Stmt := top 15
abbrev N_steps_between : List Str := ["house", "a", "b"]
theorem sc_steps_between : FnScope N_steps_between ["house", "a", "b"] (defScope s_steps_between) := ⟨rfl, rfl, rfl, by decide +kernel, rfl, by decide +kernel, by decide +kernel⟩
abbrev s_is_numbered : Stmt := top 17
abbrev N_is_numbered : List Str := ["value"]
theorem sc_is_numbered : FnScope N_is_numbered ["value"] (defScope s_is_numbered) := ⟨rfl, rfl, rfl, by decide +kernel, rfl, by decide +kernel, by decide +kernel⟩
abbrev s_all_encounters : Stmt := top 20
abbrev N_all_encounters : List Str := ["house", "state", "rooms", "barred", "found", "first", "second", "there", "back", "own", "steps"]
theorem sc_all_encounters : FnScope N_all_encounters ["house", "state"] (defScope s_all_encounters) := ⟨rfl, rfl, rfl, by decide +kernel, rfl, by decide +kernel, by decide +kernel⟩
abbrev s_has_state_shape : Stmt := top 22
abbrev N_has_state_shape : List Str := ["house", "value", "rooms", "barred"]
theorem sc_has_state_shape : FnScope N_has_state_shape ["house", "value"] (defScope s_has_state_shape) := ⟨rfl, rfl, rfl, by decide +kernel, rfl, by decide +kernel, by decide +kernel⟩
abbrev s_check_state : Stmt := top 23
abbrev N_check_state : List Str := ["house", "value", "rooms", "barred", "person", "room", "door"]
theorem sc_check_state : FnScope N_check_state ["house", "value"] (defScope s_check_state) := ⟨rfl, rfl, rfl, by decide +kernel, rfl, by decide +kernel, by decide +kernel⟩
abbrev s_need_state : Stmt := top 24
abbrev N_need_state : List Str := ["house", "state", "reason"]
theorem sc_need_state : FnScope N_need_state ["house", "state"] (defScope s_need_state) := ⟨rfl, rfl, rfl, by decide +kernel, rfl, by decide +kernel, by decide +kernel⟩
abbrev s_replaced : Stmt := top 25
abbrev N_replaced : List Str := ["values", "index", "value"]
theorem sc_replaced : FnScope N_replaced ["values", "index", "value"] (defScope s_replaced) := ⟨rfl, rfl, rfl, by decide +kernel, rfl, by decide +kernel, by decide +kernel⟩
abbrev s_doors_barring : Stmt := top 27
abbrev N_doors_barring : List Str := ["state", "person", "door", "who"]
theorem sc_doors_barring : FnScope N_doors_barring ["state", "person"] (defScope s_doors_barring) := ⟨rfl, rfl, rfl, by decide +kernel, rfl, by decide +kernel, by decide +kernel⟩
abbrev s_region_ways : Stmt := top 28
abbrev N_region_ways : List Str := ["house", "state", "person"]
theorem sc_region_ways : FnScope N_region_ways ["house", "state", "person"] (defScope s_region_ways) := ⟨rfl, rfl, rfl, by decide +kernel, rfl, by decide +kernel, by decide +kernel⟩
abbrev s_is_apart : Stmt := top 29
abbrev N_is_apart : List Str := ["house", "state", "rooms", "person"]
theorem sc_is_apart : FnScope N_is_apart ["house", "state"] (defScope s_is_apart) := ⟨rfl, rfl, rfl, by decide +kernel, rfl, by decide +kernel, by decide +kernel⟩
abbrev s_fewest_openings : Stmt := top 31
abbrev N_fewest_openings : List Str := ["house", "state", "changes", "encounter"]
theorem sc_fewest_openings : FnScope N_fewest_openings ["house", "state"] (defScope s_fewest_openings) := ⟨rfl, rfl, rfl, by decide +kernel, rfl, by decide +kernel, by decide +kernel⟩
abbrev s_opened : Stmt := top 32
abbrev N_opened : List Str := ["state", "changes", "rooms", "barred", "door", "person"]
theorem sc_opened : FnScope N_opened ["state", "changes"] (defScope s_opened) := ⟨rfl, rfl, rfl, by decide +kernel, rfl, by decide +kernel, by decide +kernel⟩
abbrev s_is_change : Stmt := top 33
abbrev N_is_change : List Str := ["house", "state", "value"]
theorem sc_is_change : FnScope N_is_change ["house", "state", "value"] (defScope s_is_change) := ⟨rfl, rfl, rfl, by decide +kernel, rfl, by decide +kernel, by decide +kernel⟩
abbrev s_is_list_of_changes : Stmt := top 34
abbrev N_is_list_of_changes : List Str := ["house", "state", "value", "item", "doors", "door", "person"]
theorem sc_is_list_of_changes : FnScope N_is_list_of_changes ["house", "state", "value"] (defScope s_is_list_of_changes) := ⟨rfl, rfl, rfl, by decide +kernel, rfl, by decide +kernel, by decide +kernel⟩
abbrev s_check_openings : Stmt := top 35
abbrev N_check_openings : List Str := ["house", "state", "claim"]
theorem sc_check_openings : FnScope N_check_openings ["house", "state", "claim"] (defScope s_check_openings) := ⟨rfl, rfl, rfl, by decide +kernel, rfl, by decide +kernel, by decide +kernel⟩
abbrev s_openings_fault : Stmt := top 36
abbrev N_openings_fault : List Str := ["house", "state", "number", "changes", "door", "person"]
theorem sc_openings_fault : FnScope N_openings_fault ["house", "state", "number", "changes"] (defScope s_openings_fault) := ⟨rfl, rfl, rfl, by decide +kernel, rfl, by decide +kernel, by decide +kernel⟩
abbrev s_l_cell : Stmt := top 38
abbrev N_l_cell : List Str := ["_law_script", "_law_index"]
theorem sc_l_cell : FnScope N_l_cell ["_law_script", "_law_index"] (defScope s_l_cell) := ⟨rfl, rfl, rfl, by decide +kernel, rfl, by decide +kernel, by decide +kernel⟩
abbrev s_l_hash : Stmt := top 39
abbrev N_l_hash : List Str := ["_law_seed", "_law_index", "_law_value"]
theorem sc_l_hash : FnScope N_l_hash ["_law_seed", "_law_index"] (defScope s_l_hash) := ⟨rfl, rfl, rfl, by decide +kernel, rfl, by decide +kernel, by decide +kernel⟩
abbrev s_l_generator : Stmt := top 40
abbrev N_l_generator : List Str := ["_law_script", "_law_index", "_law_seed"]
theorem sc_l_generator : FnScope N_l_generator ["_law_script", "_law_index"] (defScope s_l_generator) := ⟨rfl, rfl, rfl, by decide +kernel, rfl, by decide +kernel, by decide +kernel⟩
abbrev s_l_random : Stmt := top 41
abbrev N_l_random : List Str := ["_law_generator_here", "_law_bound", "_law_value", "_law_part"]
theorem sc_l_random : FnScope N_l_random ["_law_generator_here", "_law_bound"] (defScope s_l_random) := ⟨rfl, rfl, rfl, by decide +kernel, rfl, by decide +kernel, by decide +kernel⟩
abbrev s_l_shuffled : Stmt := top 42
abbrev N_l_shuffled : List Str := ["_law_generator_here", "_law_items", "_law_pool", "_law_item"]
theorem sc_l_shuffled : FnScope N_l_shuffled ["_law_generator_here", "_law_items"] (defScope s_l_shuffled) := ⟨rfl, rfl, rfl, by decide +kernel, rfl, by decide +kernel, by decide +kernel⟩
abbrev s_l_random_house : Stmt := top 43
abbrev N_l_random_house : List Str := ["_law_generator_here", "_law_size", "_law_labels", "_law_kind", "_law_doors", "_law_index", "_law_earlier", "_law_ends"]
theorem sc_l_random_house : FnScope N_l_random_house ["_law_generator_here", "_law_size"] (defScope s_l_random_house) := ⟨rfl, rfl, rfl, by decide +kernel, rfl, by decide +kernel, by decide +kernel⟩
abbrev s_l_around : Stmt := top 44
abbrev N_l_around : List Str := ["_law_layout", "_law_around_here", "_law_spot", "_law_door", "_law_one", "_law_other"]
theorem sc_l_around : FnScope N_l_around ["_law_layout"] (defScope s_l_around) := ⟨rfl, rfl, rfl, by decide +kernel, rfl, by decide +kernel, by decide +kernel⟩
abbrev s_l_random_state : Stmt := top 45
abbrev N_l_random_state : List Str := ["_law_generator_here", "_law_layout", "_law_count", "_law_rooms", "_law_who", "_law_barred", "_law_local", "_law_one", "_law_other", "_law_near", "_law_chosen"]
theorem sc_l_random_state : FnScope N_l_random_state ["_law_generator_here", "_law_layout", "_law_count"] (defScope s_l_random_state) := ⟨rfl, rfl, rfl, by decide +kernel, rfl, by decide +kernel, by decide +kernel⟩
abbrev s_l_region : Stmt := top 46
abbrev N_l_region : List Str := ["_law_layout", "_law_situation", "_law_who", "_law_around_here", "_law_found", "_law_index", "_law_other", "_law_door"]
theorem sc_l_region : FnScope N_l_region ["_law_layout", "_law_situation", "_law_who"] (defScope s_l_region) := ⟨rfl, rfl, rfl, by decide +kernel, rfl, by decide +kernel, by decide +kernel⟩
abbrev s_l_regions : Stmt := top 47
abbrev N_l_regions : List Str := ["_law_layout", "_law_situation", "_law_who"]
theorem sc_l_regions : FnScope N_l_regions ["_law_layout", "_law_situation"] (defScope s_l_regions) := ⟨rfl, rfl, rfl, by decide +kernel, rfl, by decide +kernel, by decide +kernel⟩
abbrev s_l_are_apart : Stmt := top 48
abbrev N_l_are_apart : List Str := ["_law_regions_here", "_law_joined"]
theorem sc_l_are_apart : FnScope N_l_are_apart ["_law_regions_here"] (defScope s_l_are_apart) := ⟨rfl, rfl, rfl, by decide +kernel, rfl, by decide +kernel, by decide +kernel⟩
abbrev s_l_nearly_apart : Stmt := top 49
abbrev N_l_nearly_apart : List Str := ["_law_layout", "_law_situation", "_law_rooms", "_law_barred", "_law_door", "_law_one", "_law_other", "_law_regions_here", "_law_who", "_law_reach", "_law_others"]
theorem sc_l_nearly_apart : FnScope N_l_nearly_apart ["_law_layout", "_law_situation"] (defScope s_l_nearly_apart) := ⟨rfl, rfl, rfl, by decide +kernel, rfl, by decide +kernel, by decide +kernel⟩
abbrev s_l_opened : Stmt := top 50
abbrev N_l_opened : List Str := ["_law_situation", "_law_changes", "_law_barred", "_law_door", "_law_who"]
theorem sc_l_opened : FnScope N_l_opened ["_law_situation", "_law_changes"] (defScope s_l_opened) := ⟨rfl, rfl, rfl, by decide +kernel, rfl, by decide +kernel, by decide +kernel⟩
abbrev s_l_is_apart : Stmt := top 51
abbrev N_l_is_apart : List Str := ["_law_layout", "_law_situation"]
theorem sc_l_is_apart : FnScope N_l_is_apart ["_law_layout", "_law_situation"] (defScope s_l_is_apart) := ⟨rfl, rfl, rfl, by decide +kernel, rfl, by decide +kernel, by decide +kernel⟩
abbrev s_l_path : Stmt := top 52
abbrev N_l_path : List Str := ["_law_layout", "_law_start", "_law_end", "_law_around_here", "_law_doors", "_law_waiting", "_law_here", "_law_other", "_law_door"]
theorem sc_l_path : FnScope N_l_path ["_law_layout", "_law_start", "_law_end"] (defScope s_l_path) := ⟨rfl, rfl, rfl, by decide +kernel, rfl, by decide +kernel, by decide +kernel⟩
abbrev s_l_fewest : Stmt := top 53
abbrev N_l_fewest : List Str := ["_law_layout", "_law_situation", "_law_rooms", "_law_barred", "_law_found", "_law_one", "_law_other", "_law_path_here", "_law_cut", "_law_ahead", "_law_door"]
theorem sc_l_fewest : FnScope N_l_fewest ["_law_layout", "_law_situation"] (defScope s_l_fewest) := ⟨rfl, rfl, rfl, by decide +kernel, rfl, by decide +kernel, by decide +kernel⟩
abbrev s_l_holds : Stmt := top 54
abbrev N_l_holds : List Str := ["_law_generator_here", "_law_layout", "_law_situation", "_law_saved", "_law_result", "_law_number", "_law_changes", "_law_some", "_law_change", "_law_first"]
theorem sc_l_holds : FnScope N_l_holds ["_law_generator_here", "_law_layout", "_law_situation"] (defScope s_l_holds) := ⟨rfl, rfl, rfl, by decide +kernel, rfl, by decide +kernel, by decide +kernel⟩
abbrev s_law : Stmt := top 55
abbrev N_law : List Str := ["_law_script", "_law_number", "_law_generator_here", "_law_size", "_law_layout", "_law_situation", "_law_here"]
theorem sc_law : FnScope N_law ["_law_script"] (defScope s_law) := ⟨rfl, rfl, rfl, by decide +kernel, rfl, by decide +kernel, by decide +kernel⟩
abbrev s_Encounter_init : Stmt := mem 0 (top 19)
abbrev N_Encounter_init : List Str := ["self", "barred", "people", "steps", "first", "second", "closed", "door", "start", "end"]
theorem sc_Encounter_init : FnScope N_Encounter_init ["self", "barred", "people", "steps"] (defScope s_Encounter_init) := ⟨rfl, rfl, rfl, by decide +kernel, rfl, by decide +kernel, by decide +kernel⟩
/-- the built-ins that the text calls stand as they were -/
structure Bl (mg : Str → Option Value) : Prop where
  len : mg "len" = none
  isinstance : mg "isinstance" = none
  enumerate : mg "enumerate" = none
  range : mg "range" = none
  list : mg "list" = none
  set : mg "set" = none
  sorted : mg "sorted" = none
  max : mg "max" = none
  min : mg "min" = none
  tuple : mg "tuple" = none
  int : mg "int" = none
  bool : mg "bool" = none
  all : mg "all" = none
  sum : mg "sum" = none
  repr : mg "repr" = none
  abs : mg "abs" = none

/-- a house at a: a tuple of tuples -/
def HouseAt (K : PySem.W.Frag) (H : Hp) (a : Addr) (ds : List (Nat × Nat)) : Prop :=
  ∃ rs : List Addr, SqT K H a (rs.map V.ref) ∧ rs.length = ds.length ∧ ∀ (d : Nat) (r : Addr) (e : Nat × Nat), rs[d]? = some r → ds[d]? = some e → SqT K H r [.int e.1, .int e.2]
section
variable {K : PySem.W.Frag} {H H' : Hp} {a g : Addr} {ds : List (Nat × Nat)}
theorem HouseAt.same (h : HouseAt K H a ds) (s : Same H H') : HouseAt K H' a ds := by
  obtain ⟨rs, h1, h2, h3⟩ := h
  exact ⟨rs, s.tup h1, h2, fun d r e x y => s.tup (h3 d r e x y)⟩
theorem HouseAt.but {xs : List V} (h : HouseAt K H a ds) (hg : H g = some (.lst xs)) (s : But g H H') : HouseAt K H' a ds := by
  obtain ⟨rs, h1, h2, h3⟩ := h
  exact ⟨rs, s.tup hg h1, h2, fun d r e x y => s.tup hg (h3 d r e x y)⟩
theorem ty_tup {xs : List V} (h : SqT K H a xs) : TyX K H (.ref a) (.type "tuple") := by
  rcases h with (h | ⟨o, h⟩) | ⟨o, its, n, h, c, _⟩
  · exact .base (.tup h)
  · exact .fTuple h
  · exact .kTuple h c
end
end K5

namespace K5
open PySem PySem.Spec PyProof.Rows L2
def spWhole : Sp := fun vs H Q _ => ∃ i : Int, vs = [.int i] ∧ Q (.bl true) H
def spIndex : Sp := fun vs H Q _ => ∃ i n : Int, vs = [.int i, .int n] ∧ Q (.bl (decide (0 ≤ i ∧ i < n))) H
def spDoor (K : PySem.W.Frag) : Sp := fun vs H Q _ => ∃ (a : Addr) (x y n : Int), vs = [.ref a, .int n] ∧ SqT K H a [.int x, .int y] ∧ (0 ≤ x ∧ x < n) ∧ (0 ≤ y ∧ y < n) ∧ x ≠ y ∧ Q (.bl true) H
section
variable {P : Program} {w : World} {K : PySem.W.Frag}
      {mg : Str → Option Value} {base : Heap}
theorem ok_is_whole (T : Bl mg) (D : Def K mg "is_whole" s_is_whole) : Cal P w K mg base "is_whole" ["value"] 1 spWhole := by
  refine D.ok sc_is_whole (fun _ _ _ _ _ _ us hl => match us, hl with | [_], _ => rfl) (fun vs H Q E h => ?_) (fun f cdv A outer s H vs Q E hr h => ?_)
  · obtain ⟨i, rfl, _⟩ := h
    rfl
  obtain ⟨i, rfl, q⟩ := h
  refine ⟨_, (pss_one (ps_ret (pe_and (pe_callB call_isi (by rfl) T.isinstance (by decide +kernel) (pa_cons (pv 0) (pa_cons (pe_bltn (v := .ty "int") (u := .type "int") (by rfl) T.int (by decide +kernel) rfl) pa_nil))) (pe_one (pe_not (pe_callB call_isi (by rfl) T.isinstance (by decide +kernel) (pa_cons (pv 0) (pa_cons (pe_bltn (v := .ty "bool") (u := .type "bool") (by rfl) T.bool (by decide +kernel) rfl) pa_nil)))))))), ?_⟩
  refine ⟨_, rfl, _, _, _, _, _, rfl, .ty _, .base (.int _), kit_ty (r := true) (by decide +kernel), _, rfl, iteT ?_⟩
  refine ⟨_, rfl, _, _, _, _, _, rfl, .ty _, .base (.int _), kit_ty (r := false) (by decide +kernel), _, rfl, q⟩
theorem ok_is_index (T : Bl mg) (D : Def K mg "is_index" s_is_index) (C_is_whole : Cal P w K mg base "is_whole" ["value"] 1 spWhole) : Cal P w K mg base "is_index" ["value", "count"] 2 spIndex := by
  refine D.ok sc_is_index (fun _ _ _ _ _ _ us hl => match us, hl with | [_, _], _ => rfl) (fun vs H Q E h => ?_) (fun f cdv A outer s H vs Q E hr h => ?_)
  · obtain ⟨i, n, rfl, _⟩ := h
    rfl
  obtain ⟨i, n, rfl, q⟩ := h
  obtain ⟨f_is_whole, fd_is_whole, g_is_whole, k_is_whole, b_is_whole, G_is_whole⟩ := C_is_whole
  refine ⟨_, (pss_one (ps_ret (pe_and (pe_call G_is_whole (hr.mono (by decide)) (by rfl) g_is_whole k_is_whole b_is_whole .nil pass0 (pa_cons (pv 0) pa_nil)) (pe_one (pe_chain op_le op_lt pe_int (pv 0) (pv 1)))))), ?_⟩
  refine ⟨_, rfl, _, rfl, _, rfl, iteT ?_⟩
  refine ⟨_, rfl, _, _, rfl, rfl, _, rfl, ite2 (fun h => ?_) (fun h => ?_)⟩
  · have h := of_decide_eq_true h
    refine ⟨_, rfl, _, _, rfl, rfl, ?_⟩
    have e : decide (i < n) = decide (0 ≤ i ∧ i < n) := by simp [h]
    show Q (.bl (decide (i < n))) H
    rw [e]
    exact q
  · have e : false = decide (0 ≤ i ∧ i < n) := by
      have h : ¬ 0 ≤ i := fun z => h (decide_eq_true z)
      simp [h]
    show Q (.bl false) H
    rw [e]
    exact q
theorem ok_is_door (T : Bl mg) (D : Def K mg "is_door" s_is_door) (C_is_index : Cal P w K mg base "is_index" ["value", "count"] 2 spIndex) : Cal P w K mg base "is_door" ["value", "count"] 3 (spDoor K) := by
  refine D.ok sc_is_door (fun _ _ _ _ _ _ us hl => match us, hl with | [_, _], _ => rfl) (fun vs H Q E h => ?_) (fun f cdv A outer s H vs Q E hr h => ?_)
  · obtain ⟨a, x, y, n, rfl, _⟩ := h
    rfl
  obtain ⟨a, x, y, n, rfl, ht, hx, hy, hne, q⟩ := h
  obtain ⟨f_is_index, fd_is_index, g_is_index, k_is_index, b_is_index, G_is_index⟩ := C_is_index
  refine ⟨_, (pss_cons (ps_if (PW.pt (pw_or (pt_not (pt_val (pe_callB call_isi (by rfl) T.isinstance (by decide +kernel) (pa_cons (pv 0) (pa_cons (pe_bltn (v := .ty "tuple") (u := .type "tuple") (by rfl) T.tuple (by decide +kernel) rfl) pa_nil))))) (pw_or1 (pt_cmpR op_ne (pe_callB call_len_seq (by rfl) T.len PySem.boot_len (pa_cons (pv 0) pa_nil)) pe_int (nomark _))))) (pss_one (ps_ret pe_bl)) pss_nil)
    (pss_cons (ps_asg (pv 0) (pg_tup (n := 2) rfl (pgs_cons (pg_name (i := 2) sc_is_door.nd rfl (.inl rfl)) (pgs_cons (pg_name (i := 3) sc_is_door.nd rfl (.inl rfl)) pgs_nil))))
    (pss_one (ps_ret (pe_and (pe_call G_is_index (hr.mono (by decide)) (by rfl) g_is_index k_is_index b_is_index .nil pass0 (pa_cons (pv 2) (pa_cons (pv 1) pa_nil))) (pe_and (pe_call G_is_index (hr.mono (by decide)) (by rfl) g_is_index k_is_index b_is_index .nil pass0 (pa_cons (pv 3) (pa_cons (pv 1) pa_nil))) (pe_one (pe_cmpR op_ne (pv 2) (pv 3) (nomark _))))))))), ?_⟩
  refine ⟨_, rfl, _, _, _, _, _, rfl, .ty _, ty_tup ht, kit_ty (r := true) (by decide +kernel), _, rfl, iteF ?_⟩
  refine ⟨_, rfl, _, _, rfl, .inr ht, rfl, _, rfl, iteF ?_⟩
  refine ⟨_, rfl, _, _, rfl, ht, rfl, _, _, rfl, _, _, rfl, rfl, ?_⟩
  refine ⟨_, rfl, _, rfl, _, _, rfl, _, rfl, ?_⟩
  rw [decide_eq_true hx]
  refine iteT ⟨_, rfl, _, rfl, _, _, rfl, _, rfl, ?_⟩
  rw [decide_eq_true hy]
  refine iteT ⟨_, rfl, _, rfl, rfl, ?_⟩
  rw [decide_eq_false (show ¬ V.int x = V.int y from fun z => hne (V.int.inj z))]
  exact q
end
end K5

namespace K5
open PySem PySem.Spec PyProof.Rows L2
/-- a list of numbers as values -/
def nv (L : List Nat) : List V := L.map fun (x : Nat) => V.int (x : Int)
theorem nv_len (L : List Nat) : (nv L).length = L.length := by unfold nv; rw [List.length_map]
theorem nv_get {L : List Nat} {x y : Nat} (h : L[x]? = some y) : (nv L)[x]? = some (.int (y : Int)) := by
  unfold nv
  rw [List.getElem?_map, h]
  rfl
theorem nv_set (L : List Nat) (x y : Nat) : (nv L).set x (.int (y : Int)) = nv (L.set x y) := by
  unfold nv
  rw [List.map_set]
theorem nv_at {L : List Nat} {x y : Nat} (h : L[x]? = some y) : atI (nv L) (x : Int) = some (.int (y : Int)) := atI_nat (nv_get h)
theorem ixN_nat {n x : Nat} (h : x < n) : ixN n (x : Int) = some x := by
  unfold ixN
  rw [if_pos (by omega), if_pos (by omega), Int.toNat_natCast]
theorem upd_self {H : Hp} {p : Addr} {o : HO} (h : H p = some o) : upd H p o = H := by
  funext b
  unfold upd
  by_cases e : b = p
  · rw [if_pos e, e, h]
  · rw [if_neg e]
theorem get_of {α : Type} {L : List α} {n x : Nat} (h : L.length = n) (hx : x < n) : ∃ y, L[x]? = some y := ⟨_, List.getElem?_eq_getElem (h ▸ hx)⟩
theorem rgV_nat (n : Nat) : rgV 0 (n : Int) = nv (List.range n) := by
  unfold rgV nv
  rw [show ((n : Int) - 0).toNat = n by omega]
  apply List.map_congr_left
  intro i _
  rw [Int.zero_add]
theorem dec_ne {i j : Int} (h : i ≠ j) : decide (V.int i = V.int j) = false := decide_eq_false fun z => h (V.int.inj z)
theorem dec_eq (i : Int) : decide (V.int i = V.int i) = true := decide_eq_true rfl
def spFind : Sp := fun vs H Q _ => ∃ (p : Addr) (L : List Nat) (n : Nat) (rank : Nat → Nat) (R : Nat → Nat → Prop) (room : Nat), vs = [.ref p, .int (room : Int)] ∧ H p = some (.lst (nv L)) ∧ Uf n L rank R ∧
  (∀ a b c, R a b → R b c → R a c) ∧ (∀ a, R a a) ∧ room < n ∧ ∀ (L' : List Nat) (r : Nat), Uf n L' rank R → R room r → L'[r]? = some r → (∀ x : Nat, L[x]? = some x → L'[x]? = some x) → Q (.int (r : Nat)) (upd H p (.lst (nv L')))
def spRing (K : PySem.W.Frag) : Sp := fun vs H Q _ => ∃ (a : Addr) (ds : List (Nat × Nat)) (n : Nat), vs = [.ref a] ∧ HouseAt K H a ds ∧ Tree n ds ∧ n ≤ 1000 ∧ ∀ H', Same H H' → Q .non H'
section
variable {P : Program} {w : World} {K : PySem.W.Frag}
      {mg : Str → Option Value} {base : Heap}
theorem ok_find_root (T : Bl mg) (D : Def K mg "find_root" s_find_root) : Cal P w K mg base "find_root" ["links", "room"] 1 spFind := by
  refine D.ok sc_find_root (fun _ _ _ _ _ _ us hl => match us, hl with | [_, _], _ => rfl) (fun vs H Q E h => ?_) (fun f cdv A outer s H vs Q E hr h => ?_)
  · obtain ⟨p, L, n, rank, R, room, rfl, _⟩ := h
    rfl
  obtain ⟨p, L, n, rank, R, room, rfl, hp, u, tr, rf, hlt, q⟩ := h
  refine ⟨_, (pss_cons (ps_while PassesOwn.never (pt_cmpR op_ne (pe_ix ix_list (pv 0) (pv 1) (fun _ _ => rfl)) (pv 1) (nomark _)) (pss_cons (ps_asg (pe_ix ix_list (pv 0) (pe_ix ix_list (pv 0) (pv 1) (fun _ _ => rfl)) (fun _ _ => rfl)) (pg_sub (pv 0) (pv 1) set_list))
    (pss_one (ps_set (i := 1) sc_find_root.nd rfl (.inl rfl) (pe_ix ix_list (pv 0) (pv 1) (fun _ _ => rfl))))))
    (pss_one (ps_ret (pv 1)))), ?_⟩
  refine ⟨fun m σ H1 => ∃ (L1 : List Nat) (r : Nat), m = rank r ∧ σ = [some (.ref p), some (.int (r : Nat))] ∧ H1 = upd H p (.lst (nv L1)) ∧ Uf n L1 rank R ∧ R room r ∧ r < n ∧ ∀ x : Nat, L[x]? = some x → L1[x]? = some x, ⟨rank room, L, room, rfl, rfl, (upd_self hp).symm, u, rf _, hlt, fun _ h => h⟩, fun m σ H1 hW => ?_⟩
  obtain ⟨L1, r, rfl, rfl, rfl, u1, rr, hr1, ro⟩ := hW
  obtain ⟨y, hy⟩ := get_of u1.len hr1
  refine ⟨_, rfl, _, rfl, _, _, _, _, rfl, rfl, SqL.of upd_same, nv_at hy, _, rfl, rfl, _, rfl, ?_⟩
  by_cases e : y = r
  · subst e
    rw [dec_eq]
    exact iteF ⟨_, rfl, q L1 y u1 rr hy ro⟩
  · rw [dec_ne (by omega)]
    obtain ⟨z, hz⟩ := get_of u1.len (u1.at_ _ _ hy).1
    refine iteT ⟨fun σ' H' => ∃ (L2 : List Nat) (r2 : Nat), rank r2 < rank r ∧ σ' = [some (.ref p), some (.int (r2 : Nat))] ∧ H' = upd H p (.lst (nv L2)) ∧ Uf n L2 rank R ∧ R room r2 ∧ r2 < n ∧ ∀ x : Nat, L[x]? = some x → L2[x]? = some x, fun σ' H' ⟨L2, r2, h1, h2⟩ => ⟨_, h1, L2, r2, rfl, h2⟩, ?_⟩
    refine ⟨_, rfl, _, rfl, _, rfl, _, _, _, _, rfl, rfl, SqL.of upd_same, nv_at hy, _, _, _, _, rfl, rfl, SqL.of upd_same, nv_at hz, ?_⟩
    refine ⟨_, rfl, _, rfl, _, _, _, r, rfl, rfl, upd_same, ixN_nat (by rw [nv_len, u1.len]; exact hr1), ?_⟩
    rw [upd_upd, nv_set]
    have hz' : (L1.set r z)[r]? = some z := by
      rw [List.getElem?_set_self (by rw [u1.len]; exact hr1)]
    refine ⟨_, rfl, _, rfl, _, _, _, _, rfl, rfl, SqL.of upd_same, nv_at hz', ?_⟩
    have a1 := u1.at_ _ _ hy
    have a2 := u1.at_ _ _ hz
    refine ⟨L1.set r z, z, u1.less hy hz e, rfl, rfl, u1.half tr hy hz, tr _ _ _ rr (tr _ _ _ a1.2.1 a2.2.1), a2.1, fun x hx => ?_⟩
    have h1 := ro x hx
    have ne : r ≠ x := fun z => by
      subst z
      rw [h1] at hy
      exact e (Option.some.inj hy).symm
    rw [List.getElem?_set_ne ne]
    exact h1
theorem ok_first_ring (T : Bl mg) (D : Def K mg "first_ring" s_first_ring) (C_find_root : Cal P w K mg base "find_root" ["links", "room"] 1 spFind) : Cal P w K mg base "first_ring" ["doors"] 2 (spRing K) := by
  refine D.ok sc_first_ring (fun _ _ _ _ _ _ us hl => match us, hl with | [_], _ => rfl) (fun vs H Q E h => ?_) (fun f cdv A outer s H vs Q E hr h => ?_)
  · obtain ⟨a, ds, n, rfl, _⟩ := h
    rfl
  obtain ⟨a, ds, n, rfl, hH, tree, hn, q⟩ := h
  obtain ⟨rs, hrs, hlen, hds⟩ := id hH
  obtain ⟨side, s1, s2⟩ := tree.side
  have hdn := tree.len
  obtain ⟨f_find_root, fd_find_root, g_find_root, k_find_root, b_find_root, G_find_root⟩ := C_find_root
  refine ⟨_, (pss_cons (ps_set (i := 1) sc_first_ring.nd rfl (.inl rfl) (pe_listRg rfl (by rfl) T.list (prg_1 (by rfl) T.range (pe_op op_add (pe_callB call_len_seq (by rfl) T.len PySem.boot_len (pa_cons (pv 0) pa_nil)) pe_int))))
    (pss_cons (ps_for PassesOwn.never rfl (pi_enumT (by rfl) T.enumerate (pa_cons (pv 0) pa_nil)) (pg_tup (n := 2) rfl (pgs_cons (pg_name (i := 2) sc_first_ring.nd rfl (.inl rfl)) (pgs_cons (pg_tup (n := 2) rfl (pgs_cons (pg_name (i := 3) sc_first_ring.nd rfl (.inl rfl)) (pgs_cons (pg_name (i := 4) sc_first_ring.nd rfl (.inl rfl)) pgs_nil))) pgs_nil)))
    (pss_cons (ps_set (i := 5) sc_first_ring.nd rfl (.inl rfl) (pe_call G_find_root (hr.mono (by decide)) (by rfl) g_find_root k_find_root b_find_root .nil pass0 (pa_cons (pv 1) (pa_cons (pv 3) pa_nil))))
    (pss_cons (ps_set (i := 6) sc_first_ring.nd rfl (.inl rfl) (pe_call G_find_root (hr.mono (by decide)) (by rfl) g_find_root k_find_root b_find_root .nil pass0 (pa_cons (pv 1) (pa_cons (pv 4) pa_nil))))
    (pss_cons (ps_if (pt_cmpR op_eq (pv 5) (pv 6) (nomark _)) (pss_one (ps_ret (pv 2))) pss_nil)
    (pss_one (ps_asg (pv 6) (pg_sub (pv 1) (pv 5) set_list)))))))
    (pss_one (ps_ret pe_non)))), ?_⟩
  have e1 : (((rs.map V.ref).length : Nat) : Int) + 1 = ((n : Nat) : Int) := by
    rw [List.length_map, hlen]
    omega
  refine ⟨_, rfl, _, _, rfl, .inr hrs, _, _, rfl, rfl, _, rfl, .of_le (Int.le_refl _) (by omega) (by omega) (by omega), fun q0 nq => ?_⟩
  rw [e1, rgV_nat]
  refine ⟨_, rfl, a, _, rfl, (Same.upd nq).tup hrs, ?_⟩
  refine for_it (walk_enumT (K := K) (a := a) (xs := rs.map V.ref)) (fun k σ H1 => ∃ L rank y2 y3 y4 y5 y6, σ = [some (.ref a), some (.ref q0), y2, y3, y4, y5, y6] ∧ Same H H1 ∧ H1 q0 = some (.lst (nv L)) ∧ Uf n L rank (Rk side k))
    ⟨_, _, _, _, _, _, _, rfl, Same.upd nq, upd_same, Uf.range n _ Rk.rf⟩ (fun i σ H1 _ ⟨_, _, _, _, _, _, _, _, sm, _⟩ => sm.tup hrs) ?_ ?_
  · rintro k x σ H1 H2 hk ⟨L, rank, y2, y3, y4, y5, y6, rfl, sm, hq0, u⟩ ⟨t, x1, x2, rfl, nt, rfl, ex1, ex2⟩
    cases ex1
    have hk' : k < ds.length := by
      rw [List.length_map, hlen] at hk
      exact hk
    obtain ⟨e, he⟩ : ∃ e, ds[k]? = some e := get_of rfl hk'
    obtain ⟨r, hr0⟩ : ∃ r, rs[k]? = some r := get_of hlen hk'
    have ex2' : V.ref r = x2 := by
      have ex2 : (rs.map V.ref)[k]? = some x2 := ex2
      rw [List.getElem?_map, hr0] at ex2
      exact Option.some.inj ex2
    subst ex2'
    have sm2 : Same H1 (upd H1 t (.tup [.int (k : Nat), .ref r])) := Same.upd nt
    have hrd := sm2.tup (sm.tup (hds k r e hr0 he))
    have hq2 := sm2 _ _ hq0
    have elt := tree.lt e (List.mem_of_getElem? he)
    refine ⟨t, _, rfl, SqT.of upd_same, rfl, _, _, rfl, _, _, rfl, ⟨r, _, rfl, hrd, rfl, _, _, rfl, _, _, rfl, rfl, rfl, ?_⟩⟩
    refine ⟨_, rfl, _, rfl, q0, L, n, rank, Rk side k, e.1, rfl, hq2, u, Rk.tr, Rk.rf, elt.1, fun L1 ra u1 hra rta _ => ?_⟩
    refine ⟨_, rfl, _, rfl, q0, L1, n, rank, Rk side k, e.2, rfl, upd_same, u1, Rk.tr, Rk.rf, elt.2, fun L2 rb u2 hrb rtb ro2 => ?_⟩
    rw [upd_upd]
    refine ⟨_, rfl, _, rfl, rfl, _, rfl, ?_⟩
    have nab : ra ≠ rb := fun z => ring_no s1 he hra (z ▸ hrb)
    show if decide (V.int (ra : Int) = V.int (rb : Int)) = true then _ else _
    rw [dec_ne (by omega)]
    refine iteF ?_
    have rta2 := ro2 ra rta
    refine ⟨_, rfl, _, rfl, _, rfl, _, _, _, ra, rfl, rfl, upd_same, ixN_nat (by rw [nv_len]; exact get_lt rta2), ?_⟩
    rw [upd_upd, nv_set]
    exact ⟨_, _, _, _, _, _, _, rfl, (sm.trans sm2).at nq, upd_same, u2.union s1 s2 he hra hrb rta2 rtb⟩
  · rintro σ H1 ⟨L, rank, y2, y3, y4, y5, y6, rfl, sm, hq0, u⟩
    exact q H1 sm
end
end K5

namespace K5
open PySem PySem.Spec PyProof.Rows L2
def spNeedRoom (K : PySem.W.Frag) : Sp := fun vs H Q _ => ∃ (a : Addr) (ds : List (Nat × Nat)) (x : Int), vs = [.ref a, .int x] ∧ HouseAt K H a ds ∧ 0 ≤ x ∧ x < ds.length + 1 ∧ Q .non H
def spNeedDoor (K : PySem.W.Frag) : Sp := fun vs H Q _ => ∃ (a : Addr) (ds : List (Nat × Nat)) (x : Int), vs = [.ref a, .int x] ∧ HouseAt K H a ds ∧ 0 ≤ x ∧ x < ds.length ∧ Q .non H
section
variable {P : Program} {w : World} {K : PySem.W.Frag}
      {mg : Str → Option Value} {base : Heap}
theorem ok_check_house (T : Bl mg) (D : Def K mg "check_house" s_check_house) (C_is_door : Cal P w K mg base "is_door" ["value", "count"] 3 (spDoor K)) (C_first_ring : Cal P w K mg base "first_ring" ["doors"] 2 (spRing K)) :
    Cal P w K mg base "check_house" ["value"] 4 (spRing K) := by
  refine D.ok sc_check_house (fun _ _ _ _ _ _ us hl => match us, hl with | [_], _ => rfl) (fun vs H Q E h => ?_) (fun f cdv A outer s H vs Q E hr h => ?_)
  · obtain ⟨a, ds, n, rfl, _⟩ := h
    rfl
  obtain ⟨a, ds, n, rfl, hH, tree, hn, q⟩ := h
  obtain ⟨rs, hrs, hlen, hds⟩ := id hH
  have hdn := tree.len
  obtain ⟨f_is_door, fd_is_door, g_is_door, k_is_door, b_is_door, G_is_door⟩ := C_is_door
  obtain ⟨f_first_ring, fd_first_ring, g_first_ring, k_first_ring, b_first_ring, G_first_ring⟩ := C_first_ring
  refine ⟨_, (pss_cons (ps_if (pt_not (pt_val (pe_callB call_isi (by rfl) T.isinstance (by decide +kernel) (pa_cons (pv 0) (pa_cons (pe_bltn (v := .ty "tuple") (u := .type "tuple") (by rfl) T.tuple (by decide +kernel) rfl) pa_nil))))) (pss_one (ps_ret (pe_tup (pa_cons pe_str pa_nil)))) pss_nil)
    (pss_cons (ps_for PassesOwn.never rfl (pi_enumT (by rfl) T.enumerate (pa_cons (pv 0) pa_nil)) (pg_tup (n := 2) rfl (pgs_cons (pg_name (i := 1) sc_check_house.nd rfl (.inl rfl)) (pgs_cons (pg_name (i := 2) sc_check_house.nd rfl (.inl rfl)) pgs_nil)))
    (pss_one (ps_if (pt_not (pt_val (pe_call G_is_door (hr.mono (by decide)) (by rfl) g_is_door k_is_door b_is_door .nil pass0 (pa_cons (pv 2) (pa_cons (pe_op op_add (pe_callB call_len_seq (by rfl) T.len PySem.boot_len (pa_cons (pv 0) pa_nil)) pe_int) pa_nil))))) (pss_one (ps_ret (pe_tup (pa_cons pe_str (pa_cons (pv 1) pa_nil))))) pss_nil)))
    (pss_cons (ps_set (i := 3) sc_check_house.nd rfl (.inl rfl) (pe_call G_first_ring (hr.mono (by decide)) (by rfl) g_first_ring k_first_ring b_first_ring .nil pass0 (pa_cons (pv 0) pa_nil)))
    (pss_cons (ps_if (pt_cmpR op_notN (pv 3) pe_non (nomark _)) (pss_one (ps_ret (pe_tup (pa_cons pe_str (pa_cons (pv 3) pa_nil))))) pss_nil)
    (pss_one (ps_ret pe_non)))))), ?_⟩
  refine ⟨_, rfl, _, _, _, _, _, rfl, .ty _, ty_tup hrs, kit_ty (r := true) (by decide +kernel), _, rfl, iteF ?_⟩
  refine ⟨_, rfl, a, _, rfl, hrs, ?_⟩
  refine for_it (walk_enumT (K := K) (a := a) (xs := rs.map V.ref)) (fun k σ H1 => ∃ y1 y2 y3, σ = [some (.ref a), y1, y2, y3] ∧ Same H H1)
    ⟨_, _, _, rfl, Same.refl _⟩ (fun i σ H1 _ ⟨_, _, _, _, sm⟩ => sm.tup hrs) ?_ ?_
  · rintro k x σ H1 H2 hk ⟨y1, y2, y3, rfl, sm⟩ ⟨t, x1, x2, rfl, nt, rfl, ex1, ex2⟩
    cases ex1
    have hk' : k < ds.length := by
      rw [List.length_map, hlen] at hk
      exact hk
    obtain ⟨e, he⟩ : ∃ e, ds[k]? = some e := get_of rfl hk'
    obtain ⟨r, hr0⟩ : ∃ r, rs[k]? = some r := get_of hlen hk'
    have ex2' : V.ref r = x2 := by
      have ex2 : (rs.map V.ref)[k]? = some x2 := ex2
      rw [List.getElem?_map, hr0] at ex2
      exact Option.some.inj ex2
    subst ex2'
    have sm2 : Same H1 (upd H1 t (.tup [.int (k : Nat), .ref r])) := Same.upd nt
    have sm3 := sm.trans sm2
    have elt := tree.lt e (List.mem_of_getElem? he)
    obtain ⟨side, s1, s2⟩ := tree.side
    have ene : e.1 ≠ e.2 := fun z => s1 k e he (by rw [z])
    refine ⟨t, _, rfl, SqT.of upd_same, rfl, _, _, rfl, _, _, rfl, rfl, ?_⟩
    refine ⟨_, rfl, _, rfl, _, _, rfl, .inr (sm3.tup hrs), _, _, rfl, rfl, ?_⟩
    refine ⟨r, e.1, e.2, _, rfl, sm3.tup (hds k r e hr0 he), ?_, ?_, by omega, _, rfl, iteF ⟨_, _, _, rfl, sm3⟩⟩
    · rw [List.length_map, hlen]; omega
    · rw [List.length_map, hlen]; omega
  · rintro σ H1 ⟨y1, y2, y3, rfl, sm⟩
    refine ⟨_, rfl, a, ds, n, rfl, hH.same sm, tree, hn, fun H2 sm2 => ?_⟩
    refine ⟨_, rfl, rfl, _, rfl, iteF ?_⟩
    exact q H2 (sm.trans sm2)
theorem ok_need_house (T : Bl mg) (D : Def K mg "need_house" s_need_house) (C_check_house : Cal P w K mg base "check_house" ["value"] 4 (spRing K)) : Cal P w K mg base "need_house" ["house"] 5 (spRing K) := by
  refine D.ok sc_need_house (fun _ _ _ _ _ _ us hl => match us, hl with | [_], _ => rfl) (fun vs H Q E h => ?_) (fun f cdv A outer s H vs Q E hr h => ?_)
  · obtain ⟨a, ds, n, rfl, _⟩ := h
    rfl
  obtain ⟨a, ds, n, rfl, hH, tree, hn, q⟩ := h
  obtain ⟨f_check_house, fd_check_house, g_check_house, k_check_house, b_check_house, G_check_house⟩ := C_check_house
  refine ⟨_, (pss_cons (ps_set (i := 1) sc_need_house.nd rfl (.inl rfl) (pe_call G_check_house (hr.mono (by decide)) (by rfl) g_check_house k_check_house b_check_house .nil pass0 (pa_cons (pv 0) pa_nil)))
    (pss_one (ps_if (pt_cmpR op_notN (pv 1) pe_non (nomark _)) pss_never pss_nil))), ?_⟩
  refine ⟨_, rfl, a, ds, n, rfl, hH, tree, hn, fun H2 sm2 => ⟨_, rfl, rfl, _, rfl, iteF ?_⟩⟩
  exact q H2 sm2
end
end K5

namespace K5
open PySem PySem.Spec PyProof.Rows L2
/-- a list at q of pairs of numbers, each a tuple -/
def PairsAt (H : Hp) (q : Addr) (l : List (Nat × Nat)) : Prop :=
  ∃ ts : List Addr, H q = some (.lst (ts.map V.ref)) ∧ ts.length = l.length ∧ ∀ (i : Nat) (t : Addr) (e : Nat × Nat), ts[i]? = some t → l[i]? = some e → H t = some (.tup [.int e.1, .int e.2])
theorem PairsAt.same {H H' : Hp} {q : Addr} {l} (h : PairsAt H q l) (s : Same H H') : PairsAt H' q l := by
  obtain ⟨ts, h1, h2, h3⟩ := h
  exact ⟨ts, s _ _ h1, h2, fun i t e a b => s _ _ (h3 i t e a b)⟩
theorem ne_lt {H : Hp} {a b : Addr} {xs ys : List V} (h : H a = some (.lst xs)) (h' : H b = some (.tup ys)) : b ≠ a := ne_of h' h (by intro z; cases z)
/-- what stands aside of q keeps -/
theorem PairsAt.aside {H H' : Hp} {q p : Addr} {l} {xs : List V} (h : PairsAt H q l) (hp : H p = some (.lst xs)) (ne : q ≠ p) (s : But p H H') : PairsAt H' q l := by
  obtain ⟨ts, h1, h2, h3⟩ := h
  exact ⟨ts, s _ _ ne h1, h2, fun i t e a b => s _ _ (ne_lt hp (h3 i t e a b)) (h3 i t e a b)⟩
theorem PairsAt.push {H H' : Hp} {q t : Addr} {l : List (Nat × Nat)} {ts : List Addr} {d y : Nat} (h1 : H q = some (.lst (ts.map V.ref))) (h2 : ts.length = l.length) (h3 : ∀ (i : Nat) (t : Addr) (e : Nat × Nat), ts[i]? = some t → l[i]? = some e → H t = some (.tup [.int e.1, .int e.2]))
    (s : But q H H') (hq : H' q = some (.lst (ts.map V.ref ++ [.ref t]))) (ht : H' t = some (.tup [.int (d : Int), .int (y : Int)])) : PairsAt H' q (l ++ [(d, y)]) := by
  refine ⟨ts ++ [t], by rw [hq, List.map_append]; rfl, by simp [h2], fun i t' e a b => ?_⟩
  by_cases hi : i < ts.length
  · rw [List.getElem?_append_left hi] at a
    rw [List.getElem?_append_left (by omega)] at b
    have := h3 i t' e a b
    exact s _ _ (ne_lt h1 this) this
  · have hlt := get_lt a
    rw [List.length_append, List.length_singleton] at hlt
    have ei : i = ts.length := by omega
    subst ei
    rw [List.getElem?_append_right (Nat.le_refl _), Nat.sub_self] at a
    rw [h2, List.getElem?_append_right (Nat.le_refl _), Nat.sub_self] at b
    cases a
    cases b
    exact ht
/-- the rows of exits: a list each -/
def Rows (H : Hp) (ps : List Addr) (ex : Nat → List (Nat × Nat)) : Prop := ∀ (x : Nat) (q : Addr), ps[x]? = some q → PairsAt H q (ex x)
theorem Rows.same {H H' : Hp} {ps ex} (h : Rows H ps ex) (s : Same H H') : Rows H' ps ex := fun x q e => (h x q e).same s
theorem Rows.push {H : Hp} {ps : List Addr} {ex : Nat → List (Nat × Nat)} (R : Rows H ps ex) (nd : ps.Nodup) {x : Nat} {q t : Addr} (hq : ps[x]? = some q) (nt : H t = none) {d y : Nat} {xs : List V} (hx : H q = some (.lst xs)) :
    Rows (upd (upd H t (.tup [.int (d : Int), .int (y : Int)])) q (.lst (xs ++ [.ref t]))) ps (fun z => if z = x then ex z ++ [(d, y)] else ex z) := by
  have s1 : But q H (upd (upd H t (.tup [.int (d : Int), .int (y : Int)])) q (.lst (xs ++ [.ref t]))) := fun b o ne e => by
    rw [upd_ne ne, upd_ne (ne_of_none e nt)]
    exact e
  have ntq : t ≠ q := (ne_of_none hx nt).symm
  intro z q' hz
  by_cases e : z = x
  · subst e
    rw [hq] at hz
    cases hz
    obtain ⟨ts, h1, h2, h3⟩ := R z q hq
    rw [hx] at h1
    cases h1
    simp only [if_true]
    exact .push (ts := ts) hx h2 h3 s1 upd_same (by rw [upd_ne ntq, upd_same])
  · simp only [if_neg e]
    have ne : q' ≠ q := fun z' => by
      subst z'
      exact e (nd_ix nd hz hq)
    exact (R z q' hz).aside hx ne s1
theorem ex_mem {ds : List (Nat × Nat)} {ex : Nat → List (Nat × Nat)} {k : Nat} {e : Nat × Nat} (he : ds[k]? = some e) (ne : e.1 ≠ e.2) (mem : ∀ x d y, (d, y) ∈ ex x ↔ d < k ∧ Joins ds d x y) (x d y : Nat) :
    (d, y) ∈ (if x = e.2 then (if x = e.1 then ex x ++ [(k, e.2)] else ex x) ++ [(k, e.1)] else if x = e.1 then ex x ++ [(k, e.2)] else ex x) ↔ d < k + 1 ∧ Joins ds d x y := by
  have J : Joins ds k x y ↔ (x = e.1 ∧ y = e.2) ∨ (x = e.2 ∧ y = e.1) := by
    unfold Joins
    rw [he]
    constructor
    · rintro (h | h)
      · have h := Option.some.inj h
        exact .inl ⟨by rw [h], by rw [h]⟩
      · have h := Option.some.inj h
        exact .inr ⟨by rw [h], by rw [h]⟩
    · rintro (⟨rfl, rfl⟩ | ⟨rfl, rfl⟩)
      · exact .inl rfl
      · exact .inr rfl
  have step : (d < k + 1 ∧ Joins ds d x y) ↔ (d < k ∧ Joins ds d x y) ∨ (d = k ∧ ((x = e.1 ∧ y = e.2) ∨ (x = e.2 ∧ y = e.1))) := by
    constructor
    · rintro ⟨h1, h2⟩
      by_cases q : d = k
      · subst q
        exact .inr ⟨rfl, J.mp h2⟩
      · exact .inl ⟨by omega, h2⟩
    · rintro (⟨h1, h2⟩ | ⟨rfl, h2⟩)
      · exact ⟨by omega, h2⟩
      · exact ⟨by omega, J.mpr h2⟩
  rw [step, ← mem x d y]
  by_cases h2 : x = e.2
  · have h1 : ¬ x = e.1 := fun z => ne (z.symm.trans h2)
    rw [if_pos h2, if_neg h1, List.mem_append, List.mem_singleton, Prod.mk.injEq]
    simp [h1, h2, ne.symm]
  · rw [if_neg h2]
    by_cases h1 : x = e.1
    · rw [if_pos h1, List.mem_append, List.mem_singleton, Prod.mk.injEq]
      simp [h1, ne]
    · rw [if_neg h1]
      simp [h1, h2]
theorem small3k {n : Nat} (h : n ≤ 3000) : n < sizeLine := Nat.lt_of_le_of_lt h (by decide)
theorem lcYes {A B : Hp → Prop} {σ : L2.St} {H : Hp} (h : A H) : tYes σ H (fun b H3 => if b = true then A H3 else B H3) := by
  show (if true = true then A H else B H)
  rw [if_pos rfl]
  exact h
def spExits (K : PySem.W.Frag) : Sp := fun vs H Q _ => ∃ (a : Addr) (ds : List (Nat × Nat)) (n : Nat), vs = [.ref a] ∧ HouseAt K H a ds ∧ Tree n ds ∧ n ≤ 1000 ∧
  ∀ (H' : Hp) (p : Addr) (ps : List Addr) (ex : Nat → List (Nat × Nat)), Same H H' → H p = none → H' p = some (.lst (ps.map V.ref)) → ps.length = n → Rows H' ps ex → (∀ x d y, (d, y) ∈ ex x ↔ Joins ds d x y) → Q (.ref p) H'
section
variable {P : Program} {w : World} {K : PySem.W.Frag}
      {mg : Str → Option Value} {base : Heap}
theorem ok_exits_of (T : Bl mg) (D : Def K mg "exits_of" s_exits_of) : Cal P w K mg base "exits_of" ["house"] 1 (spExits K) := by
  refine D.ok sc_exits_of (fun _ _ _ _ _ _ us hl => match us, hl with | [_], _ => rfl) (fun vs H Q E h => ?_) (fun f cdv A outer s H vs Q E hr h => ?_)
  · obtain ⟨a, ds, n, rfl, _⟩ := h
    rfl
  obtain ⟨a, ds, n, rfl, hH, tree, hn, q⟩ := h
  obtain ⟨rs, hrs, hlen, hds⟩ := id hH
  have hdn := tree.len
  refine ⟨_, (pss_cons (ps_setLc (i := 1) (own := [("room", 2)]) (g := gName 2)  rfl sc_exits_of.nd rfl rfl (sw_true rfl rfl rfl (by decide +kernel)) (pi_range1 rfl T.range (pa_cons (pe_op op_add (pe_callB call_len_seq (by rfl) T.len PySem.boot_len (pa_cons (pv 0) pa_nil)) pe_int) pa_nil)) (blkOk_by (N := N_exits_of) (sc := defScope s_exits_of) (own := [("room", 2)]) (by decide +kernel)) (fun _ _ _ _ _ => (pg_name (i := 2) sc_exits_of.nd rfl (.inl rfl) (.inr rfl))) (fun _ _ _ _ _ => pts_nil) (fun _ _ _ _ _ => (pe_lst pa_nil)))
    (pss_cons (ps_for PassesOwn.never rfl (pi_enumT (by rfl) T.enumerate (pa_cons (pv 0) pa_nil)) (pg_tup (n := 2) rfl (pgs_cons (pg_name (i := 3) sc_exits_of.nd rfl (.inl rfl)) (pgs_cons (pg_tup (n := 2) rfl (pgs_cons (pg_name (i := 4) sc_exits_of.nd rfl (.inl rfl)) (pgs_cons (pg_name (i := 5) sc_exits_of.nd rfl (.inl rfl)) pgs_nil))) pgs_nil)))
    (pss_cons (ps_expr (pe_bm PySem.F.plainAttrs_list PySem.F.slot_list_append PySem.F.type_list_append mt_append (pe_ix ix_list (pv 1) (pv 4) (fun _ _ => rfl)) (pa_cons (pe_tup (pa_cons (pv 3) (pa_cons (pv 5) pa_nil))) pa_nil)))
    (pss_one (ps_expr (pe_bm PySem.F.plainAttrs_list PySem.F.slot_list_append PySem.F.type_list_append mt_append (pe_ix ix_list (pv 1) (pv 5) (fun _ _ => rfl)) (pa_cons (pe_tup (pa_cons (pv 3) (pa_cons (pv 4) pa_nil))) pa_nil))))))
    (pss_one (ps_ret (pv 1))))), ?_⟩
  have en : (((rs.map V.ref).length : Nat) : Int) + 1 = ((n : Nat) : Int) := by
    rw [List.length_map, hlen]
    omega
  refine ⟨_, rfl, _, _, rfl, .inr hrs, _, _, rfl, rfl, (n : Int), congrArg (fun z => [V.int z]) en, by omega, by omega, fun p np => ?_⟩
  refine lc_range (lo := 0) (n := n) (fun i H1 => ∃ ps : List Addr, Same H H1 ∧ H1 p = some (.lst (ps.map V.ref)) ∧ ps.length = i ∧ ps.Nodup ∧ ∀ x ∈ ps, H x = none ∧ H1 x = some (.lst [])) ?_ ?_ ?_
  · exact ⟨[], Same.upd np, upd_same, rfl, List.nodup_nil, fun _ h => nomatch h⟩
  · rintro i H1 hi ⟨ps, sm, hp, hl, nd, hx⟩
    refine ⟨rfl, lcYes ?_⟩
    refine ⟨Nat.zero_le _, fun x nx => ?_⟩
    have npx : p ≠ x := ne_of_none hp nx
    have xps : x ∉ ps := fun m => by
      rw [(hx x m).2] at nx
      cases nx
    have pps : p ∉ ps := fun m => by
      have h1 := (hx p m).2
      rw [hp] at h1
      cases ps with
      | nil => cases m
      | cons a r => cases h1
    refine ⟨ps.map V.ref, by rw [upd_ne npx]; exact hp, ?_, ps ++ [x], (sm.trans (Same.upd nx)).at np, ?_, by simp [hl], ?_, fun z m => ?_⟩
    · rw [List.length_map]
      exact small1000 (by omega)
    · rw [upd_same, List.map_append]
      rfl
    · exact nd_snoc nd xps
    · rcases List.mem_append.mp m with m | m
      · have ne1 : z ≠ p := fun e => pps (e ▸ m)
        have ne2 : z ≠ x := fun e => xps (e ▸ m)
        rw [upd_ne ne1, upd_ne ne2]
        exact hx z m
      · rw [List.mem_singleton.mp m, upd_ne npx.symm, upd_same]
        exact ⟨sm.free nx, rfl⟩
  · rintro H1 ⟨ps, sm, hp, hl, nd, hx⟩
    have pps : p ∉ ps := fun m => by
      have h1 := (hx p m).2
      rw [hp] at h1
      cases ps with
      | nil => cases m
      | cons a r => cases h1
    refine ⟨_, rfl, a, _, rfl, sm.tup hrs, ?_⟩
    refine for_it (walk_enumT (K := K) (a := a) (xs := rs.map V.ref)) (fun k σ H2 => ∃ ex y2 y3 y4 y5, σ = [some (.ref a), some (.ref p), y2, y3, y4, y5] ∧ Same H H2 ∧ H2 p = some (.lst (ps.map V.ref)) ∧ Rows H2 ps ex ∧
        (∀ x d y, (d, y) ∈ ex x ↔ d < k ∧ Joins ds d x y) ∧ ∀ x, (ex x).length ≤ 2 * k)
      ⟨fun _ => [], _, _, _, _, rfl, sm, hp, fun x q e => ⟨[], (hx q (List.mem_of_getElem? e)).2, rfl, fun i t e h => by simp at h⟩, fun x d y => by simp, fun x => Nat.zero_le _⟩
      (fun i σ H1 _ ⟨_, _, _, _, _, _, sm, _⟩ => sm.tup hrs) ?_ ?_
    · rintro k x σ H2 H3 hk ⟨ex, y2, y3, y4, y5, rfl, sm2, hp2, ro, mem, le⟩ ⟨t, x1, x2, rfl, nt, rfl, ex1, ex2⟩
      cases ex1
      have hk' : k < ds.length := by
        rw [List.length_map, hlen] at hk
        exact hk
      obtain ⟨e, he⟩ : ∃ e, ds[k]? = some e := get_of rfl hk'
      obtain ⟨r, hr0⟩ : ∃ r, rs[k]? = some r := get_of hlen hk'
      have ex2' : V.ref r = x2 := by
        have ex2 : (rs.map V.ref)[k]? = some x2 := ex2
        rw [List.getElem?_map, hr0] at ex2
        exact Option.some.inj ex2
      subst ex2'
      have elt := tree.lt e (List.mem_of_getElem? he)
      obtain ⟨side, s1, s2⟩ := tree.side
      have ene : e.1 ≠ e.2 := fun z => s1 k e he (by rw [z])
      have smt : Same H2 (upd H2 t (.tup [.int (k : Nat), .ref r])) := Same.upd nt
      have sm3 := sm2.trans smt
      have hp3 := smt _ _ hp2
      have ro3 := ro.same smt
      refine ⟨t, _, rfl, SqT.of upd_same, rfl, _, _, rfl, _, _, rfl, ⟨r, _, rfl, sm3.tup (hds k r e hr0 he), rfl, _, _, rfl, _, _, rfl, rfl, rfl, ?_⟩⟩
      generalize upd H2 t (.tup [.int (k : Nat), .ref r]) = H4 at sm3 hp3 ro3 smt
      obtain ⟨q1, hq1⟩ := get_of hl elt.1
      obtain ⟨q2, hq2⟩ := get_of hl elt.2
      obtain ⟨ts1, g1, g2, g3⟩ := ro3 _ _ hq1
      refine ⟨_, rfl, _, rfl, _, _, _, V.ref q1, rfl, rfl, SqL.of hp3, atI_nat (v := V.ref q1) (by rw [List.getElem?_map, hq1]; rfl), .inl ⟨rfl, _, SqL.of g1⟩, _, rfl, _, rfl, by show 2 ≤ sizeLine; decide, fun t1 nt1 => ?_⟩
      refine ⟨q1, _, _, rfl, rfl, by rw [upd_ne (ne_of_none g1 nt1)]; exact g1, by rw [List.length_map, g2]; exact small3k (by have := le e.1; omega), ?_⟩
      have ro4 := ro3.push nd hq1 nt1 (d := k) (y := e.2) g1
      have nq1 : H q1 = none := (hx q1 (List.mem_of_getElem? hq1)).1
      have nq2 : H q2 = none := (hx q2 (List.mem_of_getElem? hq2)).1
      have pq1 : p ≠ q1 := fun z => pps (z ▸ List.mem_of_getElem? hq1)
      have pq2 : p ≠ q2 := fun z => pps (z ▸ List.mem_of_getElem? hq2)
      have sm4 : Same H (upd (upd H4 t1 (.tup [.int (k : Nat), .int (e.2 : Nat)])) q1 (.lst (ts1.map V.ref ++ [V.ref t1]))) := (sm3.trans (Same.upd nt1)).at nq1
      have hp4 : (upd (upd H4 t1 (.tup [.int (k : Nat), .int (e.2 : Nat)])) q1 (.lst (ts1.map V.ref ++ [V.ref t1]))) p = some (.lst (ps.map V.ref)) := by
        rw [upd_ne pq1, upd_ne (ne_of_none hp3 nt1)]
        exact hp3
      generalize (upd (upd H4 t1 (.tup [.int (k : Nat), .int (e.2 : Nat)])) q1 (.lst (ts1.map V.ref ++ [V.ref t1]))) = H5 at ro4 sm4 hp4
      obtain ⟨ts2, f1, f2, f3⟩ := ro4 _ _ hq2
      have f2' : ts2.length = (ex e.2).length := by
        rw [f2]
        simp only [if_neg ene.symm]
      refine ⟨_, rfl, _, rfl, _, _, _, V.ref q2, rfl, rfl, SqL.of hp4, atI_nat (v := V.ref q2) (by rw [List.getElem?_map, hq2]; rfl), .inl ⟨rfl, _, SqL.of f1⟩, _, rfl, _, rfl, by show 2 ≤ sizeLine; decide, fun t2 nt2 => ?_⟩
      refine ⟨q2, _, _, rfl, rfl, by rw [upd_ne (ne_of_none f1 nt2)]; exact f1, by rw [List.length_map, f2']; exact small3k (by have := le e.2; omega), ?_⟩
      refine ⟨_, _, _, _, _, rfl, (sm4.trans (Same.upd nt2)).at nq2, by rw [upd_ne pq2, upd_ne (ne_of_none hp4 nt2)]; exact hp4, ro4.push nd hq2 nt2 (d := k) (y := e.1) f1, fun x d y => ?_, fun x => ?_⟩
      · exact ex_mem he ene mem x d y
      · have := le x
        by_cases e2 : x = e.2
        · simp only [e2, if_true, if_neg ene.symm]
          have := le e.2
          simp; omega
        · by_cases e1 : x = e.1
          · simp only [e1, if_true, if_neg ene]
            have := le e.1
            simp; omega
          · simp only [if_neg e1, if_neg e2]
            omega
    · rintro σ H2 ⟨ex, y2, y3, y4, y5, rfl, sm2, hp2, ro, mem, le⟩
      refine ⟨_, rfl, q H2 p ps ex sm2 np hp2 hl ro fun x d y => ?_⟩
      rw [mem x d y]
      refine ⟨fun h => h.2, fun h => ⟨?_, h⟩⟩
      rw [List.length_map, hlen]
      rcases h with h | h
      · exact get_lt h
      · exact get_lt h
end
end K5

namespace K5
open PySem PySem.Spec PyProof.Rows L2
/-- a dict whose keys are numbers: key by key -/
def DicR {β : Type} (VR : V → β → Prop) (kvs : List (Key × V)) (ks : List (Nat × β)) : Prop := Paired (fun (kv : Key × V) (k : Nat × β) => kv.1 = Sum.inl (k.1 : Int) ∧ VR kv.2 k.2) kvs ks
section
variable {β : Type} {VR VR' : V → β → Prop}
theorem DicR.mono {kvs ks} (h : DicR VR kvs ks) (f : ∀ v o, VR v o → VR' v o) : DicR VR' kvs ks := Paired.mapP h fun a b x => ⟨x.1, f _ _ x.2⟩
theorem DicR.len {kvs ks} (h : DicR VR kvs ks) : kvs.length = ks.length := Paired.length h
theorem DicR.no : ∀ {kvs : List (Key × V)} {ks : List (Nat × β)} {x : Nat}, DicR VR kvs ks → x ∉ ks.map Prod.fst → valV kvs (Sum.inl (x : Int)) = none
  | _, _, x, .nil, _ => rfl
  | kv :: _, k :: _, x, .cons h t, hx => by
    have hne : ¬ kv.1 = Sum.inl (x : Int) := fun z => by
      rw [h.1] at z
      have z := Sum.inl.inj z
      exact hx (List.mem_map.mpr ⟨k, List.mem_cons_self, by omega⟩)
    rw [valV_neg hne]
    exact DicR.no t fun m => hx (by rw [List.map_cons]; exact List.mem_cons_of_mem _ m)
theorem DicR.val : ∀ {kvs : List (Key × V)} {ks : List (Nat × β)} {x : Nat}, DicR VR kvs ks → x ∈ ks.map Prod.fst → ∃ v o, valV kvs (Sum.inl (x : Int)) = some v ∧ (x, o) ∈ ks ∧ VR v o
  | _, _, x, .nil, hx => by cases hx
  | kv :: _, k :: _, x, .cons h t, hx => by
    by_cases e : k.1 = x
    · refine ⟨kv.2, k.2, valV_pos (by rw [h.1, e]), ?_, h.2⟩
      rw [← e]
      exact List.mem_cons_self
    · have hne : ¬ kv.1 = Sum.inl (x : Int) := fun z => by
        rw [h.1] at z
        have z := Sum.inl.inj z
        omega
      rw [List.map_cons] at hx
      obtain ⟨v, o, a, b, c⟩ := DicR.val t ((List.mem_cons.mp hx).resolve_left fun q => e q.symm)
      exact ⟨v, o, by rw [valV_neg hne]; exact a, List.mem_cons_of_mem _ b, c⟩
theorem DicR.snoc : ∀ {kvs : List (Key × V)} {ks : List (Nat × β)} {x : Nat} {v : V} {o : β}, DicR VR kvs ks → VR v o → DicR VR (kvs ++ [(Sum.inl (x : Int), v)]) (ks ++ [(x, o)])
  | _, _, x, v, o, .nil, r => .cons ⟨rfl, r⟩ .nil
  | _, _, x, v, o, .cons h t, r => .cons h (DicR.snoc t r)
theorem DicR.add {kvs : List (Key × V)} {ks : List (Nat × β)} {x : Nat} {v : V} {o : β} (h : DicR VR kvs ks) (hx : x ∉ ks.map Prod.fst) (r : VR v o) : DicR VR (putK kvs (Sum.inl (x : Int)) v) (ks ++ [(x, o)]) := by
  rw [putK_new v (h.no hx)]
  exact h.snoc r
end
/-- a way's step: None, or a tuple (door, next room) -/
def WayR (H : Hp) (v : V) (o : Option (Nat × Nat)) : Prop := match o with
  | none => v = .non
  | some e => ∃ t, v = .ref t ∧ H t = some (.tup [.int (e.1 : Int), .int (e.2 : Int)])
theorem WayR.keep {H H' : Hp} {v o} (h : WayR H v o) (s : ∀ t xs, H t = some (.tup xs) → H' t = some (.tup xs)) : WayR H' v o := by
  cases o with
  | none => exact h
  | some e =>
    obtain ⟨t, a, b⟩ := h
    exact ⟨t, a, s _ _ b⟩
theorem snoc_nil {α : Type} (l : List α) : l = [] ∨ ∃ r x, l = r ++ [x] := by
  by_cases h : l = []
  · exact .inl h
  · exact .inr ⟨l.dropLast, l.getLast h, (List.dropLast_concat_getLast h).symm⟩
theorem mem_ofNat {d : Nat} {l : List Nat} : ((d : Int) ∈ l.map fun x : Nat => (x : Int)) ↔ d ∈ l := by
  constructor
  · intro h
    obtain ⟨x, hx, e⟩ := List.mem_map.mp h
    have : x = d := by omega
    exact this ▸ hx
  · intro h
    exact List.mem_map.mpr ⟨d, h, rfl⟩
theorem nv_int (l : List Nat) : nv l = (l.map fun x : Nat => (x : Int)).map V.int := by
  unfold nv
  rw [List.map_map]
  rfl
theorem nv_snoc (l : List Nat) (x : Nat) : nv (l ++ [x]) = nv l ++ [.int (x : Int)] := by
  unfold nv
  rw [List.map_append]
  rfl
/-- the dict and the list that the search writes; what stood ahead of them stands -/
structure WS (Hb H : Hp) (pw pq : Addr) (ks : List (Nat × Option (Nat × Nat))) (ws : List Nat) : Prop where
  sm : Same Hb H
  w : ∃ kvs, H pw = some (.dK kvs) ∧ DicR (WayR H) kvs ks
  q : H pq = some (.lst (nv ws))
  le : ws.length ≤ ks.length
theorem WS.ne {Hb H pw pq ks ws} (S : WS Hb H pw pq ks ws) : pw ≠ pq := by
  obtain ⟨kvs, h, _⟩ := S.w
  exact ne_of h S.q (by intro z; cases z)
theorem WS.setq {Hb H pw pq ks ws ws'} (S : WS Hb H pw pq ks ws) (nq : Hb pq = none) (hl : ws'.length ≤ ks.length) : WS Hb (upd H pq (.lst (nv ws'))) pw pq ks ws' := by
  obtain ⟨kvs, h, r⟩ := S.w
  refine ⟨S.sm.at nq, ⟨kvs, by rw [upd_ne S.ne]; exact h, r.mono fun v o x => x.keep fun t xs e => ?_⟩, upd_same, hl⟩
  rw [upd_ne (ne_lt S.q e)]
  exact e
theorem WS.add {Hb H pw pq ks ws} (S : WS Hb H pw pq ks ws) (nw : Hb pw = none) {t : Addr} (nt : H t = none) {kvs} (hk : H pw = some (.dK kvs)) (r : DicR (WayR H) kvs ks) {y d here : Nat} (ny : y ∉ ks.map Prod.fst) :
    WS Hb (upd (upd H t (.tup [.int (d : Int), .int (here : Int)])) pw (.dK (putK kvs (Sum.inl (y : Int)) (.ref t)))) pw pq (ks ++ [(y, some (d, here))]) ws := by
  have ntw : t ≠ pw := (ne_of_none hk nt).symm
  refine ⟨(S.sm.trans (Same.upd nt)).at nw, ⟨_, upd_same, (r.mono fun v o x => x.keep fun t' xs e => ?_).add ny ⟨t, rfl, by rw [upd_ne ntw, upd_same]⟩⟩, ?_, by rw [List.length_append]; exact Nat.le_trans S.le (Nat.le_add_right _ _)⟩
  · rw [upd_ne (ne_of e hk (by intro z; cases z)), upd_ne (ne_of_none e nt)]
    exact e
  · rw [upd_ne S.ne.symm, upd_ne (ne_of_none S.q nt)]
    exact S.q
def spWays (K : PySem.W.Frag) : Sp := fun vs H Q _ => ∃ (a sh : Addr) (ds : List (Nat × Nat)) (n room : Nat) (shut : List Nat), vs = [.ref a, .int (room : Int), .ref sh] ∧ HouseAt K H a ds ∧ Tree n ds ∧ n ≤ 1000 ∧ room < n ∧ SqL K H sh (nv shut) ∧ shut.length ≤ 1000 ∧
  ∀ (H' : Hp) (p : Addr) (kvs : List (Key × V)) (ks : List (Nat × Option (Nat × Nat))), Same H H' → H p = none → H' p = some (.dK kvs) → DicR (WayR H') kvs ks → Dfs n ds shut (ks.map Prod.fst) [] → Ptr ds shut room ks → room ∈ ks.map Prod.fst → Q (.ref p) H'
section
variable {P : Program} {w : World} {K : PySem.W.Frag}
      {mg : Str → Option Value} {base : Heap}
theorem ok_ways_from (T : Bl mg) (D : Def K mg "ways_from" s_ways_from) (C_exits_of : Cal P w K mg base "exits_of" ["house"] 1 (spExits K)) : Cal P w K mg base "ways_from" ["house", "room", "shut"] 2 (spWays K) := by
  refine D.ok sc_ways_from (fun _ _ _ _ _ _ us hl => match us, hl with | [_, _, _], _ => rfl) (fun vs H Q E h => ?_) (fun f cdv A outer s H vs Q E hr h => ?_)
  · obtain ⟨a, sh, ds, n, room, shut, rfl, _⟩ := h
    rfl
  obtain ⟨a, sh, ds, n, room, shut, rfl, hH, tree, hn, hroom, hsh, hshl, q⟩ := h
  obtain ⟨f_exits_of, fd_exits_of, g_exits_of, k_exits_of, b_exits_of, G_exits_of⟩ := C_exits_of
  refine ⟨_, (pss_cons (ps_set (i := 3) sc_ways_from.nd rfl (.inl rfl) (pe_call G_exits_of (hr.mono (by decide)) (by rfl) g_exits_of k_exits_of b_exits_of .nil pass0 (pa_cons (pv 0) pa_nil)))
    (pss_cons (ps_set (i := 4) sc_ways_from.nd rfl (.inl rfl) (pe_callTy (cr_setI rfl) (by rfl) T.set (by decide +kernel) (pa_cons (pv 2) pa_nil)))
    (pss_cons (ps_set (i := 5) sc_ways_from.nd rfl (.inl rfl) (pe_disp (pps_cons (pv 1) pe_non pps_nil) (by rfl) (by rfl) (fun z => by cases z) (by decide)))
    (pss_cons (ps_set (i := 6) sc_ways_from.nd rfl (.inl rfl) (pe_lst (pa_cons (pv 1) pa_nil)))
    (pss_cons (ps_while PassesOwn.never (pt_truth (pv 6) (by intro _; rfl)) (pss_cons (ps_set (i := 7) sc_ways_from.nd rfl (.inl rfl) (pe_bm0 PySem.F.plainAttrs_list PySem.F.slot_list_pop PySem.F.type_list_pop mt_pop (pv 6)))
    (pss_one (ps_for PassesOwn.never rfl (pi_list (pe_ix ix_list (pv 3) (pv 7) (fun _ _ => rfl))) (pg_tup (n := 2) rfl (pgs_cons (pg_name (i := 8) sc_ways_from.nd rfl (.inl rfl)) (pgs_cons (pg_name (i := 9) sc_ways_from.nd rfl (.inl rfl)) pgs_nil)))
    (pss_one (ps_if (PW.pt (pw_and (pt_cmpR op_notset (pv 8) (pv 4) (by rfl)) (pw_and1 (pt_cmp (pc_dnotin (hu_of hr) (pv 9) (pv 5)))))) (pss_cons (ps_dput (hu_of hr) (pv 5) (pv 9) (pe_tup (pa_cons (pv 8) (pa_cons (pv 7) pa_nil))) rfl)
    (pss_one (ps_expr (pe_bm PySem.F.plainAttrs_list PySem.F.slot_list_append PySem.F.type_list_append mt_append (pv 6) (pa_cons (pv 9) pa_nil))))) pss_nil))))))
    (pss_one (ps_ret (pv 5)))))))), ?_⟩
  refine ⟨_, rfl, a, ds, n, rfl, hH, tree, hn, fun H1 px ps ex sm1 npx hpx hpl ro mem => ?_⟩
  refine ⟨_, rfl, sh, shut.map (fun x : Nat => (x : Int)), rfl, by rw [← nv_int]; exact sm1.seq hsh, ?_, fun sa S sn nsa hS => ?_⟩
  · rw [List.length_map]
    exact Nat.lt_of_le_of_lt (Nat.succ_le_succ hshl) (by decide)
  have sm2 : Same H1 (upd H1 sa (.set S sn)) := Same.upd nsa
  have hsa : (upd H1 sa (.set S sn)) sa = some (.set S sn) := upd_same
  have hpx2 := sm2 _ _ hpx
  have ro2 := ro.same sm2
  have sm := sm1.trans sm2
  generalize upd H1 sa (.set S sn) = H2 at sm2 hsa hpx2 ro2 sm
  intro pw npw
  refine ⟨_, rfl, upd_same, [(Sum.inl (room : Int), .non)], rfl, (by show 1 ≤ 15; decide), ?_⟩
  rw [upd_upd]
  refine ⟨_, rfl, by show 1 ≤ sizeLine; decide, fun pq npq => ?_⟩
  have npw2 : pw ≠ pq := fun z => by
    subst z
    rw [upd_same] at npq
    cases npq
  have npq2 : H2 pq = none := by
    rw [upd_ne npw2.symm] at npq
    exact npq
  have S0 : WS H2 (upd (upd H2 pw (.dK (mergeK [] [(Sum.inl (room : Int), .non)]))) pq (.lst [.int (room : Int)])) pw pq [(room, none)] [room] :=
    ⟨(Same.upd npw).at npq2, ⟨[(Sum.inl (room : Int), .non)], by rw [upd_ne npw2, upd_same]; rfl, .cons ⟨rfl, rfl⟩ .nil⟩, by rw [upd_same]; rfl, Nat.le_refl _⟩
  generalize (upd (upd H2 pw (.dK (mergeK [] [(Sum.inl (room : Int), .non)]))) pq (.lst [.int (room : Int)])) = H3 at S0
  refine ⟨fun m σ H4 => ∃ ks ws y7 y8 y9, m = 2 * (n - ks.length) + ws.length ∧ σ = [some (.ref a), some (.int (room : Int)), some (.ref sh), some (.ref px), some (.ref sa), some (.ref pw), some (.ref pq), y7, y8, y9] ∧
      WS H2 H4 pw pq ks ws ∧ Dfs n ds shut (ks.map Prod.fst) ws ∧ Ptr ds shut room ks ∧ room ∈ ks.map Prod.fst,
    ⟨_, [(room, none)], [room], _, _, _, rfl, rfl, S0, Dfs.start hroom, Ptr.start, List.mem_singleton.mpr rfl⟩, fun m σ H4 hW => ?_⟩
  obtain ⟨ks, ws, y7, y8, y9, rfl, rfl, S, df, pt, hrm⟩ := hW
  refine ⟨_, rfl, _, .inl ⟨nv ws, SqL.of S.q, rfl⟩, ?_⟩
  rcases snoc_nil ws with rfl | ⟨wr, here, rfl⟩
  · refine iteF ⟨_, rfl, ?_⟩
    obtain ⟨kvs, hk, r⟩ := S.w
    exact q H4 pw kvs ks (sm.trans S.sm) (sm.free npw) hk r df pt hrm
  · have e1 : (!(nv (wr ++ [here])).isEmpty) = true := by
      rw [nv_snoc]
      cases nv wr <;> rfl
    rw [e1]
    have hhere : here < n := df.lt _ (df.sub _ (List.mem_append.mpr (.inr (List.mem_singleton.mpr rfl))))
    have dfi := df.pop
    have hlast : (nv (wr ++ [here]))[(nv (wr ++ [here])).length - 1]? = some (.int (here : Int)) := by
      rw [nv_snoc, List.length_append, List.length_singleton, Nat.add_sub_cancel, List.getElem?_append_right (Nat.le_refl _), Nat.sub_self]
      rfl
    refine iteT ⟨fun σ' H' => ∃ ks' ws' y7 y8 y9, 2 * (n - ks'.length) + ws'.length < 2 * (n - ks.length) + (wr ++ [here]).length ∧ σ' = [some (.ref a), some (.int (room : Int)), some (.ref sh), some (.ref px), some (.ref sa), some (.ref pw), some (.ref pq), y7, y8, y9] ∧
      WS H2 H' pw pq ks' ws' ∧ Dfs n ds shut (ks'.map Prod.fst) ws' ∧ Ptr ds shut room ks' ∧ room ∈ ks'.map Prod.fst, fun σ' H' ⟨ks', ws', z7, z8, z9, h1, h2⟩ => ⟨_, h1, ks', ws', z7, z8, z9, rfl, h2⟩, ?_⟩
    refine ⟨_, rfl, .inl ⟨rfl, _, SqL.of S.q⟩, pq, _, _, rfl, rfl, S.q, hlast, ?_⟩
    rw [nv_snoc, List.dropLast_concat]
    have S1 := S.setq (ws' := wr) npq2 (by have := S.le; simp at this; omega)
    generalize upd H4 pq (.lst (nv wr)) = H5 at S1
    obtain ⟨qx, hqx⟩ := get_of hpl hhere
    obtain ⟨ts, g1, g2, g3⟩ := ro2 _ _ hqx
    refine ⟨_, rfl, _, rfl, px, _, _, V.ref qx, rfl, rfl, SqL.of (S1.sm _ _ hpx2), atI_nat (v := V.ref qx) (by rw [List.getElem?_map, hqx]; rfl), qx, rfl, ⟨_, SqL.of (S1.sm _ _ g1)⟩, ?_⟩
    refine for_it (walk_list (K := K) (a := qx) (xs := ts.map V.ref)) (fun j σ H6 => ∃ ks' ws' y8 y9, 2 * (n - ks'.length) + ws'.length < 2 * (n - ks.length) + (wr ++ [here]).length ∧ σ = [some (.ref a), some (.int (room : Int)), some (.ref sh), some (.ref px), some (.ref sa), some (.ref pw), some (.ref pq), some (.int (here : Int)), y8, y9] ∧
      WS H2 H6 pw pq ks' ws' ∧ DfsIn n ds shut (ks'.map Prod.fst) ws' here ((ex here).take j) ∧ Ptr ds shut room ks' ∧ room ∈ ks'.map Prod.fst)
      ⟨ks, wr, _, _, by rw [List.length_append, List.length_singleton]; omega, rfl, S1, dfi, pt, hrm⟩ (fun i σ H1 _ ⟨_, _, _, _, _, _, S, _⟩ => SqL.of (S.sm _ _ g1)) ?_ ?_
    · rintro j x σ H6 H7 hj ⟨ks', ws', y8, y9, hm, rfl, S2, di, pt', hrm'⟩ ⟨rfl, ex1⟩
      have hj' : j < ts.length := by
        rw [List.length_map] at hj
        exact hj
      obtain ⟨t, ht⟩ : ∃ t, ts[j]? = some t := get_of rfl hj'
      obtain ⟨e, he⟩ : ∃ e, (ex here)[j]? = some e := get_of g2.symm hj'
      rw [List.getElem?_map, ht] at ex1
      cases ex1
      have htup := S2.sm _ _ (g3 j t e ht he)
      have ejoin : Joins ds e.1 here e.2 := (mem here e.1 e.2).mp (List.mem_of_getElem? he)
      have etake : (ex here).take (j + 1) = (ex here).take j ++ [(e.1, e.2)] := by
        rw [List.take_add_one, he]
        rfl
      obtain ⟨kvs, hk, r⟩ := S2.w
      refine ⟨t, _, rfl, SqT.of htup, rfl, _, _, rfl, _, _, rfl, rfl, ?_⟩
      refine ⟨_, rfl, _, rfl, _, sa, _, sn, rfl, rfl, S2.sm _ _ hsa, _, rfl, ?_⟩
      rw [hS]
      by_cases hd : e.1 ∈ shut
      · rw [decide_eq_true (mem_ofNat.mpr hd)]
        refine iteF (iteF ?_)
        exact ⟨ks', ws', _, _, hm, rfl, S2, by rw [etake]; exact di.skip (.inl hd), pt', hrm'⟩
      · rw [decide_eq_false fun z => hd (mem_ofNat.mp z)]
        refine iteT ⟨_, rfl, _, rfl, pw, _, rfl, DGet.k (k := Sum.inl (e.2 : Int)) hk, _, rfl, ?_⟩
        by_cases hy : e.2 ∈ ks'.map Prod.fst
        · obtain ⟨v, o, hv, _, _⟩ := r.val hy
          rw [hv]
          refine iteF ?_
          exact ⟨ks', ws', _, _, hm, rfl, S2, by rw [etake]; exact di.skip (.inr hy), pt', hrm'⟩
        · rw [r.no hy]
          refine iteT ?_
          have ely := (Joins.lt tree ejoin).2.1
          have di2 := di.add (d := e.1) ely hy
          have hle := di2.le
          rw [List.length_append, List.length_singleton, List.length_map] at hle
          refine ⟨_, rfl, _, rfl, by show 2 ≤ sizeLine; decide, fun t2 nt2 => ⟨_, rfl, _, rfl, pw, _, rfl, DPut.k (k := Sum.inl (e.2 : Int)) (by rw [upd_ne (ne_of_none hk nt2)]; exact hk) (by rw [r.len]; exact small1000 (by omega)), ?_⟩⟩
          have S3 := S2.add npw nt2 hk r (y := e.2) (d := e.1) (here := here) hy
          generalize (upd (upd H7 t2 (.tup [.int (e.1 : Int), .int (here : Int)])) pw (.dK (putK kvs (Sum.inl (e.2 : Int)) (.ref t2)))) = H8 at S3
          refine ⟨_, rfl, .inl ⟨rfl, _, SqL.of S3.q⟩, _, rfl, pq, _, _, rfl, rfl, S3.q, ?_, ?_⟩
          · rw [nv_len]
            have := S2.le
            exact small1000 (by omega)
          · rw [← nv_snoc]
            refine ⟨ks' ++ [(e.2, some (e.1, here))], ws' ++ [e.2], _, _, ?_, rfl, S3.setq npq2 (by have := S2.le; simp; omega), ?_, pt'.add ejoin.symm hd di.he hy, ?_⟩
            · rw [List.length_append, List.length_append, List.length_singleton, List.length_singleton]
              omega
            · rw [etake, List.map_append]
              exact di2
            · rw [List.map_append]
              exact List.mem_append.mpr (.inl hrm')
    · rintro σ H6 ⟨ks', ws', y8, y9, hm, rfl, S2, di, pt', hrm'⟩
      refine ⟨ks', ws', _, _, _, hm, rfl, S2, di.done fun d y j => ?_, pt', hrm'⟩
      rw [List.length_map, g2, List.take_length]
      exact (mem here d y).mpr j
end
end K5

namespace K5
open PySem PySem.Spec PyProof.Rows L2
theorem ptr_side {ds : List (Nat × Nat)} {door room : Nat} {ks : List (Nat × Option (Nat × Nat))} (P : Ptr ds [door] room ks) {side : Nat → Nat → Bool} (s2 : ∀ c d e, ds[d]? = some e → c ≠ d → side c e.1 = side c e.2) :
    ∀ (m x : Nat), x ∈ ks.map Prod.fst → (ks.map Prod.fst).idxOf x = m → side door x = side door room := by
  intro m
  induction m using Nat.strongRecOn with
  | ind m ih =>
    intro x hx hm
    obtain ⟨⟨x', o⟩, hk, rfl⟩ := List.mem_map.mp hx
    cases o with
    | none => rw [P.fin _ hk]
    | some e =>
      obtain ⟨j, ns, hy, lt⟩ := P.st _ e.1 e.2 hk
      rw [side_other s2 j fun z => ns (by rw [z]; exact List.mem_singleton.mpr rfl)]
      exact ih _ (by rw [← hm]; exact lt) e.2 hy rfl
/-- a list of steps (door, start, end), by its doors -/
def Steps (H : Hp) (ts : List Addr) (p : List Nat) : Prop := ts.length = p.length ∧ ∀ (i : Nat) (t : Addr) (d : Nat), ts[i]? = some t → p[i]? = some d → ∃ x y : Int, H t = some (.tup [.int (d : Int), .int x, .int y])
def spSteps (K : PySem.W.Frag) : Sp := fun vs H Q _ => ∃ (p : Addr) (a n room : Nat) (ds : List (Nat × Nat)) (shut : List Nat) (kvs : List (Key × V)) (ks : List (Nat × Option (Nat × Nat))), vs = [.ref p, .int (a : Int)] ∧ H p = some (.dK kvs) ∧ DicR (WayR H) kvs ks ∧ Ptr ds shut room ks ∧
  Tree n ds ∧ ks.length ≤ 1000 ∧ a ∈ ks.map Prod.fst ∧ ∀ (H' : Hp) (q : Addr) (ts : List Addr) (path : List Nat), Same H H' → H q = none → H' q = some (.lst (ts.map V.ref)) → Steps H' ts path → Walk ds a path room → path.Nodup → path.length ≤ 1000 → Q (.ref q) H'
def spPath (K : PySem.W.Frag) : Sp := fun vs H Q _ => ∃ (a : Addr) (ds : List (Nat × Nat)) (n x y : Nat), vs = [.ref a, .int (x : Int), .int (y : Int)] ∧ HouseAt K H a ds ∧ Tree n ds ∧ n ≤ 1000 ∧ x < n ∧ y < n ∧
  ∀ (H' : Hp) (q : Addr) (path : List Nat), Same H H' → H q = none → H' q = some (.lst (nv path)) → Walk ds x path y → path.Nodup → Q (.ref q) H'
def spFar (K : PySem.W.Frag) : Sp := fun vs H Q _ => ∃ (a : Addr) (ds : List (Nat × Nat)) (n door room : Nat), vs = [.ref a, .int (door : Int), .int (room : Int)] ∧ HouseAt K H a ds ∧ Tree n ds ∧ n ≤ 1000 ∧ door < ds.length ∧ room < n ∧
  ∀ (H' : Hp) (q : Addr) (kl : List Nat), Same H H' → H q = none → H' q = some (.lst (nv ((List.range n).filter fun y => decide (y ∉ kl)))) → (∀ x p, Walk ds room p x → door ∉ p → x ∈ kl) →
    (∀ side : Nat → Nat → Bool, (∀ c d e, ds[d]? = some e → c ≠ d → side c e.1 = side c e.2) → ∀ x, x ∈ kl → side door x = side door room) → Q (.ref q) H'
def spStepsB (K : PySem.W.Frag) : Sp := fun vs H Q _ => ∃ (a : Addr) (ds : List (Nat × Nat)) (n x y : Nat), vs = [.ref a, .int (x : Int), .int (y : Int)] ∧ HouseAt K H a ds ∧ Tree n ds ∧ n ≤ 1000 ∧ x < n ∧ y < n ∧
  ∀ (H' : Hp) (q : Addr) (ts : List Addr) (path : List Nat), Same H H' → H q = none → H' q = some (.lst (ts.map V.ref)) → Steps H' ts path → Walk ds x path y → path.Nodup → path.length ≤ 1000 → Q (.ref q) H'
section
variable {P : Program} {w : World} {K : PySem.W.Frag}
      {mg : Str → Option Value} {base : Heap}
theorem ok_steps_along (T : Bl mg) (D : Def K mg "steps_along" s_steps_along) : Cal P w K mg base "steps_along" ["ways", "room"] 1 (spSteps K) := by
  refine D.ok sc_steps_along (fun _ _ _ _ _ _ us hl => match us, hl with | [_, _], _ => rfl) (fun vs H Q E h => ?_) (fun f cdv A outer s H vs Q E hr h => ?_)
  · obtain ⟨p, a, n, room, ds, shut, kvs, ks, rfl, _⟩ := h
    rfl
  obtain ⟨p, a, n, room, ds, shut, kvs, ks, rfl, hp, r, pt, tree, hks, ha, q⟩ := h
  refine ⟨_, (pss_cons (ps_set (i := 2) sc_steps_along.nd rfl (.inl rfl) (pe_lst pa_nil))
    (pss_cons (ps_set (i := 3) sc_steps_along.nd rfl (.inl rfl) (pv 1))
    (pss_cons (ps_while PassesOwn.never (pt_cmpR op_notN (pe_dget (hu_of hr) (pv 0) (pv 3) (fun _ _ => rfl)) pe_non (nomark _)) (pss_cons (ps_asg (pe_dget (hu_of hr) (pv 0) (pv 3) (fun _ _ => rfl)) (pg_tup (n := 2) rfl (pgs_cons (pg_name (i := 4) sc_steps_along.nd rfl (.inl rfl)) (pgs_cons (pg_name (i := 5) sc_steps_along.nd rfl (.inl rfl)) pgs_nil))))
    (pss_cons (ps_expr (pe_bm PySem.F.plainAttrs_list PySem.F.slot_list_append PySem.F.type_list_append mt_append (pv 2) (pa_cons (pe_tup (pa_cons (pv 4) (pa_cons (pv 3) (pa_cons (pv 5) pa_nil)))) pa_nil)))
    (pss_one (ps_set (i := 3) sc_steps_along.nd rfl (.inl rfl) (pv 5))))))
    (pss_one (ps_ret (pv 2)))))), ?_⟩
  refine ⟨Nat.zero_le _, fun q0 nq => ?_⟩
  refine ⟨_, rfl, ?_⟩
  refine ⟨fun m σ H1 => ∃ here path ts y4 y5, m = (ks.map Prod.fst).idxOf here ∧ σ = [some (.ref p), some (.int (a : Int)), some (.ref q0), some (.int (here : Nat)), y4, y5] ∧ Same H H1 ∧ H1 q0 = some (.lst (ts.map V.ref)) ∧ Steps H1 ts path ∧
      Made ds (ks.map Prod.fst) a path here ∧ here ∈ ks.map Prod.fst ∧ path.length + (ks.map Prod.fst).idxOf here ≤ ks.length,
    ⟨_, a, [], [], _, _, rfl, rfl, Same.upd nq, upd_same, ⟨rfl, fun i t d h => by simp at h⟩, Made.start, ha, ?_⟩, fun m σ H1 hW => ?_⟩
  · have := List.idxOf_lt_length_iff.mpr ha
    rw [List.length_map] at this
    simp
    omega
  obtain ⟨here, path, ts, y4, y5, rfl, rfl, sm, hq, st, md, hh, hle⟩ := hW
  obtain ⟨v, o, hv, hko, hw⟩ := r.val hh
  have hk1 := sm _ _ hp
  have hg : DGet H1 p (.int (here : Int)) (some v) := by
    rw [← hv]
    exact DGet.k (k := Sum.inl (here : Int)) hk1
  refine ⟨_, rfl, _, rfl, p, v, rfl, hg, rfl, _, rfl, ?_⟩
  cases o with
  | none =>
    have hw : v = .non := hw
    subst hw
    refine iteF ⟨_, rfl, q H1 q0 ts path sm nq hq st ?_ md.nd (by omega)⟩
    rw [← pt.fin _ hko]
    exact md.w
  | some e =>
    obtain ⟨t, rfl, ht⟩ := hw
    obtain ⟨j, ns, hy, lt⟩ := pt.st here e.1 e.2 hko
    have ht1 := sm _ _ ht
    refine iteT ⟨fun σ' H' => ∃ here' path ts y4 y5, (ks.map Prod.fst).idxOf here' < (ks.map Prod.fst).idxOf here ∧ σ' = [some (.ref p), some (.int (a : Int)), some (.ref q0), some (.int (here' : Nat)), y4, y5] ∧ Same H H' ∧ H' q0 = some (.lst (ts.map V.ref)) ∧ Steps H' ts path ∧
      Made ds (ks.map Prod.fst) a path here' ∧ here' ∈ ks.map Prod.fst ∧ path.length + (ks.map Prod.fst).idxOf here' ≤ ks.length, fun σ' H' ⟨h', p', t', z4, z5, g1, g2⟩ => ⟨_, g1, h', p', t', z4, z5, rfl, g2⟩, ?_⟩
    refine ⟨_, rfl, _, rfl, p, V.ref t, rfl, hg, t, _, rfl, SqT.of ht1, rfl, _, _, rfl, _, _, rfl, rfl, ?_⟩
    refine ⟨_, rfl, .inl ⟨rfl, _, SqL.of hq⟩, _, rfl, _, rfl, _, rfl, by show 3 ≤ sizeLine; decide, fun t2 nt2 => ⟨q0, _, _, rfl, rfl, by rw [upd_ne (ne_of_none hq nt2)]; exact hq, by rw [List.length_map, st.1]; exact small1000 (by omega), ?_⟩⟩
    refine ⟨_, rfl, ?_⟩
    have n2q : t2 ≠ q0 := (ne_of_none hq nt2).symm
    refine ⟨e.2, path ++ [e.1], ts ++ [t2], _, _, lt, rfl, (sm.trans (Same.upd nt2)).at nq, by rw [upd_same, List.map_append]; rfl, ⟨by simp [st.1], fun i t' d' g1 g2 => ?_⟩, md.step ⟨n, tree⟩ pt hko, hy, ?_⟩
    · by_cases hi : i < ts.length
      · rw [List.getElem?_append_left hi] at g1
        rw [List.getElem?_append_left (by rw [← st.1]; exact hi)] at g2
        obtain ⟨x, y, e'⟩ := st.2 i t' d' g1 g2
        refine ⟨x, y, ?_⟩
        rw [upd_ne (ne_lt hq e'), upd_ne (ne_of_none e' nt2)]
        exact e'
      · have hlt := get_lt g1
        rw [List.length_append, List.length_singleton] at hlt
        have ei : i = ts.length := by omega
        subst ei
        rw [List.getElem?_append_right (Nat.le_refl _), Nat.sub_self] at g1
        rw [st.1, List.getElem?_append_right (Nat.le_refl _), Nat.sub_self] at g2
        cases g1
        cases g2
        exact ⟨_, _, by rw [upd_ne n2q, upd_same]⟩
    · rw [List.length_append, List.length_singleton]
      omega
theorem ok_steps_between (T : Bl mg) (D : Def K mg "steps_between" s_steps_between) (C_steps_along : Cal P w K mg base "steps_along" ["ways", "room"] 1 (spSteps K))
    (C_ways_from : Cal P w K mg base "ways_from" ["house", "room", "shut"] 2 (spWays K)) : Cal P w K mg base "steps_between" ["house", "a", "b"] 3 (spStepsB K) := by
  refine D.ok sc_steps_between (fun _ _ _ _ _ _ us hl => match us, hl with | [_, _, _], _ => rfl) (fun vs H Q E h => ?_) (fun f cdv A outer s H vs Q E hr h => ?_)
  · obtain ⟨a, ds, n, x, y, rfl, _⟩ := h
    rfl
  obtain ⟨a, ds, n, x, y, rfl, hH, tree, hn, hx, hy, q⟩ := h
  have hdn := tree.len
  obtain ⟨f_steps_along, fd_steps_along, g_steps_along, k_steps_along, b_steps_along, G_steps_along⟩ := C_steps_along
  obtain ⟨f_ways_from, fd_ways_from, g_ways_from, k_ways_from, b_ways_from, G_ways_from⟩ := C_ways_from
  refine ⟨_, (pss_one (ps_ret (pe_call G_steps_along (hr.mono (by decide)) (by rfl) g_steps_along k_steps_along b_steps_along .nil pass0 (pa_cons (pe_call G_ways_from (hr.mono (by decide)) (by rfl) g_ways_from k_ways_from b_ways_from .nil pass0 (pa_cons (pv 0) (pa_cons (pv 2) (pa_cons (pe_lst pa_nil) pa_nil)))) (pa_cons (pv 1) pa_nil))))), ?_⟩
  refine ⟨_, rfl, _, rfl, Nat.zero_le _, fun sh nsh => ?_⟩
  have sm2 := Same.upd (o := .lst []) nsh
  have hsh : (upd H sh (.lst [])) sh = some (.lst []) := upd_same
  generalize upd H sh (.lst []) = H2 at sm2 hsh
  refine ⟨a, sh, ds, n, y, [], rfl, hH.same sm2, tree, hn, hy, SqL.of hsh, Nat.zero_le _, fun H3 pw kvs ks sm3 npw hpw r df pt hrm => ?_⟩
  have hle := df.le
  rw [List.length_map] at hle
  refine ⟨_, rfl, pw, x, n, y, ds, [], kvs, ks, rfl, hpw, r, pt, tree, by omega, df.all tree hrm x hx, fun H4 ps ts path sm4 nps hps st wk nd hpl => ?_⟩
  have sm5 := (sm2.trans sm3).trans sm4
  exact q H4 ps ts path sm5 ((sm2.trans sm3).free nps) hps st wk nd hpl
end
end K5

namespace K5
open PySem PySem.Spec PyProof.Rows L2
theorem bits29 {m : Int} (h0 : 0 < m) (h1 : m < 2 ^ 29) : ((Builtin.Int.intBits m : Nat) : Int) / 30 = 0 := by
  have h : Builtin.Int.intBits m ≤ 29 := by
    unfold Builtin.Int.intBits
    have hne : ¬ (m == 0) = true := fun z => by
      have := eq_of_beq z
      omega
    rw [if_neg hne]
    have : m.natAbs.log2 < 29 := (Nat.log2_lt (by omega)).mpr (by omega)
    omega
  omega
/-- a generator of draws: a list of three numbers, the third at most b -/
def GenAt (H : Hp) (g : Addr) (b : Nat) : Prop := ∃ x y z : Int, H g = some (.lst [.int x, .int y, .int z]) ∧ 0 ≤ x ∧ 0 ≤ z ∧ z ≤ (b : Int)
theorem GenAt.mono {H g b c} (h : GenAt H g b) (l : b ≤ c) : GenAt H g c := by
  obtain ⟨x, y, z, a, b, c, d⟩ := h
  exact ⟨x, y, z, a, b, c, by omega⟩
theorem GenAt.same {H H' g b} (h : GenAt H g b) (s : Same H H') : GenAt H' g b := by
  obtain ⟨x, y, z, a, b, c, d⟩ := h
  exact ⟨x, y, z, s _ _ a, b, c, d⟩
theorem GenAt.lst {H g b} (h : GenAt H g b) : ∃ xs, H g = some (.lst xs) := by
  obtain ⟨x, y, z, a, _⟩ := h
  exact ⟨_, a⟩
def spCell (K : PySem.W.Frag) : Sp := fun vs H Q _ => ∃ (a : Addr) (ns : List Int) (i : Int), vs = [.ref a, .int i] ∧ SqL K H a (ns.map V.int) ∧ 0 ≤ i ∧ ∀ z : Int, Q (.int z) H
def spHash : Sp := fun vs H Q _ => ∃ x i : Int, vs = [.int x, .int i] ∧ 0 ≤ i ∧ i < 2 ^ 62 ∧ ∀ z : Int, Q (.int z) H
def spGen (K : PySem.W.Frag) : Sp := fun vs H Q _ => ∃ (a : Addr) (ns : List Int) (i : Nat), vs = [.ref a, .int (i : Int)] ∧ SqL K H a (ns.map V.int) ∧ i ≤ 1000 ∧ ∀ (H' : Hp) (g : Addr), Same H H' → H g = none → GenAt H' g 1000000 → Q (.ref g) H'
def spRand : Sp := fun vs H Q _ => ∃ (g : Addr) (b m : Nat), vs = [.ref g, .int (m : Int)] ∧ GenAt H g b ∧ 0 < m ∧ m < 2 ^ 29 ∧ b < 2 ^ 60 ∧ ∀ (H' : Hp) (v : Nat), But g H H' → GenAt H' g (b + 1) → v < m → Q (.int (v : Int)) H'
section
variable {P : Program} {w : World} {K : PySem.W.Frag}
      {mg : Str → Option Value} {base : Heap}
theorem ok_cell (T : Bl mg) (D : Def K mg "_law_cell" s_l_cell) : Cal P w K mg base "_law_cell" ["_law_script", "_law_index"] 1 (spCell K) := by
  refine D.ok sc_l_cell (fun _ _ _ _ _ _ us hl => match us, hl with | [_, _], _ => rfl) (fun vs H Q E h => ?_) (fun f cdv A outer s H vs Q E hr h => ?_)
  · obtain ⟨a, ns, i, rfl, _⟩ := h
    rfl
  obtain ⟨a, ns, i, rfl, hs, hi, q⟩ := h
  refine ⟨_, (pss_cons (ps_if (pt_cmpR op_lt (pv 1) (pe_callB call_len_seq (by rfl) T.len PySem.boot_len (pa_cons (pv 0) pa_nil)) (nomark _)) (pss_one (ps_ret (pe_ix ix_list (pv 0) (pv 1) (fun _ _ => rfl)))) pss_nil)
    (pss_one (ps_ret pe_int))), ?_⟩
  refine ⟨_, rfl, _, rfl, _, _, rfl, .inl hs, _, _, rfl, rfl, _, rfl, ite2 (fun h => ?_) (fun h => ?_)⟩
  · have h := of_decide_eq_true h
    rw [List.length_map] at h
    obtain ⟨k, rfl⟩ : ∃ k : Nat, i = (k : Int) := ⟨i.toNat, by omega⟩
    have hk : k < ns.length := by omega
    refine ⟨_, rfl, _, rfl, _, _, _, _, rfl, rfl, hs, atI_nat (v := V.int ns[k]) (by rw [List.getElem?_map, List.getElem?_eq_getElem hk]; rfl), q _⟩
  · exact q 0
theorem ok_hash (T : Bl mg) (D : Def K mg "_law_hash" s_l_hash) : Cal P w K mg base "_law_hash" ["_law_seed", "_law_index"] 1 spHash := by
  refine D.ok sc_l_hash (fun _ _ _ _ _ _ us hl => match us, hl with | [_, _], _ => rfl) (fun vs H Q E h => ?_) (fun f cdv A outer s H vs Q E hr h => ?_)
  · obtain ⟨x, i, rfl, _⟩ := h
    rfl
  obtain ⟨x, i, rfl, h0, h1, q⟩ := h
  refine ⟨_, (pss_cons (ps_set (i := 2) sc_l_hash.nd rfl (.inl rfl) (pe_op op_mod (pe_op op_add (pe_op op_add (pe_op op_add (pe_op op_mul (pv 0) pe_int) (pe_op op_mul (pe_op op_mul pe_int (pv 1)) (pv 1))) (pv 1)) pe_int) pe_int))
    (pss_cons (ps_set (i := 2) sc_l_hash.nd rfl (.inl rfl) (pe_op op_mod (pe_op op_add (pe_op op_mul (pv 2) (pv 2)) pe_int) pe_int))
    (pss_one (ps_ret (pe_op op_mod (pe_op op_mul (pv 2) pe_int) pe_int))))), ?_⟩
  refine ⟨_, rfl, _, _, rfl, rfl, .inr (by decide), _, rfl, _, _, rfl, rfl, .inl (by decide), _, rfl, _, _, rfl, rfl, .inr ⟨by omega, by omega⟩, _, _, rfl, rfl, _, rfl, _, _, rfl, rfl, _, _, rfl, rfl, _, _, rfl, rfl, (by show (0 : Int) < 2147483647; decide), ?_⟩
  have b0 := Int.emod_nonneg (x * 1103515245 + 7919 * i * i + i + 1) (show (2147483647 : Int) ≠ 0 by decide)
  have b1 := Int.emod_lt_of_pos (x * 1103515245 + 7919 * i * i + i + 1) (show (0 : Int) < 2147483647 by decide)
  generalize (x * 1103515245 + 7919 * i * i + i + 1) % 2147483647 = u at b0 b1
  refine ⟨_, rfl, _, rfl, _, _, rfl, rfl, .inl ⟨by omega, by omega⟩, _, _, rfl, rfl, _, _, rfl, rfl, (by show (0 : Int) < 2147483629; decide), ?_⟩
  refine ⟨_, rfl, _, _, rfl, rfl, .inr (by decide), _, _, rfl, rfl, (by show (0 : Int) < 2147483587; decide), q _⟩
theorem ok_generator (T : Bl mg) (D : Def K mg "_law_generator" s_l_generator) (C_l_cell : Cal P w K mg base "_law_cell" ["_law_script", "_law_index"] 1 (spCell K)) : Cal P w K mg base "_law_generator" ["_law_script", "_law_index"] 2 (spGen K) := by
  refine D.ok sc_l_generator (fun _ _ _ _ _ _ us hl => match us, hl with | [_, _], _ => rfl) (fun vs H Q E h => ?_) (fun f cdv A outer s H vs Q E hr h => ?_)
  · obtain ⟨a, ns, i, rfl, _⟩ := h
    rfl
  obtain ⟨a, ns, i, rfl, hs, hi, q⟩ := h
  obtain ⟨f_l_cell, fd_l_cell, g_l_cell, k_l_cell, b_l_cell, G_l_cell⟩ := C_l_cell
  refine ⟨_, (pss_cons (ps_set (i := 2) sc_l_generator.nd rfl (.inl rfl) (pe_call G_l_cell (hr.mono (by decide)) (by rfl) g_l_cell k_l_cell b_l_cell .nil pass0 (pa_cons (pv 0) (pa_cons (pv 1) pa_nil))))
    (pss_one (ps_ret (pe_lst (pa_cons (pe_op op_mod (pe_callB (call_max2 rfl) (by rfl) T.max (by decide +kernel) (pa_cons (pe_op op_sub (pv 2) (pe_op op_pow pe_int pe_int)) (pa_cons pe_int pa_nil))) (pe_op op_powX (pe_op op_pow pe_int pe_int) pe_int)) (pa_cons (pe_op op_mod (pv 2) pe_int) (pa_cons (pe_op op_mul pe_int (pv 1)) pa_nil))))))), ?_⟩
  refine ⟨_, rfl, _, rfl, a, ns, _, rfl, hs, by omega, fun z => ?_⟩
  have hpos : (0 : Int) < (10 ^ (60 : Int).toNat) ^ (10 : Int).toNat := by decide +kernel
  refine ⟨_, rfl, _, _, rfl, rfl, ⟨by decide, by decide, by decide⟩, _, _, rfl, rfl, _, _, rfl, _, _, rfl, rfl, ⟨by decide, by decide, by decide⟩, _, _, rfl, rfl, (by decide +kernel), _, _, rfl, rfl, hpos, _, rfl, _, _, rfl, rfl, (by show (0 : Int) < 2147483647; decide), _, rfl, _, _, rfl, rfl, .inl (by decide), by show 3 ≤ sizeLine; decide, fun g ng => ?_⟩
  refine q _ g (Same.upd ng) ng ⟨_, _, _, upd_same, Int.emod_nonneg _ (by omega), by omega, by omega⟩
theorem ok_random (T : Bl mg) (D : Def K mg "_law_random" s_l_random) (C_l_hash : Cal P w K mg base "_law_hash" ["_law_seed", "_law_index"] 1 spHash) : Cal P w K mg base "_law_random" ["_law_generator_here", "_law_bound"] 2 spRand := by
  refine D.ok sc_l_random (fun _ _ _ _ _ _ us hl => match us, hl with | [_, _], _ => rfl) (fun vs H Q E h => ?_) (fun f cdv A outer s H vs Q E hr h => ?_)
  · obtain ⟨g, b, m, rfl, _⟩ := h
    rfl
  obtain ⟨g, b, m, rfl, ⟨x, y, z, hg, hx, hz, hzb⟩, hm, hm2, hb, q⟩ := h
  obtain ⟨f_l_hash, fd_l_hash, g_l_hash, k_l_hash, b_l_hash, G_l_hash⟩ := C_l_hash
  refine ⟨_, (pss_cons (ps_if (pt_cmpR op_gt (pe_ix ix_list (pv 0) pe_int (fun _ _ => rfl)) pe_int (nomark _)) (pss_cons (ps_set (i := 2) sc_l_random.nd rfl (.inl rfl) (pe_op op_mod (pe_ix ix_list (pv 0) pe_int (fun _ _ => rfl)) (pv 1)))
    (pss_cons (ps_asg (pe_op op_fdiv (pe_ix ix_list (pv 0) pe_int (fun _ _ => rfl)) (pv 1)) (pg_sub (pv 0) pe_int set_list))
    (pss_one (ps_ret (pv 2))))) pss_nil)
    (pss_cons (ps_set (i := 2) sc_l_random.nd rfl (.inl rfl) pe_int)
    (pss_cons (ps_for PassesOwn.never rfl (pi_range1 rfl T.range (pa_cons (pe_op op_add pe_int (pe_op op_fdiv (pe_bits (pv 1)) pe_int)) pa_nil)) (pg_name (i := 3) sc_l_random.nd rfl (.inl rfl))
    (pss_cons (ps_asg (pe_op op_add (pe_ix ix_list (pv 0) pe_int (fun _ _ => rfl)) pe_int) (pg_sub (pv 0) pe_int set_list))
    (pss_one (ps_set (i := 2) sc_l_random.nd rfl (.inl rfl) (pe_op op_add (pe_op op_mul (pv 2) pe_int) (pe_call G_l_hash (hr.mono (by decide)) (by rfl) g_l_hash k_l_hash b_l_hash .nil pass0 (pa_cons (pe_ix ix_list (pv 0) pe_int (fun _ _ => rfl)) (pa_cons (pe_ix ix_list (pv 0) pe_int (fun _ _ => rfl)) pa_nil))))))))
    (pss_one (ps_ret (pe_op op_mod (pv 2) (pv 1))))))), ?_⟩
  have hm' : (0 : Int) < (m : Int) := by omega
  refine ⟨_, rfl, _, _, _, V.int x, rfl, rfl, SqL.of hg, atI_nat (j := 0) (v := V.int x) rfl, _, _, rfl, rfl, _, rfl, ite2 (fun h => ?_) (fun h => ?_)⟩
  · refine ⟨_, rfl, _, _, _, V.int x, rfl, rfl, SqL.of hg, atI_nat (j := 0) (v := V.int x) rfl, _, rfl, _, _, rfl, rfl, hm', ?_⟩
    refine ⟨_, rfl, _, _, _, V.int x, rfl, rfl, SqL.of hg, atI_nat (j := 0) (v := V.int x) rfl, _, rfl, _, _, rfl, rfl, ⟨hm', by omega⟩, ?_⟩
    refine ⟨_, rfl, g, _, _, 0, rfl, rfl, hg, rfl, ?_⟩
    refine ⟨_, rfl, ?_⟩
    have e : x % (m : Int) = ((x % (m : Int)).toNat : Int) := (Int.toNat_of_nonneg (Int.emod_nonneg _ (by omega))).symm
    have l := Int.emod_lt_of_pos x hm'
    show Q (.int (x % (m : Int))) _
    rw [e]
    refine q _ _ (fun c o n e => by rw [upd_ne n]; exact e) ⟨x / (m : Int), y, z, upd_same, Int.ediv_nonneg hx (by omega), hz, by omega⟩ (by omega)
  · have eb : (1 : Int) + ((Builtin.Int.intBits (m : Int) : Nat) : Int) / 30 = 1 := by
      rw [bits29 hm' (by omega)]
      rfl
    refine ⟨_, rfl, _, rfl, _, _, rfl, rfl, ⟨by decide, by decide⟩, _, _, rfl, rfl, (1 : Int), congrArg (fun z => [V.int z]) eb, by decide, by decide, ?_⟩
    refine for_range (lo := 0) (n := 1) (fun i σ H1 => ∃ (r : Int) (y3 : Option V) (z1 : Int), σ = [some (.ref g), some (.int (m : Int)), some (.int r), y3] ∧ But g H H1 ∧ H1 g = some (.lst [.int x, .int y, .int z1]) ∧ 0 ≤ z1 ∧ z1 ≤ (b : Int) + (i : Int))
      ⟨0, _, z, rfl, fun _ _ _ e => e, hg, hz, by omega⟩ ?_ ?_
    · rintro i σ H1 hi ⟨r, y3, z1, rfl, bt, hg1, hz1, hz2⟩
      refine ⟨_, rfl, _, _, _, V.int z1, rfl, rfl, SqL.of hg1, atI_nat (j := 2) (v := V.int z1) rfl, _, _, rfl, rfl, _, rfl, g, _, _, 2, rfl, rfl, hg1, rfl, ?_⟩
      have hg2 : (upd H1 g (.lst [.int x, .int y, .int (z1 + 1)])) g = some (.lst [.int x, .int y, .int (z1 + 1)]) := upd_same
      refine ⟨_, rfl, _, _, rfl, rfl, .inr (by decide), _, rfl, _, _, _, V.int y, rfl, rfl, SqL.of hg2, atI_nat (j := 1) (v := V.int y) rfl, _, rfl, _, _, _, V.int (z1 + 1), rfl, rfl, SqL.of hg2, atI_nat (j := 2) (v := V.int (z1 + 1)) rfl, _, _, rfl, by omega, by omega, fun u => ?_⟩
      refine ⟨_, _, rfl, rfl, ?_⟩
      exact ⟨_, _, z1 + 1, rfl, bt.upd _, hg2, by omega, by omega⟩
    · rintro σ H1 ⟨r, y3, z1, rfl, bt, hg1, hz1, hz2⟩
      refine ⟨_, rfl, _, rfl, _, _, rfl, rfl, hm', ?_⟩
      have e : r % (m : Int) = ((r % (m : Int)).toNat : Int) := (Int.toNat_of_nonneg (Int.emod_nonneg _ (by omega))).symm
      have l := Int.emod_lt_of_pos r hm'
      show Q (.int (r % (m : Int))) _
      rw [e]
      exact q _ _ bt ⟨x, y, z1, hg1, hx, hz1, by omega⟩ (by omega)
end
end K5

namespace K5
open PySem PySem.Spec PyProof.Rows L2
theorem cons_erase {α : Type} : ∀ (l : List α) (i : Nat) (y : α), l[i]? = some y → (y :: l.eraseIdx i).Perm l
  | [], i, y, h => by simp at h
  | a :: r, 0, y, h => by
    have e : a = y := Option.some.inj h
    subst e
    exact List.Perm.refl _
  | a :: r, i + 1, y, h => ((List.Perm.swap a y _).trans ((cons_erase r i y h).cons a))
theorem _root_.L2.But.seq {K : PySem.W.Frag} {g a : Addr} {H H' : Hp} {xs : List V} (s : But g H H') (n : a ≠ g) (h : SqL K H a xs) : SqL K H' a xs := by
  rcases h with (h | ⟨o, h⟩) | h
  · exact .inl (.inl (s _ _ n h))
  · exact .inl (.inr ⟨o, s _ _ n h⟩)
  · exact .inr h
theorem _root_.L2.But.at {g p : Addr} {H H' : Hp} (s : But g H H') (n : H p = none) (o : HO) : But g H (upd H' p o) := fun b u ne e => by
  rw [upd_ne (ne_of_none e n)]
  exact s b u ne e
theorem _root_.L2.But.refl (g : Addr) (H : Hp) : But g H H := fun _ _ _ e => e
theorem _root_.L2.But.free {g p : Addr} {H H' : Hp} (s : But g H H') (ne : p ≠ g) (h : H' p = none) : H p = none := by
  cases q : H p with
  | none => rfl
  | some o =>
    rw [s p o ne q] at h
    cases h
theorem GenAt.at {H g b p o} (h : GenAt H g b) (n : p ≠ g) : GenAt (upd H p o) g b := by
  obtain ⟨x, y, z, a, r⟩ := h
  exact ⟨x, y, z, by rw [upd_ne n.symm]; exact a, r⟩
theorem GenAt.ne {H g b p} (h : GenAt H g b) (n : H p = none) : p ≠ g := by
  obtain ⟨x, y, z, a, r⟩ := h
  exact (ne_of_none a n).symm
theorem seq_nat {v n : Nat} (h : v < n) : seqIndex? (v : Int) n = some v := (ixN_seq (ixN_nat h)).1
def spShuf (K : PySem.W.Frag) : Sp := fun vs H Q _ => ∃ (g a : Addr) (b : Nat) (xs : List V), vs = [.ref g, .ref a] ∧ GenAt H g b ∧ SqL K H a xs ∧ a ≠ g ∧ xs.length ≤ 1000 ∧ b < 2 ^ 59 ∧
  ∀ (H' : Hp) (q : Addr) (ys : List V), But g H H' → GenAt H' g (b + xs.length) → H q = none → H' q = some (.lst ys) → ys.Perm xs → Q (.ref q) H'
section
variable {P : Program} {w : World} {K : PySem.W.Frag}
      {mg : Str → Option Value} {base : Heap}
theorem ok_shuffled (T : Bl mg) (D : Def K mg "_law_shuffled" s_l_shuffled) (C_l_random : Cal P w K mg base "_law_random" ["_law_generator_here", "_law_bound"] 2 spRand) : Cal P w K mg base "_law_shuffled" ["_law_generator_here", "_law_items"] 3 (spShuf K) := by
  refine D.ok sc_l_shuffled (fun _ _ _ _ _ _ us hl => match us, hl with | [_, _], _ => rfl) (fun vs H Q E h => ?_) (fun f cdv A outer s H vs Q E hr h => ?_)
  · obtain ⟨g, a, b, xs, rfl, _⟩ := h
    rfl
  obtain ⟨g, a, b, xs, rfl, hg, hs, nag, hxs, hb, q⟩ := h
  obtain ⟨f_l_random, fd_l_random, g_l_random, k_l_random, b_l_random, G_l_random⟩ := C_l_random
  refine ⟨_, (pss_cons (ps_set (i := 2) sc_l_shuffled.nd rfl (.inr rfl) (pe_callTy call_list_of (by rfl) T.list (by decide +kernel) (pa_cons (pv 1) pa_nil)))
    (pss_one (ps_ret (pe_lc (own := [("_law_item", 3)]) (g := gName 3)  (te := (tBM K "list" rPopAt (tVar 2) (tCons (tCall spRand [] E0 (tCons (tVar 0) (tCons (tCB (fun xs H Q => ∃ p ys, xs = [V.ref p] ∧ (SqL K H p ys ∨ SqT K H p ys) ∧ Q (.int ys.length) H) (tCons (tVar 2) tNil)) tNil))) tNil))) rfl sc_l_shuffled.nd (pi_list (pv 1)) (blkOk_by (N := N_l_shuffled) (sc := defScope s_l_shuffled) (own := [("_law_item", 3)]) (by decide +kernel)) (fun _ _ _ _ _ => (pg_name (i := 3) sc_l_shuffled.nd rfl (.inl rfl) (.inr rfl))) (fun _ _ _ _ _ => pts_nil) (fun _ _ _ _ _ => (pe_bm PySem.F.plainAttrs_list PySem.F.slot_list_pop PySem.F.type_list_pop mt_popAt (pv 2) (pa_cons (pe_call G_l_random (hr.mono (by decide)) (by rfl) g_l_random k_l_random b_l_random .nil pass0 (pa_cons (pv 0) (pa_cons (pe_callB call_len_seq (by rfl) T.len PySem.boot_len (pa_cons (pv 2) pa_nil)) pa_nil))) pa_nil))))))), ?_⟩
  refine ⟨_, rfl, a, xs, rfl, .inl hs, fun pp npp => ?_⟩
  have s1 := Same.upd (o := .lst xs) npp
  have h1 : (upd H pp (.lst xs)) pp = some (.lst xs) := upd_same
  have g1 := hg.same s1
  generalize upd H pp (.lst xs) = H1 at s1 h1 g1
  refine ⟨_, rfl, a, rfl, ⟨_, s1.seq hs⟩, fun pd npd => ?_⟩
  have ndp : pd ≠ pp := (ne_of_none h1 npd).symm
  have ndg : pd ≠ g := g1.ne npd
  have npg : pp ≠ g := hg.ne npp
  refine lc_it (walk_list (K := K) (a := a) (xs := xs)) (fun i H2 => ∃ acc pl, But g H H2 ∧ GenAt H2 g (b + i) ∧ H2 pp = some (.lst pl) ∧ H2 pd = some (.lst acc) ∧ (acc ++ pl).Perm xs ∧ acc.length = i)
    ⟨[], xs, s1.but.at (s1.free npd) _, g1.at ndg, by rw [upd_ne ndp.symm]; exact h1, upd_same, List.Perm.refl _, rfl⟩ (fun i H2 _ ⟨_, _, bt, _⟩ => bt.seq nag hs) ?_ ?_
  · rintro i v H2 H3 hi ⟨acc, pl, bt, g2, h2, hd2, pm, hl⟩ ⟨rfl, ex⟩
    have hlen := pm.length_eq
    rw [List.length_append] at hlen
    refine ⟨rfl, lcYes ?_⟩
    refine ⟨_, rfl, .inl ⟨rfl, _, SqL.of h2⟩, _, rfl, _, rfl, pp, pl, rfl, .inl (SqL.of h2), ?_⟩
    refine ⟨g, b + i, pl.length, rfl, g2, by omega, by omega, by omega, fun H4 u bt4 g4 hu => ?_⟩
    have h4 := bt4 _ _ npg h2
    have hd4 := bt4 _ _ ndg hd2
    obtain ⟨y, hy⟩ : ∃ y, pl[u]? = some y := ⟨_, List.getElem?_eq_getElem hu⟩
    refine ⟨pp, pl, _, u, y, rfl, rfl, h4, by omega, by omega, seq_nat hu, hy, ?_⟩
    refine ⟨acc, by rw [upd_ne ndp]; exact hd4, small1000 (by omega), acc ++ [y], pl.eraseIdx u, ?_, ?_, ?_, upd_same, ?_, by rw [List.length_append, hl]; rfl⟩
    · exact (((bt.trans bt4).at npp _).at (s1.free npd) _)
    · exact (g4.at npg).at ndg
    · rw [upd_ne ndp.symm, upd_same]
    · rw [List.append_assoc]
      exact (List.Perm.append_left acc (cons_erase pl u y hy)).trans pm
  · rintro H2 ⟨acc, pl, bt, g2, h2, hd2, pm, hl⟩
    have hlen := pm.length_eq
    rw [List.length_append] at hlen
    have : pl = [] := List.eq_nil_of_length_eq_zero (by omega)
    subst this
    rw [List.append_nil] at pm
    exact q H2 pd acc bt g2 (s1.free npd) hd2 pm
end
end K5

namespace K5
open PySem PySem.Spec PyProof.Rows L2
/-! ### moves and states, as plain mathematics -/
/-- person, start, end -/
abbrev Mv := Nat × Nat × Nat
/-- where each person is; whom each door bars -/
abbrev S2 := List Nat × List Nat
theorem Tree.one_door {n ds} (T : Tree n ds) {d c x y : Nat} (j : Joins ds d x y) (k : Joins ds c x y) : d = c := by
  obtain ⟨side, s1, s2⟩ := T.side
  refine Classical.byContradiction fun h => ?_
  exact side_join s1 j (side_other s2 k h)
/-- the door between two rooms -/
def dix (ds : List (Nat × Nat)) (x y : Nat) : Nat := ((List.range ds.length).find? fun d => decide (ds[d]? = some (x, y) ∨ ds[d]? = some (y, x))).getD 0
theorem joins_lt {ds : List (Nat × Nat)} {d x y : Nat} (j : Joins ds d x y) : d < ds.length := by
  rcases j with j | j
  · exact get_lt j
  · exact get_lt j
theorem dix_is {n ds} (T : Tree n ds) {d x y : Nat} (j : Joins ds d x y) : dix ds x y = d := by
  unfold dix
  cases h : (List.range ds.length).find? fun d => decide (ds[d]? = some (x, y) ∨ ds[d]? = some (y, x)) with
  | none =>
    have := List.find?_eq_none.mp h d (List.mem_range.mpr (joins_lt j))
    exact absurd (decide_eq_true (show ds[d]? = some (x, y) ∨ ds[d]? = some (y, x) from j)) this
  | some c =>
    have k : ds[c]? = some (x, y) ∨ ds[c]? = some (y, x) := by
      have := List.find?_some h
      exact of_decide_eq_true this
    exact T.one_door k j
/-- a move that names a person and a door -/
def VM (ds : List (Nat × Nat)) (P : Nat) (m : Mv) : Prop := m.1 < P ∧ ∃ d, Joins ds d m.2.1 m.2.2
/-- why the move is not possible -/
def why (ds : List (Nat × Nat)) (S : S2) (m : Mv) : Option String :=
  if S.1.getD m.1 0 ≠ m.2.1 then some "away" else if S.2.getD (dix ds m.2.1 m.2.2) 0 = m.1 then some "barred" else none
def nxt (ds : List (Nat × Nat)) (S : S2) (m : Mv) : S2 := (S.1.set m.1 m.2.2, S.2.set (dix ds m.2.1 m.2.2) m.1)
def runs (ds : List (Nat × Nat)) : Nat → S2 → List Mv → (Nat × String) ⊕ S2
  | _, S, [] => .inr S
  | i, S, m :: r => match why ds S m with
    | some w => .inl (i, w)
    | none => runs ds (i + 1) (nxt ds S m) r
structure StOk (n : Nat) (ds : List (Nat × Nat)) (S : S2) : Prop where
  one : 1 ≤ S.1.length
  few : S.1.length ≤ 10
  rooms : ∀ x ∈ S.1, x < n
  doors : S.2.length = ds.length
  bars : ∀ y ∈ S.2, y < S.1.length
theorem StOk.nxt {n ds S m} (T : Tree n ds) (h : StOk n ds S) (v : VM ds S.1.length m) : StOk n ds (nxt ds S m) := by
  obtain ⟨v1, d, j⟩ := v
  obtain ⟨_, l2, _, _⟩ := j.lt T
  have e1 : (K5.nxt ds S m).1.length = S.1.length := List.length_set
  refine ⟨by rw [e1]; exact h.one, by rw [e1]; exact h.few, fun x hx => ?_, by rw [show (K5.nxt ds S m).2.length = S.2.length from List.length_set]; exact h.doors, fun y hy => ?_⟩
  · rcases List.mem_or_eq_of_mem_set hx with q | q
    · exact h.rooms x q
    · rw [q]; exact l2
  · rw [e1]
    rcases List.mem_or_eq_of_mem_set hy with q | q
    · exact h.bars y q
    · rw [q]; exact v1
theorem nxt_len {ds S m} : (nxt ds S m).1.length = S.1.length := List.length_set
theorem runs_drop {ds : List (Nat × Nat)} {S : S2} {ms : List Mv} {k : Nat} {m : Mv} (h : ms[k]? = some m) : runs ds k S (ms.drop k) = match why ds S m with
    | some w => .inl (k, w)
    | none => runs ds (k + 1) (nxt ds S m) (ms.drop (k + 1)) := by
  have hk := get_lt h
  have e : ms.drop k = m :: ms.drop (k + 1) := by
    rw [List.drop_eq_getElem_cons hk]
    rw [List.getElem?_eq_getElem hk] at h
    rw [Option.some.inj h]
  rw [e]
  rfl
/-- the moves that are possible -/
def Can (ds : List (Nat × Nat)) (S : S2) (m : Mv) : Prop := m.1 < S.1.length ∧ S.1[m.1]? = some m.2.1 ∧ ∃ d, Joins ds d m.2.1 m.2.2 ∧ S.2[d]? ≠ some m.1
theorem Can.vm {ds S m} (h : Can ds S m) : VM ds S.1.length m := ⟨h.1, h.2.2.choose, h.2.2.choose_spec.1⟩
theorem getD_of {l : List Nat} {i x : Nat} (h : l[i]? = some x) : l.getD i 0 = x := by
  rw [List.getD_eq_getElem?_getD, h]
  rfl
theorem Can.why {n ds S m} (T : Tree n ds) (h : Can ds S m) (o : StOk n ds S) : why ds S m = none := by
  obtain ⟨h1, h2, d, j, h3⟩ := h
  unfold K5.why
  rw [if_neg (by rw [getD_of h2]; simp), dix_is T j]
  have hd : d < S.2.length := by rw [o.doors]; exact joins_lt j
  obtain ⟨b, hb⟩ : ∃ b, S.2[d]? = some b := get_of rfl hd
  rw [getD_of hb, if_neg]
  intro z
  exact h3 (by rw [hb, z])
def mcode (m : Mv) : Int := TS.code 64 [(m.1 : Int), (m.2.1 : Int), (m.2.2 : Int)]
theorem mcode_is (m : Mv) : mcode m = (m.1 : Int) * 4096 + (m.2.1 : Int) * 64 + (m.2.2 : Int) := by
  unfold mcode
  show (m.1 : Int) * 64 ^ 2 + ((m.2.1 : Int) * 64 ^ 1 + ((m.2.2 : Int) * 64 ^ 0 + 0)) = _
  rw [show (64 : Int) ^ 2 = 4096 by decide, show (64 : Int) ^ 1 = 64 by decide, show (64 : Int) ^ 0 = 1 by decide]
  omega
def Sm (m : Mv) : Prop := m.1 < 64 ∧ m.2.1 < 64 ∧ m.2.2 < 64
theorem mcode_inj {m m' : Mv} (a : Sm m) (b : Sm m') (e : mcode m = mcode m') : m = m' := by
  obtain ⟨x, y, z⟩ := m
  obtain ⟨x', y', z'⟩ := m'
  rw [mcode_is, mcode_is] at e
  unfold Sm at a b
  simp only at e a b
  have h1 : x = x' := by omega
  have h2 : y = y' := by omega
  have h3 : z = z' := by omega
  rw [h1, h2, h3]
/-- the moves with P, each once, ascending -/
structure Canon (l : List Mv) (P : Mv → Prop) : Prop where
  mem : ∀ m, m ∈ l ↔ P m
  sm : ∀ m ∈ l, Sm m
  asc : l.Pairwise fun a b => mcode a < mcode b
theorem asc_unique : ∀ (l l' : List Mv), (l.Pairwise fun a b => mcode a < mcode b) → (l'.Pairwise fun a b => mcode a < mcode b) → (∀ m, m ∈ l ↔ m ∈ l') → (∀ m ∈ l, Sm m) → l = l'
  | [], [], _, _, _, _ => rfl
  | [], b :: r, _, _, h, _ => by
    have := (h b).mpr List.mem_cons_self
    cases this
  | a :: r, [], _, _, h, _ => by
    have := (h a).mp List.mem_cons_self
    cases this
  | a :: r, b :: r', p, p', h, sm => by
    obtain ⟨p1, p2⟩ := List.pairwise_cons.mp p
    obtain ⟨q1, q2⟩ := List.pairwise_cons.mp p'
    have e : a = b := by
      rcases List.mem_cons.mp ((h a).mp List.mem_cons_self) with e | h1
      · exact e
      · rcases List.mem_cons.mp ((h b).mpr List.mem_cons_self) with e | h2
        · exact e.symm
        · have := p1 b h2
          have := q1 a h1
          omega
    subst e
    have : r = r' := by
      refine asc_unique r r' p2 q2 (fun m => ?_) fun m hm => sm m (List.mem_cons_of_mem _ hm)
      constructor
      · intro hm
        rcases List.mem_cons.mp ((h m).mp (List.mem_cons_of_mem _ hm)) with e | h1
        · subst e
          have := p1 m hm
          omega
        · exact h1
      · intro hm
        rcases List.mem_cons.mp ((h m).mpr (List.mem_cons_of_mem _ hm)) with e | h1
        · subst e
          have := q1 m hm
          omega
        · exact h1
    rw [this]
theorem Canon.unique {l l' P} (a : Canon l P) (b : Canon l' P) : l = l' := asc_unique l l' a.asc b.asc (fun m => (a.mem m).trans (b.mem m).symm) a.sm
/-! ### how they stand in the heap -/
def tI (m : Mv) : List V := [.int (m.1 : Int), .int (m.2.1 : Int), .int (m.2.2 : Int)]
def TL (H : Hp) (ts : List Addr) (l : List Mv) : Prop := ts.length = l.length ∧ ∀ (i : Nat) (t : Addr) (m : Mv), ts[i]? = some t → l[i]? = some m → H t = some (.tup (tI m))
def TrisAt (H : Hp) (q : Addr) (l : List Mv) : Prop := ∃ ts : List Addr, H q = some (.lst (ts.map V.ref)) ∧ TL H ts l
def StateAt (K : PySem.W.Frag) (H : Hp) (a : Addr) (S : S2) : Prop := ∃ r b : Addr, SqT K H a [.ref r, .ref b] ∧ SqT K H r (nv S.1) ∧ SqT K H b (nv S.2)
section
variable {K : PySem.W.Frag} {H H' : Hp} {a g q t : Addr} {S : S2} {l : List Mv} {ts : List Addr} {m : Mv}
theorem StateAt.same (h : StateAt K H a S) (s : Same H H') : StateAt K H' a S := by
  obtain ⟨r, b, h1, h2, h3⟩ := h
  exact ⟨r, b, s.tup h1, s.tup h2, s.tup h3⟩
theorem StateAt.but {xs : List V} (h : StateAt K H a S) (hg : H g = some (.lst xs)) (s : But g H H') : StateAt K H' a S := by
  obtain ⟨r, b, h1, h2, h3⟩ := h
  exact ⟨r, b, s.tup hg h1, s.tup hg h2, s.tup hg h3⟩
theorem TL.same (h : TL H ts l) (s : Same H H') : TL H' ts l := ⟨h.1, fun i t m x y => s _ _ (h.2 i t m x y)⟩
theorem TL.but {xs : List V} (h : TL H ts l) (hg : H g = some (.lst xs)) (s : But g H H') : TL H' ts l := ⟨h.1, fun i t m x y => s _ _ (ne_lt hg (h.2 i t m x y)) (h.2 i t m x y)⟩
theorem TL.nil : TL H [] [] := ⟨rfl, fun i t m x => by simp at x⟩
theorem TL.append {ts2 : List Addr} {l2 : List Mv} (h : TL H ts l) (h2 : TL H ts2 l2) : TL H (ts ++ ts2) (l ++ l2) := by
  refine ⟨by rw [List.length_append, List.length_append, h.1, h2.1], fun i t m x y => ?_⟩
  by_cases hi : i < ts.length
  · rw [List.getElem?_append_left hi] at x
    rw [List.getElem?_append_left (by rw [← h.1]; exact hi)] at y
    exact h.2 i t m x y
  · rw [List.getElem?_append_right (by omega)] at x
    rw [List.getElem?_append_right (by rw [← h.1]; omega), ← h.1] at y
    exact h2.2 _ t m x y
theorem TL.one (h : H t = some (.tup (tI m))) : TL H [t] [m] := by
  refine ⟨rfl, fun i t' m' x y => ?_⟩
  match i with
  | 0 => cases x; cases y; exact h
  | i + 1 => simp at x
theorem TL.take (h : TL H ts l) (k : Nat) : TL H (ts.take k) (l.take k) := by
  refine ⟨by rw [List.length_take, List.length_take, h.1], fun i t m x y => ?_⟩
  rw [List.getElem?_take] at x y
  split at x
  · rename_i hi
    rw [if_pos hi] at y
    exact h.2 i t m x y
  · cases x
theorem TL.drop (h : TL H ts l) (k : Nat) : TL H (ts.drop k) (l.drop k) := by
  refine ⟨by rw [List.length_drop, List.length_drop, h.1], fun i t m x y => ?_⟩
  rw [List.getElem?_drop] at x y
  exact h.2 _ t m x y
theorem TrisAt.same (h : TrisAt H q l) (s : Same H H') : TrisAt H' q l := by
  obtain ⟨ts, h1, h2⟩ := h
  exact ⟨ts, s _ _ h1, h2.same s⟩
theorem TL.perm (h : TL H ts l) {ys : List V} (p : ys.Perm (ts.map V.ref)) : ∃ (ts' : List Addr) (l' : List Mv), ys = ts'.map V.ref ∧ l'.Perm l ∧ TL H ts' l' := by
  have e1 : ts.map V.ref = (ts.zip l).map (fun z => V.ref z.1) := by
    have e : (ts.zip l).map (fun z => V.ref z.1) = ((ts.zip l).map Prod.fst).map V.ref := by rw [List.map_map]; rfl
    rw [e, List.map_fst_zip (by rw [h.1]; omega)]
  rw [e1] at p
  obtain ⟨zs, ez, pz⟩ := perm_of_map _ _ _ p
  refine ⟨zs.map Prod.fst, zs.map Prod.snd, by rw [ez, List.map_map]; rfl, ?_, by simp, fun i t e a b => ?_⟩
  · have q := pz.map Prod.snd
    rw [List.map_snd_zip (by rw [h.1]; omega)] at q
    exact q
  · rw [List.getElem?_map] at a b
    cases hz : zs[i]? with
    | none => rw [hz] at a; cases a
    | some z =>
      rw [hz] at a b
      cases a
      cases b
      have hm := pz.mem_iff.mp (List.mem_of_getElem? hz)
      obtain ⟨j, hj⟩ := List.mem_iff_getElem?.mp hm
      rw [List.getElem?_zip_eq_some] at hj
      exact h.2 j _ _ hj.1 hj.2
/-- sorted's answer over such moves -/
theorem sorted_canon {ys : List V} {P : Mv → Prop} (h : TL H ts l) (mem : ∀ m, m ∈ l ↔ P m) (sm : ∀ m ∈ l, Sm m) (nd : l.Nodup) (pm : ys.Perm (ts.map V.ref))
    (asc : ys.Pairwise fun x y => ∀ n m, TupI K H x n → TupI K H y m → TS.code 64 n ≤ TS.code 64 m) : ∃ (ts' : List Addr) (l' : List Mv), ys = ts'.map V.ref ∧ Canon l' P ∧ TL H ts' l' := by
  obtain ⟨ts', l', rfl, pl, tl⟩ := h.perm pm
  have nd' := pl.nodup_iff.mpr nd
  refine ⟨ts', l', rfl, ⟨fun m => pl.mem_iff.trans (mem m), fun m hm => sm m (pl.mem_iff.mp hm), ?_⟩, tl⟩
  rw [List.pairwise_iff_getElem]
  intro i j hi hj hij
  have hi' : i < ts'.length := by rw [tl.1]; exact hi
  have hj' : j < ts'.length := by rw [tl.1]; exact hj
  have a1 := List.pairwise_iff_getElem.mp asc i j (by rw [List.length_map]; exact hi') (by rw [List.length_map]; exact hj') hij
  rw [List.getElem_map, List.getElem_map] at a1
  have t1 := tl.2 i ts'[i] l'[i] (List.getElem?_eq_getElem hi') (List.getElem?_eq_getElem hi)
  have t2 := tl.2 j ts'[j] l'[j] (List.getElem?_eq_getElem hj') (List.getElem?_eq_getElem hj)
  have le : mcode l'[i] ≤ mcode l'[j] := a1 _ _ ⟨_, rfl, SqT.of t1⟩ ⟨_, rfl, SqT.of t2⟩
  have ne : mcode l'[i] ≠ mcode l'[j] := by
    intro e
    have := mcode_inj (sm _ (pl.mem_iff.mp (List.getElem_mem hi))) (sm _ (pl.mem_iff.mp (List.getElem_mem hj))) e
    exact absurd this (List.pairwise_iff_getElem.mp nd' i j hi hj hij)
  omega
theorem tup_of {m : Mv} (h : H t = some (.tup (tI m))) (sm : Sm m) : ∃ ns, TupI K H (.ref t) ns ∧ ns.length = 3 ∧ TS.Bd 64 ns := by
  refine ⟨[(m.1 : Int), (m.2.1 : Int), (m.2.2 : Int)], ⟨t, rfl, SqT.of h⟩, rfl, ?_⟩
  obtain ⟨h1, h2, h3⟩ := sm
  intro x hx
  simp only [List.mem_cons, List.not_mem_nil,
        or_false] at hx
  rcases hx with rfl | rfl | rfl <;> omega
end
/-! ### as data -/
def dM (m : Mv) : PyData := .tuple [.int (m.1 : Int), .int (m.2.1 : Int), .int (m.2.2 : Int)]
def dMs (l : List Mv) : PyData := .list (l.map dM)
def dIs (l : List Nat) : List PyData := (l.map fun x : Nat => (x : Int)).map PyData.int
def dS (S : S2) : PyData := .tuple [.tuple (dIs S.1), .tuple (dIs S.2)]
def dO : (Nat × String) ⊕ S2 → PyData
  | .inl (i, w) => .list [.int (i : Int), .tuple [.str (Str.ofString w)]]
  | .inr S => dS S
theorem dIs_lay : ∀ l : List Nat, PyData.canLayAll0 (dIs l) = true
  | [] => by simp [dIs, PyData.canLayAll0]
  | x :: r => by
    have := dIs_lay r
    unfold dIs at this ⊢
    simp only [List.map_cons, PyData.canLayAll0, PyData.canLay0, this, Bool.and_true]
theorem dIs_depth : ∀ l : List Nat, PyData.depthAll (dIs l) ≤ 1
  | [] => by simp [dIs, PyData.depthAll]
  | x :: r => by
    have := dIs_depth r
    unfold dIs at this ⊢
    simp only [List.map_cons, PyData.depthAll,
          PyData.depth]
    omega
theorem dM_lay (z : Mv) : (dM z).canLay0 = true := by simp [dM, PyData.canLay0, PyData.canLayAll0]
theorem dM_depth (z : Mv) : (dM z).depth ≤ 2 := by simp [dM, PyData.depth, PyData.depthAll]
theorem dMs_lay : ∀ zs : List Mv, PyData.canLayAll0 (zs.map dM) = true
  | [] => by simp [PyData.canLayAll0]
  | z :: zs => by simp [PyData.canLayAll0, dM_lay z, dMs_lay zs]
theorem dMs_depth : ∀ zs : List Mv, PyData.depthAll (zs.map dM) ≤ 2
  | [] => by simp [PyData.depthAll]
  | z :: zs => by
    have h1 := dMs_depth zs
    have h2 := dM_depth z
    simp only [List.map_cons, PyData.depthAll]
    omega
theorem shaped_mk {d : PyData} (h1 : d.canLay0 = true) (h2 : d.depth ≤ 64) : SeqAt.shaped d = true := by
  show (d.canLay0 && decide (d.depth ≤ 64)) = true
  rw [h1, decide_eq_true h2]
  rfl
theorem dMs_shaped (l : List Mv) : SeqAt.shaped (dMs l) = true := by
  have h := dMs_depth l
  refine shaped_mk ?_ ?_
  · simp only [dMs, PyData.canLay0]
    exact dMs_lay l
  · simp only [dMs, PyData.depth]
    omega
theorem dS_shaped (S : S2) : SeqAt.shaped (dS S) = true := by
  have h1 := dIs_depth S.1
  have h2 := dIs_depth S.2
  have h3 := dIs_lay S.1
  have h4 := dIs_lay S.2
  refine shaped_mk ?_ ?_
  · simp only [dS, PyData.canLay0, PyData.canLayAll0, h3, h4, Bool.and_true]
  · simp only [dS, PyData.depth, PyData.depthAll]
    omega
theorem dO_shaped {o : (Nat × String) ⊕ S2} (h : ∀ i w, o = .inl (i, w) → w = "away" ∨ w = "barred") : SeqAt.shaped (dO o) = true := by
  match o, h with
  | .inl (i, w), h =>
    have hw : PyData.strOk (Str.ofString w) = true := by
      rcases h i w rfl with rfl | rfl
      · decide +kernel
      · decide +kernel
    refine shaped_mk ?_ ?_
    · simp only [dO, PyData.canLay0, PyData.canLayAll0, hw, Bool.and_true]
    · simp only [dO, PyData.depth, PyData.depthAll]
      omega
  | .inr S, _ => exact dS_shaped S
theorem why_word {ds S m w} (h : why ds S m = some w) : w = "away" ∨ w = "barred" := by
  unfold why at h
  split at h
  · exact .inl (Option.some.inj h).symm
  · split at h
    · exact .inr (Option.some.inj h).symm
    · cases h
theorem runs_word {ds : List (Nat × Nat)} : ∀ {ms : List Mv} {k : Nat} {S : S2} {i : Nat} {w : String}, runs ds k S ms = .inl (i, w) → w = "away" ∨ w = "barred"
  | [], k, S, i, w, h => by
    rw [runs] at h
    cases h
  | m :: r, k, S, i, w, h => by
    rw [runs] at h
    split at h
    · rename_i w' e
      cases h
      exact why_word e
    · exact runs_word h
theorem d_refl {d : PyData} (h : SeqAt.shaped d = true) : PyData.eqv d d = true := SeqAt.eqv_refl _ (SeqAt.canLay_of_shaped h)
section
variable {K : PySem.W.Frag} {H : Hp} {a q t : Addr} {S : S2} {l : List Mv} {ts : List Addr} {m : Mv}
theorem dp_is : ∀ l : List Nat, DpAll K H (nv l) (dIs l)
  | [] => .nil
  | x :: r => .cons (.int _) (dp_is r)
theorem dp_S (h : StateAt K H a S) : Dp K H (.ref a) (dS S) := by
  obtain ⟨r, b, h1, h2, h3⟩ := h
  exact .tup h1 (.cons (.tup h2 (dp_is _)) (.cons (.tup h3 (dp_is _)) .nil))
theorem dp_M (h : H t = some (.tup (tI m))) : Dp K H (.ref t) (dM m) := .tup (SqT.of h) (.cons (.int _) (.cons (.int _) (.cons (.int _) .nil)))
theorem dp_Ms : ∀ (ts : List Addr) (l : List Mv), TL H ts l → DpAll K H (ts.map V.ref) (l.map dM)
  | [], [], _ => .nil
  | [], m :: l, h => by have := h.1; simp at this
  | t :: ts, [], h => by have := h.1; simp at this
  | t :: ts, m :: l, h => .cons (dp_M (h.2 0 t m rfl rfl)) (dp_Ms ts l ⟨by have := h.1; simpa using this, fun i t' m' x y => h.2 (i + 1) t' m' x y⟩)
theorem dp_Tris (h : TrisAt H q l) : Dp K H (.ref q) (dMs l) := by
  obtain ⟨ts, h1, h2⟩ := h
  exact .lst (SqL.of h1) (dp_Ms ts l h2)
end
end K5

namespace K5
open PySem PySem.Spec PyProof.Rows L2
/-- steps (door, start, end) from a to b -/
def Trl (ds : List (Nat × Nat)) : Nat → List Mv → Nat → Prop
  | a, [], b => a = b
  | a, m :: r, b => m.2.1 = a ∧ Joins ds m.1 m.2.1 m.2.2 ∧ Trl ds m.2.2 r b
theorem Trl.snoc {ds : List (Nat × Nat)} {d y z : Nat} : ∀ {r : List Mv} {a : Nat}, Trl ds a r y → Joins ds d y z → Trl ds a (r ++ [(d, y, z)]) z
  | [], a, h, j => by
    have h : a = y := h
    subst h
    exact ⟨rfl, j, rfl⟩
  | m :: r, a, h, j => ⟨h.1, h.2.1, Trl.snoc h.2.2 j⟩
theorem Trl.walk {ds : List (Nat × Nat)} : ∀ {r : List Mv} {a b : Nat}, Trl ds a r b → Walk ds a (r.map Prod.fst) b
  | [], a, b, h => by
    have h : a = b := h
    subst h
    exact .nil _
  | m :: r, a, b, h => by
    obtain ⟨h1, h2, h3⟩ := h
    rw [h1] at h2
    exact .cons h2 (Trl.walk h3)
theorem nv_some {L : List Nat} {k : Nat} {x : V} (h : (nv L)[k]? = some x) : ∃ v, L[k]? = some v ∧ x = .int (v : Int) := by
  unfold nv at h
  rw [List.getElem?_map] at h
  cases e : L[k]? with
  | none => rw [e] at h; cases h
  | some v => rw [e] at h; exact ⟨v, rfl, (Option.some.inj h).symm⟩
/-- the doors that bar p -/
def barr (S : S2) (p : Nat) : List Nat := (List.range S.2.length).filter fun d => decide (S.2[d]? = some p)
theorem mem_barr {S : S2} {p d : Nat} : d ∈ barr S p ↔ S.2[d]? = some p := by
  unfold barr
  rw [List.mem_filter, List.mem_range]
  constructor
  · rintro ⟨_, h⟩
    exact of_decide_eq_true h
  · intro h
    exact ⟨get_lt h, decide_eq_true h⟩
theorem barr_len {S : S2} {p : Nat} : (barr S p).length ≤ S.2.length := by
  have := List.length_filter_le (fun d => decide (S.2[d]? = some p)) (List.range S.2.length)
  rw [List.length_range] at this
  exact this
/-- the rooms that a search finds; each with its way back -/
structure Reg (n : Nat) (ds : List (Nat × Nat)) (shut : List Nat) (room : Nat) (ks : List (Nat × Option (Nat × Nat))) : Prop where
  df : Dfs n ds shut (ks.map Prod.fst) []
  pt : Ptr ds shut room ks
  rm : room ∈ ks.map Prod.fst
def spStepsT (K : PySem.W.Frag) : Sp := fun vs H Q _ => ∃ (p : Addr) (a n room : Nat) (ds : List (Nat × Nat)) (shut : List Nat) (kvs : List (Key × V)) (ks : List (Nat × Option (Nat × Nat))), vs = [.ref p, .int (a : Int)] ∧ H p = some (.dK kvs) ∧ DicR (WayR H) kvs ks ∧ Ptr ds shut room ks ∧
  Tree n ds ∧ ks.length ≤ 1000 ∧ a ∈ ks.map Prod.fst ∧ ∀ (H' : Hp) (q : Addr) (tr : List Mv), Same H H' → H q = none → TrisAt H' q tr → Trl ds a tr room → (tr.map Prod.fst).Nodup → (∀ m ∈ tr, m.1 ∉ shut) → tr.length ≤ 1000 → Q (.ref q) H'
def spSt (K : PySem.W.Frag) : Sp := fun vs H Q _ => ∃ (a s : Addr) (ds : List (Nat × Nat)) (n : Nat) (S : S2), vs = [.ref a, .ref s] ∧ HouseAt K H a ds ∧ Tree n ds ∧ n ≤ 1000 ∧ StateAt K H s S ∧ StOk n ds S ∧ ∀ H', Same H H' → Q .non H'
def spShape (K : PySem.W.Frag) : Sp := fun vs H Q _ => ∃ (a s : Addr) (ds : List (Nat × Nat)) (n : Nat) (S : S2), vs = [.ref a, .ref s] ∧ HouseAt K H a ds ∧ StateAt K H s S ∧ StOk n ds S ∧ Q (.bl true) H
def spPerson (K : PySem.W.Frag) : Sp := fun vs H Q _ => ∃ (s : Addr) (p n : Nat) (ds : List (Nat × Nat)) (S : S2), vs = [.ref s, .int (p : Int)] ∧ StateAt K H s S ∧ StOk n ds S ∧ p < S.1.length ∧ Q .non H
def spBarring (K : PySem.W.Frag) : Sp := fun vs H Q _ => ∃ (s : Addr) (p n : Nat) (ds : List (Nat × Nat)) (S : S2), vs = [.ref s, .int (p : Int)] ∧ StateAt K H s S ∧ StOk n ds S ∧ n ≤ 1000 ∧ ds.length < n ∧ ∀ (H' : Hp) (q : Addr), Same H H' → H q = none → H' q = some (.lst (nv (barr S p))) → Q (.ref q) H'
def spRegWays (K : PySem.W.Frag) : Sp := fun vs H Q _ => ∃ (a s : Addr) (p n : Nat) (ds : List (Nat × Nat)) (S : S2), vs = [.ref a, .ref s, .int (p : Int)] ∧ HouseAt K H a ds ∧ Tree n ds ∧ n ≤ 1000 ∧ StateAt K H s S ∧ StOk n ds S ∧ p < S.1.length ∧
  ∀ (H' : Hp) (q : Addr) (kvs : List (Key × V)) (ks : List (Nat × Option (Nat × Nat))), Same H H' → H q = none → H' q = some (.dK kvs) → DicR (WayR H') kvs ks → Reg n ds (barr S p) (S.1.getD p 0) ks → Q (.ref q) H'
def spRegion (K : PySem.W.Frag) : Sp := fun vs H Q _ => ∃ (a s : Addr) (p n : Nat) (ds : List (Nat × Nat)) (S : S2), vs = [.ref a, .ref s, .int (p : Int)] ∧ HouseAt K H a ds ∧ Tree n ds ∧ n ≤ 60 ∧ StateAt K H s S ∧ StOk n ds S ∧ p < S.1.length ∧
  ∀ (H' : Hp) (q : Addr) (L : List Nat) (ks : List (Nat × Option (Nat × Nat))), Same H H' → H q = none → H' q = some (.lst (nv L)) → Reg n ds (barr S p) (S.1.getD p 0) ks → L.Perm (ks.map Prod.fst) → L.Pairwise (· ≤ ·) → Q (.ref q) H'
/-- walk_to: None where the room lies outside, else the steps of the way there -/
def spWalkTo (K : PySem.W.Frag) : Sp := fun vs H Q _ => ∃ (a s : Addr) (p x n : Nat) (ds : List (Nat × Nat)) (S : S2), vs = [.ref a, .ref s, .int (p : Int), .int (x : Int)] ∧ HouseAt K H a ds ∧ Tree n ds ∧ n ≤ 1000 ∧ StateAt K H s S ∧ StOk n ds S ∧ p < S.1.length ∧ x < n ∧
  (∀ (H' : Hp) (ks : List (Nat × Option (Nat × Nat))), Same H H' → Reg n ds (barr S p) x ks → S.1.getD p 0 ∉ ks.map Prod.fst → Q .non H') ∧
  (∀ (H' : Hp) (q : Addr) (tr : List Mv), Same H H' → H q = none → TrisAt H' q (tr.map fun m => (p, m.2.1, m.2.2)) → Trl ds (S.1.getD p 0) tr x → (tr.map Prod.fst).Nodup → (∀ m ∈ tr, m.1 ∉ barr S p) → tr.length ≤ 1000 → Q (.ref q) H')
section
variable {P : Program} {w : World} {K : PySem.W.Frag}
      {mg : Str → Option Value} {base : Heap}
theorem ok_has_state_shape (T : Bl mg) (D : Def K mg "has_state_shape" s_has_state_shape) : Cal P w K mg base "has_state_shape" ["house", "value"] 1 (spShape K) := by
  refine D.ok sc_has_state_shape (fun _ _ _ _ _ _ us hl => match us, hl with | [_, _], _ => rfl) (fun vs H Q E h => ?_) (fun f cdv A outer s H vs Q E hr h => ?_)
  · obtain ⟨a, s, ds, n, S, rfl, _⟩ := h
    rfl
  obtain ⟨a, s, ds, n, S, rfl, ⟨rs, hrs, hlen, hds⟩, ⟨r, b, h1, h2, h3⟩, ok, q⟩ := h
  refine ⟨_, (pss_cons (ps_if (PW.pt (pw_or (pt_not (pt_val (pe_callB call_isi (by rfl) T.isinstance (by decide +kernel) (pa_cons (pv 1) (pa_cons (pe_bltn (v := .ty "tuple") (u := .type "tuple") (by rfl) T.tuple (by decide +kernel) rfl) pa_nil))))) (pw_or1 (pt_cmpR op_ne (pe_callB call_len_seq (by rfl) T.len PySem.boot_len (pa_cons (pv 1) pa_nil)) pe_int (nomark _))))) (pss_one (ps_ret pe_bl)) pss_nil)
    (pss_cons (ps_asg (pv 1) (pg_tup (n := 2) rfl (pgs_cons (pg_name (i := 2) sc_has_state_shape.nd rfl (.inl rfl)) (pgs_cons (pg_name (i := 3) sc_has_state_shape.nd rfl (.inl rfl)) pgs_nil))))
    (pss_cons (ps_if (PW.pt (pw_or (pt_not (pt_val (pe_callB call_isi (by rfl) T.isinstance (by decide +kernel) (pa_cons (pv 2) (pa_cons (pe_bltn (v := .ty "tuple") (u := .type "tuple") (by rfl) T.tuple (by decide +kernel) rfl) pa_nil))))) (pw_or1 (pt_not (pt_val (pe_callB call_isi (by rfl) T.isinstance (by decide +kernel) (pa_cons (pv 3) (pa_cons (pe_bltn (v := .ty "tuple") (u := .type "tuple") (by rfl) T.tuple (by decide +kernel) rfl) pa_nil)))))))) (pss_one (ps_ret pe_bl)) pss_nil)
    (pss_one (ps_ret (pe_and (pe_cmpR op_ge (pe_callB call_len_seq (by rfl) T.len PySem.boot_len (pa_cons (pv 2) pa_nil)) pe_int (nomark _)) (pe_one (pe_cmpR op_eq (pe_callB call_len_seq (by rfl) T.len PySem.boot_len (pa_cons (pv 3) pa_nil)) (pe_callB call_len_seq (by rfl) T.len PySem.boot_len (pa_cons (pv 0) pa_nil)) (nomark _))))))))), ?_⟩
  refine ⟨_, rfl, _, _, _, _, _, rfl, .ty _, ty_tup h1, kit_ty (r := true) (by decide +kernel), _, rfl, iteF ?_⟩
  refine ⟨_, rfl, _, _, rfl, .inr h1, rfl, _, rfl, iteF ?_⟩
  refine ⟨_, rfl, _, _, rfl, h1, rfl, _, _, rfl, _, _, rfl, rfl, ?_⟩
  refine ⟨_, rfl, _, _, _, _, _, rfl, .ty _, ty_tup h2, kit_ty (r := true) (by decide +kernel), _, rfl, iteF ?_⟩
  refine ⟨_, rfl, _, _, _, _, _, rfl, .ty _, ty_tup h3, kit_ty (r := true) (by decide +kernel), _, rfl, iteF ?_⟩
  have o1 := ok.one
  refine ⟨_, rfl, _, _, rfl, .inr h2, _, _, rfl, rfl, _, rfl, ?_⟩
  rw [decide_eq_true (show (1 : Int) ≤ ((nv S.1).length : Nat) by rw [nv_len]; omega)]
  refine iteT ⟨_, rfl, _, _, rfl, .inr h3, _, rfl, _, _, rfl, .inr hrs, rfl, ?_⟩
  rw [decide_eq_true (show V.int ((nv S.2).length : Nat) = V.int ((rs.map V.ref).length : Nat) by rw [nv_len, List.length_map, hlen, ok.doors])]
  exact q
theorem ok_check_state (T : Bl mg) (D : Def K mg "check_state" s_check_state) (C_need_house : Cal P w K mg base "need_house" ["house"] 5 (spRing K)) (C_has_state_shape : Cal P w K mg base "has_state_shape" ["house", "value"] 1 (spShape K))
    (C_is_index : Cal P w K mg base "is_index" ["value", "count"] 2 spIndex) : Cal P w K mg base "check_state" ["house", "value"] 6 (spSt K) := by
  refine D.ok sc_check_state (fun _ _ _ _ _ _ us hl => match us, hl with | [_, _], _ => rfl) (fun vs H Q E h => ?_) (fun f cdv A outer s H vs Q E hr h => ?_)
  · obtain ⟨a, s, ds, n, S, rfl, _⟩ := h
    rfl
  obtain ⟨a, s, ds, n, S, rfl, hH, tree, hn, st, ok, q⟩ := h
  obtain ⟨rs, hrs, hlen, hds⟩ := id hH
  obtain ⟨r, b, h1, h2, h3⟩ := id st
  have hdn := tree.len
  obtain ⟨f_need_house, fd_need_house, g_need_house, k_need_house, b_need_house, G_need_house⟩ := C_need_house
  obtain ⟨f_has_state_shape, fd_has_state_shape, g_has_state_shape, k_has_state_shape, b_has_state_shape, G_has_state_shape⟩ := C_has_state_shape
  obtain ⟨f_is_index, fd_is_index, g_is_index, k_is_index, b_is_index, G_is_index⟩ := C_is_index
  refine ⟨_, (pss_cons (ps_expr (pe_call G_need_house (hr.mono (by decide)) (by rfl) g_need_house k_need_house b_need_house .nil pass0 (pa_cons (pv 0) pa_nil)))
    (pss_cons (ps_if (pt_not (pt_val (pe_call G_has_state_shape (hr.mono (by decide)) (by rfl) g_has_state_shape k_has_state_shape b_has_state_shape .nil pass0 (pa_cons (pv 0) (pa_cons (pv 1) pa_nil))))) (pss_one (ps_ret (pe_tup (pa_cons pe_str pa_nil)))) pss_nil)
    (pss_cons (ps_asg (pv 1) (pg_tup (n := 2) rfl (pgs_cons (pg_name (i := 2) sc_check_state.nd rfl (.inl rfl)) (pgs_cons (pg_name (i := 3) sc_check_state.nd rfl (.inl rfl)) pgs_nil))))
    (pss_cons (ps_for PassesOwn.never rfl (pi_enumT (by rfl) T.enumerate (pa_cons (pv 2) pa_nil)) (pg_tup (n := 2) rfl (pgs_cons (pg_name (i := 4) sc_check_state.nd rfl (.inl rfl)) (pgs_cons (pg_name (i := 5) sc_check_state.nd rfl (.inl rfl)) pgs_nil)))
    (pss_one (ps_if (pt_not (pt_val (pe_call G_is_index (hr.mono (by decide)) (by rfl) g_is_index k_is_index b_is_index .nil pass0 (pa_cons (pv 5) (pa_cons (pe_op op_add (pe_callB call_len_seq (by rfl) T.len PySem.boot_len (pa_cons (pv 0) pa_nil)) pe_int) pa_nil))))) (pss_one (ps_ret (pe_tup (pa_cons pe_str (pa_cons (pv 4) pa_nil))))) pss_nil)))
    (pss_cons (ps_for PassesOwn.never rfl (pi_enumT (by rfl) T.enumerate (pa_cons (pv 3) pa_nil)) (pg_tup (n := 2) rfl (pgs_cons (pg_name (i := 6) sc_check_state.nd rfl (.inl rfl)) (pgs_cons (pg_name (i := 4) sc_check_state.nd rfl (.inl rfl)) pgs_nil)))
    (pss_one (ps_if (pt_not (pt_val (pe_call G_is_index (hr.mono (by decide)) (by rfl) g_is_index k_is_index b_is_index .nil pass0 (pa_cons (pv 4) (pa_cons (pe_callB call_len_seq (by rfl) T.len PySem.boot_len (pa_cons (pv 2) pa_nil)) pa_nil))))) (pss_one (ps_ret (pe_tup (pa_cons pe_str (pa_cons (pv 6) pa_nil))))) pss_nil)))
    (pss_one (ps_ret pe_non))))))), ?_⟩
  refine ⟨_, rfl, a, ds, n, rfl, hH, tree, hn, fun H1 s1 => ?_⟩
  refine ⟨_, rfl, _, rfl, a, s, ds, n, S, rfl, hH.same s1, st.same s1, ok, _, rfl, iteF ?_⟩
  refine ⟨_, rfl, _, _, rfl, s1.tup h1, rfl, _, _, rfl, _, _, rfl, rfl, ?_⟩
  refine ⟨_, rfl, r, _, rfl, s1.tup h2, ?_⟩
  refine for_it (walk_enumT (K := K) (a := r) (xs := nv S.1)) (fun k σ H2 => ∃ y4 y5 y6, σ = [some (.ref a), some (.ref s), some (.ref r), some (.ref b), y4, y5, y6] ∧ Same H H2)
    ⟨_, _, _, rfl, s1⟩ (fun i σ H2 _ ⟨_, _, _, _, sm⟩ => sm.tup h2) ?_ ?_
  · rintro k x σ H2 H3 hk ⟨y4, y5, y6, rfl, sm⟩ ⟨t, x1, x2, rfl, nt, rfl, ex1, ex2⟩
    cases ex1
    obtain ⟨v, hv, rfl⟩ := nv_some ex2
    have sm3 := sm.trans (Same.upd (o := .tup [.int (k : Nat), .int (v : Int)]) nt)
    have lv := ok.rooms v (List.mem_of_getElem? hv)
    refine ⟨t, _, rfl, SqT.of upd_same, rfl, _, _, rfl, _, _, rfl, rfl, ?_⟩
    refine ⟨_, rfl, _, rfl, _, _, rfl, .inr (sm3.tup hrs), _, _, rfl, rfl, _, _, rfl, _, rfl, ?_⟩
    rw [decide_eq_true (by rw [List.length_map, hlen]; omega)]
    exact iteF ⟨_, _, _, rfl, sm3⟩
  · rintro σ H2 ⟨y4, y5, y6, rfl, sm⟩
    refine ⟨_, rfl, b, _, rfl, sm.tup h3, ?_⟩
    refine for_it (walk_enumT (K := K) (a := b) (xs := nv S.2)) (fun k σ H2 => ∃ y4 y5 y6, σ = [some (.ref a), some (.ref s), some (.ref r), some (.ref b), y4, y5, y6] ∧ Same H H2)
      ⟨_, _, _, rfl, sm⟩ (fun i σ H2 _ ⟨_, _, _, _, sm⟩ => sm.tup h3) ?_ ?_
    · rintro k x σ H2 H3 hk ⟨y4, y5, y6, rfl, sm⟩ ⟨t, x1, x2, rfl, nt, rfl, ex1, ex2⟩
      cases ex1
      obtain ⟨v, hv, rfl⟩ := nv_some ex2
      have sm3 := sm.trans (Same.upd (o := .tup [.int (k : Nat), .int (v : Int)]) nt)
      have lv := ok.bars v (List.mem_of_getElem? hv)
      refine ⟨t, _, rfl, SqT.of upd_same, rfl, _, _, rfl, _, _, rfl, rfl, ?_⟩
      refine ⟨_, rfl, _, rfl, _, _, rfl, .inr (sm3.tup h2), _, _, rfl, _, rfl, ?_⟩
      rw [decide_eq_true (by rw [nv_len]; omega)]
      exact iteF ⟨_, _, _, rfl, sm3⟩
    · rintro σ H2 ⟨y4, y5, y6, rfl, sm⟩
      exact q H2 sm
theorem ok_need_state (T : Bl mg) (D : Def K mg "need_state" s_need_state) (C_check_state : Cal P w K mg base "check_state" ["house", "value"] 6 (spSt K)) : Cal P w K mg base "need_state" ["house", "state"] 7 (spSt K) := by
  refine D.ok sc_need_state (fun _ _ _ _ _ _ us hl => match us, hl with | [_, _], _ => rfl) (fun vs H Q E h => ?_) (fun f cdv A outer s H vs Q E hr h => ?_)
  · obtain ⟨a, s, ds, n, S, rfl, _⟩ := h
    rfl
  obtain ⟨a, s, ds, n, S, rfl, hH, tree, hn, st, ok, q⟩ := h
  obtain ⟨f_check_state, fd_check_state, g_check_state, k_check_state, b_check_state, G_check_state⟩ := C_check_state
  refine ⟨_, (pss_cons (ps_set (i := 2) sc_need_state.nd rfl (.inl rfl) (pe_call G_check_state (hr.mono (by decide)) (by rfl) g_check_state k_check_state b_check_state .nil pass0 (pa_cons (pv 0) (pa_cons (pv 1) pa_nil))))
    (pss_one (ps_if (pt_cmpR op_notN (pv 2) pe_non (nomark _)) pss_never pss_nil))), ?_⟩
  refine ⟨_, rfl, _, rfl, a, s, ds, n, S, rfl, hH, tree, hn, st, ok, fun H2 sm2 => ⟨_, rfl, rfl, _, rfl, iteF ?_⟩⟩
  exact q H2 sm2
theorem ok_doors_barring (T : Bl mg) (D : Def K mg "doors_barring" s_doors_barring) : Cal P w K mg base "doors_barring" ["state", "person"] 1 (spBarring K) := by
  refine D.ok sc_doors_barring (fun _ _ _ _ _ _ us hl => match us, hl with | [_, _], _ => rfl) (fun vs H Q E h => ?_) (fun f cdv A outer s H vs Q E hr h => ?_)
  · obtain ⟨s, p, n, ds, S, rfl, _⟩ := h
    rfl
  obtain ⟨s, p, n, ds, S, rfl, ⟨r, b, h1, h2, h3⟩, ok, hn, hdn, q⟩ := h
  refine ⟨_, (pss_one (ps_ret (pe_lc (own := [("door", 2), ("who", 3)]) (g := gTup K 2 (gCons (gName 2) (gCons (gName 3) gNil)))  rfl sc_doors_barring.nd (pi_enumT (by rfl) T.enumerate (pa_cons (pe_ix ix_tup (pv 0) pe_int (fun _ _ => rfl)) pa_nil)) (blkOk_by (N := N_doors_barring) (sc := defScope s_doors_barring) (own := [("door", 2), ("who", 3)]) (by decide +kernel)) (fun _ _ _ _ _ => (pg_tup (n := 2) rfl (pgs_cons (pg_name (i := 2) sc_doors_barring.nd rfl (.inl rfl) (.inr rfl)) (pgs_cons (pg_name (i := 3) sc_doors_barring.nd rfl (.inl rfl) (.inr rfl)) pgs_nil)))) (fun _ _ _ _ _ => (pts_one (pt_cmpR op_eq (pv 3) (pv 1) (nomark _)))) (fun _ _ _ _ _ => (pv 2))))), ?_⟩
  refine ⟨_, rfl, s, _, _, _, rfl, rfl, h1, atI_nat (j := 1) rfl, b, _, rfl, h3, fun pd npd => ?_⟩
  have hdl := ok.doors
  refine lc_it (walk_enumT (K := K) (a := b) (xs := nv S.2)) (fun i H2 => Same H H2 ∧ H2 pd = some (.lst (nv ((List.range i).filter fun d => decide (S.2[d]? = some p))))) ⟨Same.upd npd, upd_same⟩ (fun i H2 _ h => h.1.tup h3) ?_ ?_
  · rintro i x H2 H3 hi ⟨sm, hp⟩ ⟨t, x1, x2, rfl, nt, rfl, ex1, ex2⟩
    cases ex1
    obtain ⟨v, hv, rfl⟩ := nv_some ex2
    have st : Same H2 (upd H2 t (.tup [.int (i : Nat), .int (v : Int)])) := Same.upd nt
    have hp4 := st _ _ hp
    have il := get_lt hv
    refine ⟨t, _, rfl, SqT.of upd_same, rfl, _, _, rfl, _, _, rfl, rfl, rfl, ?_⟩
    refine ⟨_, rfl, _, rfl, rfl, _, rfl, ?_⟩
    by_cases c : v = p
    · rw [decide_eq_true (show V.int (v : Int) = V.int (p : Int) by rw [c])]
      refine iteT ⟨_, rfl, _, hp4, ?_, (sm.trans st).at npd, ?_⟩
      · rw [nv_len]
        have h1 := List.length_filter_le (fun d => decide (S.2[d]? = some p)) (List.range i)
        rw [List.length_range] at h1
        exact small1000 (by omega)
      · have e1 : [i].filter (fun d => decide (S.2[d]? = some p)) = [i] := by simp [hv, c]
        rw [upd_same, List.range_succ, List.filter_append, e1, nv_snoc]
    · rw [decide_eq_false (show ¬ V.int (v : Int) = V.int (p : Int) from fun z => c (by have := V.int.inj z; omega))]
      refine iteF ⟨sm.trans st, ?_⟩
      have e1 : [i].filter (fun d => decide (S.2[d]? = some p)) = [] := by simp [hv, c]
      rw [hp4, List.range_succ, List.filter_append, e1, List.append_nil]
  · rintro H2 ⟨sm, hp⟩
    rw [nv_len] at hp
    exact q H2 pd sm npd hp
theorem ok_region_ways (T : Bl mg) (D : Def K mg "region_ways" s_region_ways) (C_ways_from : Cal P w K mg base "ways_from" ["house", "room", "shut"] 2 (spWays K)) (C_doors_barring : Cal P w K mg base "doors_barring" ["state", "person"] 1 (spBarring K)) : Cal P w K mg base "region_ways" ["house", "state", "person"] 3 (spRegWays K) := by
  refine D.ok sc_region_ways (fun _ _ _ _ _ _ us hl => match us, hl with | [_, _, _], _ => rfl) (fun vs H Q E h => ?_) (fun f cdv A outer s H vs Q E hr h => ?_)
  · obtain ⟨a, s, p, n, ds, S, rfl, _⟩ := h
    rfl
  obtain ⟨a, s, p, n, ds, S, rfl, hH, tree, hn, st, ok, hp, q⟩ := h
  obtain ⟨r, b, h1, h2, h3⟩ := id st
  have hdn := tree.len
  obtain ⟨f_ways_from, fd_ways_from, g_ways_from, k_ways_from, b_ways_from, G_ways_from⟩ := C_ways_from
  obtain ⟨f_doors_barring, fd_doors_barring, g_doors_barring, k_doors_barring, b_doors_barring, G_doors_barring⟩ := C_doors_barring
  refine ⟨_, (pss_one (ps_ret (pe_call G_ways_from (hr.mono (by decide)) (by rfl) g_ways_from k_ways_from b_ways_from .nil pass0 (pa_cons (pv 0) (pa_cons (pe_ix ix_tup (pe_ix ix_tup (pv 1) pe_int (fun _ _ => rfl)) (pv 2) (fun _ _ => rfl)) (pa_cons (pe_call G_doors_barring (hr.mono (by decide)) (by rfl) g_doors_barring k_doors_barring b_doors_barring .nil pass0 (pa_cons (pv 1) (pa_cons (pv 2) pa_nil))) pa_nil)))))), ?_⟩
  obtain ⟨v, hv⟩ : ∃ v, S.1[p]? = some v := get_of rfl hp
  have lv := ok.rooms v (List.mem_of_getElem? hv)
  refine ⟨_, rfl, _, rfl, s, _, _, _, rfl, rfl, h1, atI_nat (j := 0) rfl, _, rfl, r, _, _, _, rfl, rfl, h2, nv_at hv, ?_⟩
  refine ⟨_, rfl, _, rfl, s, p, n, ds, S, rfl, st, ok, hn, by omega, fun H1 sh s1 nsh hsh => ?_⟩
  have bl := barr_len (S := S) (p := p)
  rw [ok.doors] at bl
  refine ⟨a, sh, ds, n, v, barr S p, rfl, hH.same s1, tree, hn, lv, SqL.of hsh, by omega, fun H2 q2 kvs ks s2 nq2 hq2 r2 df pt hrm => ?_⟩
  refine q H2 q2 kvs ks (s1.trans s2) (s1.free nq2) hq2 r2 ?_
  rw [getD_of hv]
  exact ⟨df, pt, hrm⟩
end
end K5

namespace L2
open PySem PySem.Spec PyProof.Rows
/-! own rule: list(o.values()), values of any kind -/
theorem vals_by_at : ∀ (xs : List V) (us : List Value), us.length = xs.length → (∀ (i : Nat) (x : V) (u : Value), xs[i]? = some x → us[i]? = some u → RelV x u) → Vals xs us
  | [], [], _, _ => .nil
  | [], _ :: _, h, _ => by simp at h
  | _ :: _, [], h, _ => by simp at h
  | x :: xs, u :: us, h, hr => .cons (hr 0 x u rfl rfl) (vals_by_at xs us (by simpa using h) fun i x' u' a b => hr (i + 1) x' u' a b)
def tListVals (td : TE) : TE := fun σ H Q => td σ H fun x H1 => ∃ a kvs, x = V.ref a ∧ H1 a = some (.dK kvs) ∧ ∀ p, H1 p = none → Q (.ref p) (upd H1 p (.lst (kvs.map fun kv => kv.2)))
section
variable {X : Cx} {o : Expr} {p pos apos mpos : Pos} {td : TE}
theorem pe_listVals (hc : X.calm = true) (hg : Gl X "list") (hm : X.mg "list" = none) (hd : PE X o td) (hbase : attributeBase o "values" X.env (eval o X.env) = eval o X.env := by rfl) (hline : (apos.endLine == mpos.line) = true := by rfl)
    (hse : starEach [Expr.Call (.Attribute o "values" apos) [] [] mpos] X.env = [(false,
          eval (Expr.Call (.Attribute o "values" apos) [] [] mpos) X.env)] := by rfl) :
    PE X (.Call (.Name "list" p) [.Call (.Attribute o "values" apos) [] [] mpos] [] pos) (tListVals td) := by
  refine ⟨fun pins s σ H Q I h => ?_⟩
  refine wpAny_Call_Name_kw (ld_blt I hg hm (u := .type "list") (by first | rfl | decide +kernel) ?_ (by first | decide +kernel | decide) (by first | decide +kernel | decide))
  rw [hse]
  refine PySem.callWith_type1 (wpAny_Call_method0_late hbase hline (thn (hd.run pins s σ H _ I h) fun v s1 ⟨x, H1, I1, r1, a, kvs, ex, ha, q⟩ => ?_))
  subst ex
  obtain rfl : v = Value.ref a := r1
  obtain ⟨z, hsys, vs, rel, dof⟩ := dk_of I1.hok ha
  obtain ⟨ep, dat⟩ := dof.dictAt
  have dat' := dat
  obtain ⟨ob, es, ho, ex, hdat,
        hko, hpr, hnd⟩ := dat'
  refine ⟨"dict", "dict.values", PySem.F.plainAttrs_dict, PySem.F.slot_dict_values, PySem.F.type_dict_values, ⟨ob, ho, ex.1⟩, fun b e => ?_, Calls.callWith_builtin rfl (PySem.evalArgs_none ?_)⟩
  · cases e
    exact ⟨ob, ho, ex.2.1⟩
  refine call_meetsIn PySem.F.slot_dict_values ⟨ob, ho, ex.1⟩ PySem.F.entry_dict_values (PySem.F.args_dict_values_1 _) (meets_dict_values (mixKind X.prog X.w) a hsys) ⟨⟨vs, dof⟩, ?_⟩
  have k1 : ∀ b u, s1.heap.get? b = some u →
      (s1.heap.push { cls := .type "dict_values", data := .fields #[.ref a] }).get? b = some u :=
    fun b u e => Heap.get?_push_of_some _ e
  have dat1 :
      (s1.heap.push { cls := .type "dict_values", data := .fields #[.ref a] }).DictAt (mixKind X.prog X.w) a vs ep :=
    dat.keep k1
  have hlv : vs.length = kvs.length := (KV.length rel).symm
  refine PySem.W.kdl_call (PySem.W.kdl_values (knd := mixKind X.prog X.w) (d := a) (r := s1.heap.objs.size) (kvs := vs) (ep := ep)) (I.ok.hd hc) ⟨⟨_, Heap.get?_push_size _ rfl, rfl, rfl⟩, dat1⟩ (by rw [hlv]; exact z) fun h' tk acc c' hk hD hacc => ?_
  have I2 := I1.kept (t' := s1.toks) k1
  have hv : Vals (kvs.map fun kv => kv.2) acc.toList := vals_by_at _ _ (by rw [Array.length_toList, List.length_map, ← hlv]; exact hacc.1) fun i x u e1 e2 => by
    obtain ⟨k, hk2⟩ := hacc.2 i u (by rw [← Array.getElem?_toList]; exact e2)
    obtain ⟨y, h1, h2⟩ := KV.at' rel hk2
    rw [List.getElem?_map, h1] at e1
    cases e1
    exact h2
  refine ⟨.ref _, upd H1 _ (.lst (kvs.map fun kv => kv.2)), I2.laid (t' := tk) hk (Nat.le_refl _) ⟨by rw [List.length_map]; exact z, acc.toList, c', hv, by rw [Array.toArray_toList]; exact hD⟩, rfl, q _ (I2.hok.fresh (Nat.le_refl _))⟩
end
end L2

namespace L2
open PySem PySem.Spec PyProof.Rows
/-! own rules: min(t) of a tuple of whole numbers; sorted(set(l)) of a list of whole numbers -/
def rMinT (K : PySem.W.Frag) : List V → Hp → VK → Prop := fun vs H Q => ∃ (a : Addr) (ns : List Int), vs = [V.ref a] ∧ SqT K H a (ns.map V.int) ∧ 0 < ns.length ∧ ∀ m, m ∈ ns → (∀ y, y ∈ ns → m ≤ y) → Q (.int m) H
section
variable {P : Program} {w : World} {A : Around}
      {E : Value → Shared → Prop} {s : Shared}
theorem least_tup {Q : Value → Shared → Prop} {l : Addr} {its : List Value} {ns : List Int} (hh : A.handled = none) (hl : s.heap.IsTuple l its.toArray) (hi : IntsAre its ns) (hne : 0 < ns.length)
    (h : ∀ h' tk M t', (∀ b o, s.heap.get? b = some o → h'.get? b = some o) → M ∈ ns → (∀ a, a ∈ ns → M ≤ a) → Q (.int M t') { s with heap := h', toks := tk }) : wpAny (model P w) A (call (.builtin "min") [.ref l]) Q E s := by
  have lt : l < s.heap.objs.size := by
    obtain ⟨o, e, _⟩ := hl
    exact Heap.lt_size e
  obtain ⟨xs, e⟩ := hi.allInts.items
  have nn : (xs.toList.map (·.1)) = ns := by
    have h1 : numsOf (intItems xs).toList = ns := by
      rw [← e]
      exact hi.numsOf
    rw [nums_intItems] at h1
    exact h1
  rw [e] at hl
  have pos : 0 < xs.size := by rw [← nn] at hne; simpa using hne
  refine call_min_walk (wpAny_pyIter_tuple hl ⟨_, _, _, _, _, _, _, rfl, Walks.tuple (A := A.in1) hh _ l (Nat.ne_of_lt lt) (intItems xs), ⟨⟨_, Heap.get?_push_size _ rfl, rfl, rfl⟩, hl.push _⟩, fun b hb => ?_, by simpa [intItems] using pos,
    CmpOf.ints_lt (numAt xs) (fun _ _ => intItems_at), fun v h' tk hP hk => ?_⟩)
  · show b < (s.heap.push _).objs.size
    rw [Heap.size_push]
    rcases List.mem_cons.mp hb with rfl | hb
    · exact Nat.lt_succ_self _
    · rw [List.mem_singleton.mp hb]
      exact Nat.lt_succ_of_lt lt
  · have hv : (intItems xs)[argBest (fun i j => decide (numAt xs i < numAt xs j)) (xs.size - 1)]? = some v := by simpa [intItems] using hP
    obtain ⟨t, rfl⟩ := intItems_at hv
    obtain ⟨b1, b2⟩ := argBest_lt (numAt xs) (xs.size - 1)
    refine h h' tk _ t (fun b o eo => hk b o (fun hm => ?_) (Heap.get?_push_of_some _ eo)) ?_ fun a ha => ?_
    · rw [List.mem_singleton] at hm
      exact absurd (hm ▸ Heap.lt_size eo) (Nat.lt_irrefl _)
    · rw [numAt_eq, ← nn]
      exact PySem.getD_mem (by rw [List.length_map, Array.length_toList]; omega)
    · rw [← nn] at ha
      obtain ⟨j, hj, rfl⟩ := mem_getD ha
      rw [List.length_map, Array.length_toList]
            at hj
      rw [← numAt_eq]
      exact b2 j (by omega)
end
theorem cr_minT {X : Cx} (hc : X.calm = true) : CallR X (.builtin "min") (rMinT X.K) := by
  rintro pins s σ H vs us Q I r ⟨a, ns, rfl, hs, hne, q⟩
  obtain ⟨its, rv, hl, _⟩ := I.tuple hs
  rw [Vals.ref1 r]
  exact least_tup (I.ok.hd hc) hl rv.ints hne fun h' tk m t' hk h1 h2 => ⟨.int _, H, I.kept hk, ⟨_, rfl⟩, q m h1 h2⟩
end L2

namespace L2
open PySem PySem.Spec PyProof.Rows
/-- an empty set as the model lays it -/
abbrev eset (w : World) : Obj := { cls := .type "set", dict := none, data := .set #[] 0 (.fresh 0 0 (!w.params.followText "set-order")) }
section
variable {P : Program} {w : World} {A : Around}
      {E : Value → Shared → Prop} {s : Shared}
set_option maxHeartbeats 8000000 in
/-- set(l), the order of its table known -/
theorem set_of_ints {l : Addr} {items : Array Value} (ns : List Int) {Q : Value → Shared → Prop} (hh : A.handled = none) (hl : s.heap.IsList l items) (hit : IntsAre items.toList ns) (hb : ns.length + 1 < scanBound)
    (h : ∀ (h' : Heap) (tk c : Nat), SetR w h' s.heap.objs.size (fun j => decide (j ∈ ns)) c → c ≤ ns.length → (∀ b o,
          s.heap.get? b = some o → h'.get? b = some o) → Q (.ref s.heap.objs.size) { s with heap := h', toks := tk }) :
    wpAny (model P w) A (call (.type
          "set") [.ref l]) Q E s := by
  have size : items.size = ns.length := by rw [← Array.length_toList]; exact IntsAre.length hit
  obtain ⟨c0, tl0, mro⟩ := F.called_set.mro
  have made := F.called_set.made
  have subs := F.called_set.sub
  refine wpAny_call (codeAny_of_tree ?_)
  show wpAny _ _ (callAny
        (.type "set") _) _ _ _
  refine wpAny_pure ⟨Code.quiet_builtin _ (by decide +kernel),
    codeAny_builtin F.entry_type_call ?_⟩
  rw [Around.under_plain (weight_type_call_type
        "set" [.ref l] []) rfl]
  have nt := F.called_set.notType
  have cc := F.called_set.canCreate
  have tc := F.typeCall_set_1 (.ref l)
  repeat (any_goals (first
        | assumption | wp_step))

  refine codeAny_mono (code_set_led1 (.ref l) (E := E) (Q₁ := fun obj s₁ => obj = .ref s.heap.objs.size ∧ s₁ = { s with heap := s.heap.push (eset w) }) ⟨rfl, rfl⟩) fun r s₁ hr => ?_
  rcases r with e | fl
  · exact hr
  cases fl
  case ret obj =>
    obtain ⟨rfl, rfl⟩ := hr
    have at0 : (s.heap.push (eset w)).get? s.heap.objs.size = some (eset w) := Heap.get?_push_size _ rfl
    have ty0 : Shared.TypeIs { s with heap := s.heap.push (eset w) } (.ref s.heap.objs.size) "set" := ⟨_, at0, rfl⟩
    have li := F.called_set.init.lookup
    have bi := F.called_set.init.bind (.ref s.heap.objs.size)
    repeat (any_goals (first
          | assumption | wp_step))

    refine codeAny_mono (codeAny_call_builtin (R := wants (fun r s₂ => r = .none ∧ ∃ h' tk c, s₂ = { s with heap := h', toks := tk } ∧ SetR w h' s.heap.objs.size (fun j => decide (j ∈ ns)) c ∧ c ≤ ns.length ∧ (∀ b o, s.heap.get? b = some o → h'.get? b = some o)) E)
      F.called_set.init.plain F.entry_set_init (check_set_init_1 ty0 ?_)) fun r₂ s₂ hr₂ => ?_
    · have lS : l < s.heap.objs.size := by
        obtain ⟨o, e, _⟩ := hl
        exact Heap.lt_size e
      obtain ⟨⟨lc, ld, lda, lsl⟩, hol, q1, nl, q2⟩ := hl
      simp only at q1 q2
      subst q1
      subst q2
      have hol1 : (s.heap.push (eset w)).get? l = some { cls := .type "list", dict := ld, data := .seq items nl, slots := lsl } := Heap.get?_push_of_some _ hol
      have lists : (s.heap.push (eset w)).IsList l items := ⟨_, hol1, rfl, nl, rfl⟩
      have sub1 := F.sub_list_set
      have sub2 := F.sub_list_frozenset
      have nodict : (Value.type "list" == Value.type "dict") = false := by decide
      unfold Builtin.«set.__init__» noKeywords
            Builtin.Frozenset.updateFrom
      generalize hPI : pyIter = PI
      wp_walk
      subst hPI
      refine wpAny_pyIter_list lists ?_
      refine wpAny_bind (wpAny_runValue ?_)
      have none3 : A.in1.in1.in1.handled = none := by simp [hh]
      have sz1 : (s.heap.push (eset w)).objs.size = s.heap.objs.size + 1 := Heap.size_push ..
      have apart1 : l ≠ (s.heap.push (eset w)).objs.size := by
        rw [sz1]
        exact Nat.ne_of_lt (Nat.lt_succ_of_lt lS)
      have apart2 : s.heap.objs.size ∉ [(s.heap.push (eset w)).objs.size, l] := by
        rw [sz1]
        intro z
        rcases List.mem_cons.mp z with z | z
        · exact Nat.ne_of_lt (Nat.lt_succ_self _) z
        · exact Nat.ne_of_gt lS (List.mem_singleton.mp z)
      have itv : ∀ (i : Nat) (v : Value), items[i]? = some v → ∃ k t, ns[i]? = some k ∧ v = .int k t := fun i v hv => by
        have hi : i < ns.length := by
          rw [← size]
          exact (Array.getElem?_eq_some_iff.mp hv).1
        have hv2 : items.toList[i]? = some v := by
          rw [Array.getElem?_toList]
          exact hv
        obtain ⟨t, e⟩ := PyProof.Rows.IntsAre.int_at hit i v hv2
        have en : ns.getD i 0 = ns[i] := by rw [List.getD_eq_getElem?_getD, List.getElem?_eq_getElem hi]; rfl
        exact ⟨ns[i], t, List.getElem?_eq_getElem hi, by rw [e, en]⟩
      refine set_update_ints ((Walks.list none3 _ l apart1 items).toS) s.heap.objs.size apart2 ns size hb itv (items.size - 0) 0 _ (by omega) (Nat.zero_le _)
        ⟨⟨_, Heap.get?_push_size _ rfl, rfl, rfl⟩, (lists.push _)⟩ ⟨0, Nat.le_refl 0, setR_new_at (Heap.get?_push_of_some _ at0)⟩ ?_
      intro s' c' mv hc' hS'
      obtain ⟨h', g2, d', tk', os'⟩ := s'
      obtain rfl : g2 = s.gens := mv.gens
      obtain rfl : d' = s.drawn := mv.drawn
      obtain rfl : os' = s.os := mv.os
      show wpAny _ _ _ _ _ _
      refine wpAny_pure ?_
      show wpAny _ _ (ret Value.none) _ _ _
      rw [size] at hc'
      refine wpAny_pure ⟨rfl, h', tk', c',
            rfl, hS', hc', fun b o e => ?_⟩
      have lb : b < s.heap.objs.size := Heap.lt_size e
      refine mv.heap b o (fun z => ?_) (Heap.get?_push_of_some _ (Heap.get?_push_of_some _ e))
      rcases List.mem_cons.mp z with z | z
      · exact Nat.ne_of_lt lb z
      · rw [List.mem_singleton, sz1] at z
        exact Nat.ne_of_lt (Nat.lt_succ_of_lt lb) z
    · rcases r₂ with e | fl₂
      · exact hr₂
      cases fl₂
      case ret r =>
        obtain ⟨rfl, h', tk, c, rfl, k1, k2, k3⟩ := hr₂
        repeat (any_goals (first
              | assumption | wp_step))
        exact h _ _ _ k1 k2 k3
      all_goals exact hr₂.elim
  all_goals exact hr.elim
end
/-- sorted(set(l)), l whole numbers -/
def tSortedSet (K : PySem.W.Frag) (ta : TE) : TE := fun σ H Q => ta σ H fun x H1 => ∃ (l : Addr) (ns : List Int), x = V.ref l ∧ SqL K H1 l (ns.map V.int) ∧ ns.length < 64 ∧ ∀ (ms : List Int) (p : Addr), ms.Pairwise (· < ·) → (∀ k, k ∈ ms ↔ k ∈ ns) → H1 p = none → Q (.ref p) (upd H1 p (.lst (ms.map V.int)))
theorem pe_sortedSet {X : Cx} {a : Expr} {ta : TE} {p p2 q pos : Pos} (hc : X.calm = true) (gl : Gl X "sorted") (ml : X.mg "sorted" = none) (gs : Gl X "set") (ms : X.mg "set" = none) (ha : PE X a ta)
    (one : starEach [a] X.env = (false, eval a X.env) :: starEach [] X.env := by rfl) : PE X (.Call (.Name "sorted" p) [.Call (.Name "set" p2) [a] [] q] [] pos) (tSortedSet X.K ta) := by
  constructor
  intro pins s σ H Q I h
  refine Call_ (ld_blt I gl ml (u := .builtin "sorted") (by decide +kernel) (PyProof.Rows.callWith_builtin1 (PyProof.Rows.args_cons ?_ rfl) rfl rfl))
  refine Call_ (ld_blt I gs ms PyProof.Rows.boot_set (PyProof.Rows.callWith_type1 (PyProof.Rows.args_cons (thn (ha.run pins s σ H _ I h) ?_) one) one rfl))
  rintro v s1 ⟨x, H1, I1, rx, l, ns, rfl, seq, few, z⟩
  obtain rfl : v = Value.ref l := rx
  refine PyProof.Rows.args_nil ?_
  obtain ⟨its, rv, at_l, _⟩ := I1.list seq
  refine set_of_ints ns (I1.ok.hd hc) at_l.isList (intsAre_of rv) (by unfold scanBound; omega) fun h' tk c R hc' keep => ?_
  refine PyProof.Rows.args_nil ?_
  have I2 : Inv X pins σ H1 { s1 with heap := h', toks := tk } := I1.kept fun b o e => keep b o e
  refine sorted_set R (I1.ok.hd hc) (by omega) fun s' p out c2 ms2 k1 k2 k3 hp hL hi lt mem len => ?_
  have short : (ms2.map V.int).length ≤ sizeLine := by
    rw [List.length_map, len, sizeLine_eq]
    omega
  have J : Inv X pins σ (upd H1 p (.lst (ms2.map V.int))) { s1 with heap := s'.heap, gens := s'.gens, drawn := s'.drawn, toks := s'.toks } :=
    Inv.call (s := { s1 with heap := h', toks := tk }) I2 (ch := []) (Un.laid k1 hp (I2.hok.fresh hp)) (I2.hok.laid k1 hp ⟨short, out.toList, c2, vals_of_ints hi, hL⟩) (by rw [k2]; exact I2.bare) (fun _ e => nomatch e)
  have same : s' = { s1 with heap := s'.heap, gens := s'.gens, drawn := s'.drawn, toks := s'.toks } := by
    obtain ⟨_, _, _, _, _⟩ := s'
    obtain ⟨_, _, _, _, _⟩ := s1
    cases k3
    rfl
  rw [same]
  exact ⟨.ref p, _, J, rfl, z ms2 p lt (fun k => by rw [mem k, decide_eq_true_eq]) (I2.hok.fresh hp)⟩
end L2

namespace L2
open PySem PySem.Spec PyProof.Rows
/-! own rule: sorted(t) of a tuple of whole numbers -/
section
variable {P : Program} {w : World} {A : Around}
      {E : Value → Shared → Prop} {s : Shared}
theorem sorted_of_tup {l : Addr} {vs : List Value} {ns : List Int} {Q : Value → Shared → Prop} (hl : s.heap.IsTuple l vs.toArray) (hi : IntsAre vs ns) (few : ns.length < 64)
    (hQ : ∀ h' p (out : Array Value) (c : Nat) (ms : List Int), (∀ b o, s.heap.get? b = some o → h'.get? b = some o) → s.heap.get? p = none → h'.get? p = some (seqObj "list" out c) → IntsAre out.toList ms → ms.Perm ns → ms.Pairwise (· ≤ ·) → Q (.ref p) { s with heap := h' }) :
    wpAny (model P w) A (call (.builtin "sorted") [.ref l]) Q E s := by
  have len : vs.length = ns.length := IntsAre.length hi
  have f64 : vs.length < 64 := by omega
  obtain ⟨o, ho, hc, n, hd⟩ := hl
  refine Calls.call_function_entry kind_sorted plain_sorted
        entry_sorted (args_sorted1 _) ?_
  unfold Builtin.«sorted»
  refine wpAny_bind (m := checkCount
        "sorted" 1 1 _) (wpAny_pure ?_)
  refine wpAny_bind (wpAny_collect_seq l (.inr rfl) ho hc hd (fun h1 k1 => ?_) (by rw [List.size_toArray, sizeLine_eq]; omega))
  refine wpAny_bind (wpAny_newList ?_ (by rw [sizeLine_eq]; show vs.length ≤ _; omega))
  have at1 : (h1.push (seqObj "list" vs.toArray 0)).get? h1.objs.size = some (seqObj "list" vs.toArray 0) := Heap.get?_push_size _ rfl
  refine wpAny_bind (wpAny_holding (wpAny_call_entry slot_list_sort ⟨_, at1, rfl⟩ entry_list_sort (list_sort_tree at1 hi f64 fun out ms a1 a2 a3 => ⟨_, rfl, ?_⟩) (args_list_sort _)))
  obtain ⟨c, hp⟩ := sortedHeap_at (vs := vs) (out := out) at1
  have above : s.heap.get? h1.objs.size = none := by
    cases e : s.heap.get? h1.objs.size with
    | none => rfl
    | some u => exact absurd (Heap.lt_size (k1 _ _ e)) (Nat.lt_irrefl _)
  refine wpAny_pure ⟨_, rfl, hQ _ h1.objs.size out c ms (fun b u e => ?_) above hp a1 a2 a3⟩
  have e1 := k1 b u e
  have lb := Heap.lt_size e1
  rw [sortedHeap_old (Nat.ne_of_lt lb) (by rw [size_push']; exact Nat.lt_succ_of_lt lb)]
  exact Heap.get?_push_of_some _ e1
end
def rSortTup (K : PySem.W.Frag) : List V → Hp → VK → Prop := fun vs H Q => ∃ (a : Addr) (ns : List Int), vs = [V.ref a] ∧ SqT K H a (ns.map V.int) ∧ ns.length < 64 ∧ ∀ (ms : List Int) (p : Addr), ms.Perm ns → ms.Pairwise (· ≤ ·) → H p = none → Q (.ref p) (upd H p (.lst (ms.map V.int)))
theorem cr_sortTup {X : Cx} (hc : X.calm = true) : CallR X (.builtin "sorted") (rSortTup X.K) := by
  rintro pins s σ H vs us Q I r ⟨a, ns, rfl, hs, few, q⟩
  obtain ⟨its, rv, hl, _⟩ := I.tuple hs
  rw [Vals.ref1 r]
  refine sorted_of_tup hl rv.ints few fun h' p out c ms k up hp hi pm pw => ?_
  have short : (ms.map V.int).length ≤ sizeLine := by
    rw [List.length_map, pm.length_eq, sizeLine_eq]
    omega
  exact ⟨.ref p, _, I.laidN (t' := s.toks) (o := .lst (ms.map V.int)) k up (I.hok.gone up) ⟨short, out.toList, c, vals_of_ints hi, hp⟩, rfl, q ms p pm pw (I.hok.gone up)⟩
end L2

namespace L2
open PySem PySem.Spec PyProof.Rows PySem.W
/-! own rule: sorted(l) of a list of tuples of any data -/
def rSortedD (K : PySem.W.Frag) : List V → Hp → VK → Prop := fun vs H Q => ∃ (a : Addr) (xs : List V) (ds : List PyData), vs = [V.ref a] ∧ SqL K H a xs ∧ DpAll K H xs ds ∧ AllAlike ds ∧ Sortable ds ∧ (∀ d ∈ ds, d.depth ≤ 60) ∧
  ∀ p, H p = none → Q (.ref p) (upd H p (.lst (((xs.zip ds).mergeSort (dataLe false Prod.snd)).map Prod.fst)))
theorem each_zip {X : Cx} {pins : List (Addr × Obj)} {σ : St} {H : Hp} {s : Shared} (I : Inv X pins σ H s) : ∀ (xs : List V) (ds : List PyData) (us : List Value), Vals xs us → DpAll X.K H xs ds →
    EachIs (fun (v : Value) (b : V × PyData) => RelV b.1 v) us (xs.zip ds) ∧ EachIs (fun (v : Value) (b : V × PyData) => ∃ as, Reads s.heap v b.2 as) us (xs.zip ds)
  | _, _, _, .nil, .nil => ⟨.nil, .nil⟩
  | _, _, _, .cons r rs, .cons d ds => by
    obtain ⟨h1, h2⟩ := each_zip I _ _ _ rs ds
    exact ⟨.cons r h1, .cons (Dp.reads I _ _ _ d r) h2⟩
theorem vals_of_each : ∀ {us : List Value} {bs : List (V × PyData)}, EachIs (fun (v : Value) (b : V × PyData) => RelV b.1 v) us bs → Vals (bs.map Prod.fst) us
  | _, _, .nil => .nil
  | _, _, .cons h t => .cons h (vals_of_each t)
theorem DpAll.len {K : PySem.W.Frag} {H : Hp} : ∀ {xs : List V} {ds : List PyData}, DpAll K H xs ds → xs.length = ds.length
  | _, _, .nil => rfl
  | _, _, .cons _ t => by rw [List.length_cons, List.length_cons, DpAll.len t]
theorem cr_sortedD {X : Cx} (hu : X.A.units + 64 < cLine) : CallR X (.builtin "sorted") (rSortedD X.K) := by
  rintro pins s σ H vs us Q I r ⟨a, xs, ds, rfl, hs, hd, al, so, dep, q⟩
  obtain ⟨its, rv, hl, few⟩ := I.list hs
  rw [Vals.ref1 r]
  obtain ⟨e1, e2⟩ := each_zip I xs ds its rv hd
  have ms : (xs.zip ds).map Prod.snd = ds := List.map_snd_zip (by rw [hd.len]; exact Nat.le_refl _)
  have zl : (xs.zip ds).length = xs.length := by rw [List.length_zip, hd.len, Nat.min_self]
  refine sorted_data (enc := Prod.snd) hl.isList e1 e2 (by rw [ms]; exact al) (by rw [ms]; exact so) (by rw [zl]; exact few) (fun b hb => ?_) fun out lo eo => ?_
  · have := dep b.2 (by rw [← ms]; exact List.mem_map.mpr ⟨b, hb, rfl⟩)
    omega
  · obtain ⟨c, at'⟩ := PyProof.Rows.sortedAll_at s.heap its (List.toArray out)
    have v := vals_of_each eo
    have short : ((((xs.zip ds).mergeSort (dataLe false Prod.snd)).map Prod.fst)).length ≤ sizeLine := by
      rw [List.length_map, List.length_mergeSort, zl]
      exact few
    exact ⟨.ref _, _, I.laid (t' := s.toks) (o := .lst (((xs.zip ds).mergeSort (dataLe false Prod.snd)).map Prod.fst)) (fun _ _ => PyProof.Rows.sortedAll_old) (Nat.le_succ _) ⟨short, out, c, v, at'⟩, rfl, q _ (I.hok.fresh (Nat.le_succ _))⟩
end L2

namespace K5
open PySem PySem.Spec PyProof.Rows L2
/-- the key of a pair of rooms -/
def kD (x y : Nat) : List Key := [.inl (x : Int), .inl (y : Int)]
theorem kD_inj {a b x y : Nat} (h : kD a b = kD x y) : a = x ∧ b = y := by
  unfold kD at h
  have h1 := List.cons.inj h
  have h2 := List.cons.inj h1.2
  have e1 := Sum.inl.inj h1.1
  have e2 := Sum.inl.inj h2.1
  omega
/-- the dict of the doors ahead of door k -/
structure DrD (ds : List (Nat × Nat)) (k : Nat) (kvs : List (List Key × V)) : Prop where
  at_ : ∀ d x y, d < k → Joins ds d x y → valV kvs (kD x y) = some (.int (d : Int))
  len : kvs.length ≤ 2 * k
theorem put_len {κ : Type} [DecidableEq κ] (kvs : List (κ × V)) (k : κ) (v : V) : (putK kvs k v).length ≤ kvs.length + 1 := by
  unfold putK
  split
  · rw [List.length_map]; omega
  · simp
theorem DrD.step {n ds k kvs} {e : Nat × Nat} (T : Tree n ds) (h : DrD ds k kvs) (he : ds[k]? = some e) : DrD ds (k + 1) (putK (putK kvs (kD e.1 e.2) (.int (k : Int))) (kD e.2 e.1) (.int (k : Int))) := by
  have j : Joins ds k e.1 e.2 := .inl he
  refine ⟨fun d x y hd jd => ?_, ?_⟩
  · rw [valV_put, valV_put]
    by_cases c : d = k
    · subst c
      have hc : (x = e.1 ∧ y = e.2) ∨ (x = e.2 ∧ y = e.1) := by
        rcases jd with q | q <;> rw [he] at q <;> cases q
        · exact .inl ⟨rfl, rfl⟩
        · exact .inr ⟨rfl, rfl⟩
      rcases hc with ⟨rfl, rfl⟩ | ⟨rfl, rfl⟩
      · by_cases q : kD e.1 e.2 = kD e.2 e.1
        · rw [if_pos q]
        · rw [if_neg q, if_pos rfl]
      · rw [if_pos rfl]
    · have n1 : kD x y ≠ kD e.2 e.1 := fun q => by
        obtain ⟨rfl, rfl⟩ := kD_inj q
        exact c (T.one_door jd j.symm)
      have n2 : kD x y ≠ kD e.1 e.2 := fun q => by
        obtain ⟨rfl, rfl⟩ := kD_inj q
        exact c (T.one_door jd j)
      rw [if_neg n1, if_neg n2]
      exact h.at_ d x y (by omega) jd
  · have h1 := put_len kvs (kD e.1 e.2) (.int (k : Int))
    have h2 := put_len (putK kvs (kD e.1 e.2) (.int (k : Int))) (kD e.2 e.1) (.int (k : Int))
    have := h.len
    omega
def spDoors (K : PySem.W.Frag) : Sp := fun vs H Q _ => ∃ (a : Addr) (ds : List (Nat × Nat)) (n : Nat), vs = [.ref a] ∧ HouseAt K H a ds ∧ Tree n ds ∧ n ≤ 1000 ∧
  ∀ (H' : Hp) (p : Addr) (kvs : List (List Key × V)), Same H H' → H p = none → H' p = some (.dT kvs) → DrD ds ds.length kvs → Q (.ref p) H'
/-- a plan: a list of moves, None behind them where it is bad -/
def PlanAt (H : Hp) (pl : Addr) (l : List Mv) (bad : Bool) : Prop := ∃ ts : List Addr, H pl = some (.lst (ts.map V.ref ++ if bad = true then [.non] else [])) ∧ TL H ts l
theorem PlanAt.same {H H' : Hp} {pl l bad} (h : PlanAt H pl l bad) (s : Same H H') : PlanAt H' pl l bad := by
  obtain ⟨ts, h1, h2⟩ := h
  exact ⟨ts, s _ _ h1, h2.same s⟩
def spMove : Sp := fun vs H Q _ => ∃ (p : Addr) (P : Nat) (x : V) (ds : List (Nat × Nat)) (kvs : List (List Key × V)), vs = [.ref p, .int (P : Int), x] ∧ H p = some (.dT kvs) ∧ DrD ds ds.length kvs ∧
  ((x = .non ∧ Q (.bl false) H) ∨ ∃ (t : Addr) (m : Mv), x = .ref t ∧ H t = some (.tup (tI m)) ∧ VM ds P m ∧ ∀ H', Same H H' → Q (.bl true) H')
def spPeople : Sp := fun vs H Q _ => ∃ P : Nat, vs = [.int (P : Int)] ∧ 1 ≤ P ∧ Q .non H
def spPlan (K : PySem.W.Frag) : Sp := fun vs H Q _ => ∃ (a pl : Addr) (P n : Nat) (ds : List (Nat × Nat)) (l : List Mv) (bad : Bool), vs = [.ref a, .int (P : Int), .ref pl] ∧ HouseAt K H a ds ∧ Tree n ds ∧ n ≤ 1000 ∧ 1 ≤ P ∧ PlanAt H pl l bad ∧ (∀ m ∈ l, VM ds P m) ∧
  (bad = false → ∀ H', Same H H' → Q .non H') ∧ (bad = true → ∀ (H' : Hp) (t : Addr), Same H H' → H' t = some (.tup [.str "move", .int (l.length : Int)]) → Q (.ref t) H')
def spNP (K : PySem.W.Frag) : Sp := fun vs H Q _ => ∃ (a pl : Addr) (P n : Nat) (ds : List (Nat × Nat)) (l : List Mv), vs = [.ref a, .int (P : Int), .ref pl] ∧ HouseAt K H a ds ∧ Tree n ds ∧ n ≤ 1000 ∧ 1 ≤ P ∧ PlanAt H pl l false ∧ (∀ m ∈ l, VM ds P m) ∧ ∀ H', Same H H' → Q .non H'
/-- a plan that can be played, the doors given -/
def spPlayedG (K : PySem.W.Frag) : Sp := fun vs H Q _ => ∃ (pd s pl : Addr) (n : Nat) (ds : List (Nat × Nat)) (kvs : List (List Key × V)) (S S' : S2) (l : List Mv), vs = [.ref pd, .ref s, .ref pl] ∧ H pd = some (.dT kvs) ∧ DrD ds ds.length kvs ∧ Tree n ds ∧ n ≤ 1000 ∧ StateAt K H s S ∧ StOk n ds S ∧ PlanAt H pl l false ∧ (∀ m ∈ l, VM ds S.1.length m) ∧
  runs ds 0 S l = .inr S' ∧ ∀ (H' : Hp) (q : Addr), Same H H' → StateAt K H' q S' → Q (.ref q) H'
/-- a plan that can be played -/
def spPlayG (K : PySem.W.Frag) : Sp := fun vs H Q _ => ∃ (a s pl : Addr) (n : Nat) (ds : List (Nat × Nat)) (S S' : S2) (l : List Mv), vs = [.ref a, .ref s, .ref pl] ∧ HouseAt K H a ds ∧ Tree n ds ∧ n ≤ 1000 ∧ StateAt K H s S ∧ StOk n ds S ∧ PlanAt H pl l false ∧ (∀ m ∈ l, VM ds S.1.length m) ∧
  runs ds 0 S l = .inr S' ∧ ∀ (H' : Hp) (q : Addr), Same H H' → StateAt K H' q S' → Q (.ref q) H'
section
variable {P : Program} {w : World} {K : PySem.W.Frag}
      {mg : Str → Option Value} {base : Heap}
end
end K5

namespace K5
open PySem PySem.Spec PyProof.Rows L2
theorem PairsAt.but {g q : Addr} {H H' : Hp} {l} (h : PairsAt H q l) (hg : ∃ xs, H g = some (.lst xs)) (ne : q ≠ g) (s : But g H H') : PairsAt H' q l := by
  obtain ⟨xs, hx⟩ := hg
  exact h.aside hx ne s
/-- a rearranged list of the same pairs -/
theorem PairsAt.perm {H : Hp} {l : List (Nat × Nat)} {ts : List Addr} {ys : List V} (h2 : ts.length = l.length) (h3 : ∀ (i : Nat) (t : Addr) (e : Nat × Nat), ts[i]? = some t → l[i]? = some e → H t = some (.tup [.int e.1, .int e.2]))
    (p : ys.Perm (ts.map V.ref)) : ∃ (ts' : List Addr) (l' : List (Nat × Nat)), ys = ts'.map V.ref ∧ l'.Perm l ∧ ts'.length = l'.length ∧ ∀ (i : Nat) (t : Addr) (e : Nat × Nat), ts'[i]? = some t → l'[i]? = some e → H t = some (.tup [.int e.1, .int e.2]) := by
  have e1 : ts.map V.ref = (ts.zip l).map (fun z => V.ref z.1) := by
    have e : (ts.zip l).map (fun z => V.ref z.1) = ((ts.zip l).map Prod.fst).map V.ref := by rw [List.map_map]; rfl
    rw [e, List.map_fst_zip (by omega)]
  rw [e1] at p
  obtain ⟨zs, ez, pz⟩ := perm_of_map _ _ _ p
  refine ⟨zs.map Prod.fst, zs.map Prod.snd, by rw [ez, List.map_map]; rfl, ?_, by simp, fun i t e a b => ?_⟩
  · have q := pz.map Prod.snd
    rw [List.map_snd_zip (by omega)] at q
    exact q
  · rw [List.getElem?_map] at a b
    cases hz : zs[i]? with
    | none => rw [hz] at a; cases a
    | some z =>
      rw [hz] at a b
      cases a
      cases b
      have hm := pz.mem_iff.mp (List.mem_of_getElem? hz)
      obtain ⟨j, hj⟩ := List.mem_iff_getElem?.mp hm
      rw [List.getElem?_zip_eq_some] at hj
      exact h3 j _ _ hj.1 hj.2
theorem Flip.perm {fs ds : List (Nat × Nat)} (p : fs.Perm ds) : ∀ {es : List (Nat × Nat)}, Flip es fs → ∃ es', es'.Perm es ∧ Flip es' ds := by
  induction p with
  | nil => intro es h; exact ⟨es, List.Perm.refl _, h⟩
  | cons x _ ih =>
    intro es h
    cases h with
    | same h =>
      obtain ⟨e', p', f'⟩ := ih h
      exact ⟨_ :: e', p'.cons _, .same f'⟩
    | turn h =>
      obtain ⟨e', p', f'⟩ := ih h
      exact ⟨_ :: e', p'.cons _, .turn f'⟩
  | swap x y l =>
    intro es h
    cases h with
    | same h =>
      cases h with
      | same h => exact ⟨_, List.Perm.swap _ _ _, .same (.same h)⟩
      | turn h => exact ⟨_, List.Perm.swap _ _ _, .turn (.same h)⟩
    | turn h =>
      cases h with
      | same h => exact ⟨_, List.Perm.swap _ _ _, .same (.turn h)⟩
      | turn h => exact ⟨_, List.Perm.swap _ _ _, .turn (.turn h)⟩
  | trans _ _ ih1 ih2 =>
    intro es h
    obtain ⟨e1, p1, f1⟩ := ih1 h
    obtain ⟨e2, p2, f2⟩ := ih2 f1
    exact ⟨e2, p2.trans p1, f2⟩
def spHouse (K : PySem.W.Frag) : Sp := fun vs H Q _ => ∃ (g : Addr) (b n : Nat), vs = [.ref g, .int (n : Int)] ∧ GenAt H g b ∧ 0 < n ∧ n ≤ 60 ∧ b < 2 ^ 50 ∧
  ∀ (H' : Hp) (a : Addr) (ds : List (Nat × Nat)), But g H H' → GenAt H' g (b + 1000) → a ≠ g → HouseAt K H' a ds → Tree n ds → Q (.ref a) H'
section
variable {P : Program} {w : World} {K : PySem.W.Frag}
      {mg : Str → Option Value} {base : Heap}
theorem ok_random_house (T : Bl mg) (D : Def K mg "_law_random_house" s_l_random_house) (C_l_random : Cal P w K mg base "_law_random" ["_law_generator_here", "_law_bound"] 2 spRand)
    (C_l_shuffled : Cal P w K mg base "_law_shuffled" ["_law_generator_here", "_law_items"] 3 (spShuf K)) : Cal P w K mg base "_law_random_house" ["_law_generator_here", "_law_size"] 4 (spHouse K) := by
  refine D.ok sc_l_random_house (fun _ _ _ _ _ _ us hl => match us, hl with | [_, _], _ => rfl) (fun vs H Q E h => ?_) (fun f cdv A outer s H vs Q E hr h => ?_)
  · obtain ⟨g, b, n, rfl, _⟩ := h
    rfl
  obtain ⟨g, b, n, rfl, hg, hn0, hn1, hb, q⟩ := h
  obtain ⟨f_l_shuffled, fd_l_shuffled, g_l_shuffled, k_l_shuffled, b_l_shuffled, G_l_shuffled⟩ := C_l_shuffled
  obtain ⟨f_l_random, fd_l_random, g_l_random, k_l_random, b_l_random, G_l_random⟩ := C_l_random
  refine ⟨_, (pss_cons (ps_set (i := 2) sc_l_random_house.nd rfl (.inl rfl) (pe_call G_l_shuffled (hr.mono (by decide)) (by rfl) g_l_shuffled k_l_shuffled b_l_shuffled .nil pass0 (pa_cons (pv 0) (pa_cons (pe_listRg rfl (by rfl) T.list (prg_1 (by rfl) T.range (pv 1))) pa_nil))))
    (pss_cons (ps_set (i := 3) sc_l_random_house.nd rfl (.inl rfl) (pe_call G_l_random (hr.mono (by decide)) (by rfl) g_l_random k_l_random b_l_random .nil pass0 (pa_cons (pv 0) (pa_cons pe_int pa_nil))))
    (pss_cons (ps_set (i := 4) sc_l_random_house.nd rfl (.inl rfl) (pe_lst pa_nil))
    (pss_cons (ps_for PassesOwn.never rfl (pi_range2 rfl T.range (pa_cons pe_int (pa_cons (pv 1) pa_nil))) (pg_name (i := 5) sc_l_random_house.nd rfl (.inl rfl))
    (pss_cons (ps_set (i := 6) sc_l_random_house.nd rfl (.inl rfl) (pe_ix ix_list (pe_lst (pa_cons (pe_op op_sub (pv 5) pe_int) (pa_cons pe_int (pa_cons (pe_call G_l_random (hr.mono (by decide)) (by rfl) g_l_random k_l_random b_l_random .nil pass0 (pa_cons (pv 0) (pa_cons (pv 5) pa_nil))) (pa_cons (pe_call G_l_random (hr.mono (by decide)) (by rfl) g_l_random k_l_random b_l_random .nil pass0 (pa_cons (pv 0) (pa_cons (pv 5) pa_nil))) pa_nil))))) (pv 3) (fun _ _ => rfl)))
    (pss_cons (ps_set (i := 7) sc_l_random_house.nd rfl (.inl rfl) (pe_tup (pa_cons (pe_ix ix_list (pv 2) (pv 6) (fun _ _ => rfl)) (pa_cons (pe_ix ix_list (pv 2) (pv 5) (fun _ _ => rfl)) pa_nil))))
    (pss_one (ps_expr (pe_bm PySem.F.plainAttrs_list PySem.F.slot_list_append PySem.F.type_list_append mt_append (pv 4) (pa_cons (pe_stp (pv 7) (pe_op op_sub pe_int (pe_op op_mul pe_int (pe_call G_l_random (hr.mono (by decide)) (by rfl) g_l_random k_l_random b_l_random .nil pass0 (pa_cons (pv 0) (pa_cons pe_int pa_nil)))))) pa_nil)))))))
    (pss_one (ps_ret (pe_callTy call_tuple_of (by rfl) T.tuple (by decide +kernel) (pa_cons (pe_call G_l_shuffled (hr.mono (by decide)) (by rfl) g_l_shuffled k_l_shuffled b_l_shuffled .nil pass0 (pa_cons (pv 0) (pa_cons (pv 4) pa_nil))) pa_nil)))))))), ?_⟩
  have en : rgV 0 (n : Int) = nv (List.range n) := rgV_nat n
  refine ⟨_, rfl, _, rfl, _, rfl, .of_le (Int.le_refl _) (by omega) (by omega) (by omega), fun pn npn => ?_⟩
  rw [en]
  have npng : pn ≠ g := hg.ne npn
  have s1 := Same.upd (o := .lst (nv (List.range n))) npn
  have g1 := hg.same s1
  have hn1' : (upd H pn (.lst (nv (List.range n)))) pn = some (.lst (nv (List.range n))) := upd_same
  generalize upd H pn (.lst (nv (List.range n))) = H1 at s1 g1 hn1'
  refine ⟨g, pn, b, nv (List.range n), rfl, g1, SqL.of hn1', npng, by rw [nv_len, List.length_range]; omega, by omega, fun H2 ql ys bt2 g2 nql hql pm => ?_⟩
  rw [nv_len, List.length_range] at g2
  obtain ⟨L, rfl, pL⟩ := perm_of_map _ _ _ pm
  have hql : H2 ql = some (.lst (nv L)) := hql
  have hLl : L.length = n := by rw [pL.length_eq, List.length_range]
  have nqlg : ql ≠ g := fun z => by
    subst z
    obtain ⟨xs, hxs⟩ := g1.lst
    rw [hxs] at nql
    cases nql
  refine ⟨_, rfl, g, b + n, 4, rfl, g2, by decide, by decide, by omega, fun H3 kind bt3 g3 hk => ?_⟩
  refine ⟨Nat.zero_le _, fun pd npd => ?_⟩
  have hpdg := g3.ne npd
  have bt03 : But g H H3 := (s1.but.trans bt2).trans bt3
  have npd0 : H pd = none := bt03.free hpdg npd
  have nlp : ql ≠ pd := ne_of_none (bt3 _ _ nqlg hql) npd
  refine ⟨_, rfl, _, _, rfl, ⟨by omega, by omega, by omega, by omega⟩, ?_⟩
  refine for_it (walk_range (lo := 1) (n := ((n : Int) - 1).toNat)) (fun i σ H4 => ∃ es fs y5 y6 y7, σ = [some (.ref g), some (.int (n : Int)), some (.ref ql), some (.int (kind : Int)), some (.ref pd), y5, y6, y7] ∧
    But g H H4 ∧ GenAt H4 g (b + n + 1 + 3 * i) ∧ H4 ql = some (.lst (nv L)) ∧ PairsAt H4 pd fs ∧ Tr0 (1 + i) es ∧ Flip (es.map fun e => (L.getD e.1 0, L.getD e.2 0)) fs)
    ⟨[], [], _, _, _, rfl, bt03.at npd0 _, g3.same (Same.upd npd), by rw [upd_ne nlp]; exact bt3 _ _ nqlg hql, ⟨[], upd_same, rfl, fun i t e h => by simp at h⟩, Tr0.one, .nil⟩ (fun _ _ _ _ _ => trivial) ?_ ?_
  · rintro i x σ H4 H5 hi ⟨es, fs, y5, y6, y7, rfl, bt4, g4, hl4, ⟨ts, f1, f2, f3⟩, tr, fl⟩ ⟨rfl, hx⟩
    have hel := tr.len
    have flen : fs.length = i := by
      rw [← fl.len, List.length_map]
      omega
    have hi' : 1 + i < n := by omega
    have er : (1 : Int) + (i : Int) = ((1 + i : Nat) : Int) := by omega
    have hx' : x = V.int ((1 + i : Nat) : Int) := hx.trans (congrArg V.int er)
    subst hx'
    refine ⟨_, rfl, _, _, rfl, rfl, _, rfl, _, rfl, g, b + n + 1 + 3 * i, 1 + i, rfl, g4, by omega, by omega, by omega, fun H6 u1 bt6 g6 hu1 => ?_⟩
    refine ⟨_, rfl, _, rfl, g, _, 1 + i, rfl, g6, by omega, by omega, by omega, fun H7 u2 bt7 g7 hu2 => ⟨by show 4 ≤ sizeLine; decide, fun pl npl => ?_⟩⟩
    obtain ⟨o, ho, hlt⟩ : ∃ o : Nat, ([V.int (((1 + i : Nat) : Int) - 1), V.int 0, V.int (u1 : Int), V.int (u2 : Int)] : List V)[kind]? = some (.int (o : Int)) ∧ o < 1 + i := by
      match kind, hk with
      | 0, _ => exact ⟨i, congrArg (fun z => some (V.int z)) (by omega), by omega⟩
      | 1, _ => exact ⟨0, rfl, by omega⟩
      | 2, _ => exact ⟨u1, rfl, hu1⟩
      | 3, _ => exact ⟨u2, rfl, hu2⟩
    refine ⟨_, rfl, pl, _, _, _, rfl, rfl, SqL.of upd_same, atI_nat ho, ?_⟩
    have nplg : pl ≠ g := g7.ne npl
    have gl4 := g4.lst.choose_spec
    have gl6 := g6.lst.choose_spec
    have bt47 := bt6.trans bt7
    have hl7 := bt47 _ _ nqlg hl4
    have f17 := bt47 _ _ hpdg f1
    have f37 := fun i t e a b => bt47 _ _ (ne_lt gl4 (f3 i t e a b)) (f3 i t e a b)
    have s8 := Same.upd (o := .lst [V.int (((1 + i : Nat) : Int) - 1), V.int 0, V.int (u1 : Int), V.int (u2 : Int)]) npl
    have hl8 := s8 _ _ hl7
    have f18 := s8 _ _ f17
    have f38 := fun i t e a b => s8 _ _ (f37 i t e a b)
    have g8 := g7.same s8
    have bt8 := (bt4.trans bt47).trans s8.but
    generalize upd H7 pl (.lst [V.int (((1 + i : Nat) : Int) - 1), V.int 0, V.int (u1 : Int), V.int (u2 : Int)]) = H8 at s8 hl8 f18 f38 g8 bt8
    have a1 : L[o]? = some (L.getD o 0) := by
      rw [List.getD_eq_getElem?_getD, List.getElem?_eq_getElem (by omega)]
      rfl
    have a2 : L[1 + i]? = some (L.getD (1 + i) 0) := by
      rw [List.getD_eq_getElem?_getD, List.getElem?_eq_getElem (by omega)]
      rfl
    refine ⟨_, rfl, _, rfl, ql, _, _, _, rfl, rfl, SqL.of hl8, nv_at a1, _, rfl, _, rfl, ql, _, _, _, rfl, rfl, SqL.of hl8, nv_at a2, by show 2 ≤ sizeLine; decide, fun te nte => ?_⟩
    generalize hd1 : L.getD o 0 = d1 at *
    generalize hd2 : L.getD (1 + i) 0 = d2 at *
    have nteg : te ≠ g := g8.ne nte
    have sA := Same.upd (o := .tup [.int (d1 : Int), .int (d2 : Int)]) nte
    have hteA : (upd H8 te (.tup [.int (d1 : Int), .int (d2 : Int)])) te = some (.tup [.int (d1 : Int), .int (d2 : Int)]) := upd_same
    have gA := g8.same sA
    have hlA := sA _ _ hl8
    have fA := sA _ _ f18
    have f3A := fun i t e a b => sA _ _ (f38 i t e a b)
    have btA := bt8.trans sA.but
    generalize upd H8 te (.tup [.int (d1 : Int), .int (d2 : Int)]) = HA at sA hteA gA hlA fA f3A btA
    refine ⟨_, rfl, .inl ⟨rfl, _, SqL.of fA⟩, _, rfl, _, rfl, g, b + n + 1 + 3 * i + 1 + 1, 2, rfl, gA, by decide, by decide, by omega, fun HB u btB gB hu => ?_⟩
    have gAl := gA.lst.choose_spec
    have hteB := btB _ _ nteg hteA
    have hlB := btB _ _ nqlg hlA
    have fB := btB _ _ hpdg fA
    have f3B := fun i t e x y => btB _ _ (ne_lt gAl (f3A i t e x y)) (f3A i t e x y)
    have btHB := btA.trans btB
    have tr' := tr.grow o hlt
    have em : ((es ++ [(o, 1 + i)]).map fun e => (L.getD e.1 0, L.getD e.2 0)) = (es.map fun e => (L.getD e.1 0, L.getD e.2 0)) ++ [(d1, d2)] := by
      rw [List.map_append, ← hd1, ← hd2]
      rfl
    refine ⟨_, _, rfl, rfl, .inl (by decide), _, _, rfl, rfl, te, _, _, rfl, SqT.of hteB, ?_⟩
    match u, hu with
    | 0, _ =>
      refine .inl ⟨rfl, pd, _, _, rfl, rfl, fB, by rw [List.length_map, f2]; exact small1000 (by omega), ?_⟩
      refine ⟨es ++ [(o, 1 + i)], fs ++ [(d1, d2)], _, _, _, rfl, btHB.at npd0 _, (gB.at hpdg).mono (by omega), by rw [upd_ne nlp]; exact hlB, .push (ts := ts) fB f2 f3B (fun b o ne e => by rw [upd_ne ne]; exact e) upd_same (by rw [upd_ne (ne_lt fB hteB)]; exact hteB), ?_, by rw [em]; exact fl.snoc _⟩
      rw [show 1 + (i + 1) = 1 + i + 1 by omega]
      exact tr'
    | 1, _ =>
      refine .inr ⟨rfl, fun tt ntt => ⟨pd, _, _, rfl, rfl, by rw [upd_ne (ne_of_none fB ntt)]; exact fB, by rw [List.length_map, f2]; exact small1000 (by omega), ?_⟩⟩
      have nttg : tt ≠ g := gB.ne ntt
      have sC := Same.upd (o := .tup [.int (d2 : Int), .int (d1 : Int)]) ntt
      refine ⟨es ++ [(o, 1 + i)], fs ++ [(d2, d1)], _, _, _, rfl, (btHB.at (btHB.free nttg ntt) _).at npd0 _, ((gB.same sC).at hpdg).mono (by omega), by rw [upd_ne nlp]; exact sC _ _ hlB, .push (ts := ts) (sC _ _ fB) f2 (fun i t e x y => sC _ _ (f3B i t e x y)) (fun b o ne e => by rw [upd_ne ne]; exact e) upd_same (by rw [upd_ne (ne_of_none fB ntt).symm, upd_same]), ?_, by rw [em]; exact fl.snocT _ _⟩
      rw [show 1 + (i + 1) = 1 + i + 1 by omega]
      exact tr'
  · rintro σ H4 ⟨es, fs, y5, y6, y7, rfl, bt4, g4, hl4, ⟨ts, f1, f2, f3⟩, tr, fl⟩
    have e1 : 1 + ((n : Int) - 1).toNat = n := by omega
    rw [e1] at tr
    have flen : fs.length + 1 = n := by
      rw [← fl.len, List.length_map]
      exact tr.len
    refine ⟨_, rfl, _, rfl, g, pd, _, _, rfl, g4, SqL.of f1, hpdg, by rw [List.length_map, f2]; omega, by omega, fun H5 qs ys bt5 g5 nqs hqs pm2 => ?_⟩
    rw [List.length_map, f2] at g5
    have gl4 := g4.lst.choose_spec
    have f35 := fun i t e a b => bt5 _ _ (ne_lt gl4 (f3 i t e a b)) (f3 i t e a b)
    obtain ⟨ts', ds, rfl, pe, hl', pr'⟩ := PairsAt.perm f2 f35 pm2
    refine ⟨qs, _, rfl, .inl ⟨SqL.of hqs, fun pt npt => ?_⟩⟩
    have nptg : pt ≠ g := g5.ne npt
    obtain ⟨es', p', f'⟩ := Flip.perm pe.symm fl
    have bt05 := bt4.trans bt5
    exact q _ pt ds (bt05.at (bt05.free nptg npt) _) ((g5.same (Same.upd npt)).mono (by omega)) nptg ⟨ts', SqT.of upd_same, hl', fun d r e x y => SqT.of (Same.upd npt _ _ (pr' d r e x y))⟩ (((tr.nv pL).perm p').tree f')
end
end K5

namespace L2
open PySem PySem.Spec PyProof.Rows
/-- how many have been met: all, where none is met twice -/
theorem met_len (f : Nat → Int) : ∀ i, (((List.range i).map f).Nodup → (firstMet f i).length = i) ∧ (¬ ((List.range i).map f).Nodup → (firstMet f i).length < i)
  | 0 => ⟨fun _ => rfl, fun h => absurd (by simp) h⟩
  | i + 1 => by
    obtain ⟨h1, h2⟩ := met_len f i
    have le := firstMet_length_le f i
    have key : (firstMet f i).any (· == f i) = ((List.range i).map f).any (· == f i) := firstMet_any f i (f i)
    rw [firstMet_succ, List.range_succ, List.map_append]
    unfold step_dedup
    rw [key]
    by_cases c : ((List.range i).map f).any (· == f i) = true
    · rw [if_pos c]
      obtain ⟨x, hx, e⟩ := List.any_eq_true.mp c
      have e : x = f i := eq_of_beq e
      subst e
      refine ⟨fun nd => ?_, fun _ => by omega⟩
      obtain ⟨_, _, z⟩ := List.nodup_append.mp nd
      exact absurd rfl (z _ hx _ (by simp))
    · rw [if_neg c, List.length_append, List.length_singleton]
      have nm : f i ∉ (List.range i).map f := fun hx => c (List.any_eq_true.mpr ⟨f i, hx, beq_self_eq_true _⟩)
      refine ⟨fun nd => ?_, fun nd => ?_⟩
      · rw [h1 (List.nodup_append.mp nd).1]
      · have := h2 fun y => nd (List.nodup_append.mpr ⟨y, by simp, fun a ha b hb => by
          simp only [List.map_cons, List.map_nil,
                List.mem_singleton] at hb
          rintro rfl
          exact nm (hb ▸ ha)⟩)
        omega
/-- len(set(xs)), xs whole numbers -/
def tLenSetA (K : PySem.W.Frag) (ta : TE) : TE := fun σ H Q => ta σ H fun x H1 => ∃ (l : Addr) (ns : List Int), x = V.ref l ∧ SqL K H1 l (ns.map V.int) ∧ ns.length + 1 < scanBound ∧ ∀ n : Nat, (ns.Nodup → n = ns.length) → (¬ ns.Nodup → n < ns.length) → Q (.int (n : Int)) H1
theorem pe_lenSetA {X : Cx} {a : Expr} {ta : TE} {p p2 q pos : Pos} (hc : X.calm = true) (gl : Gl X "len") (ml : X.mg "len" = none) (gs : Gl X "set") (ms : X.mg "set" = none) (ha : PE X a ta)
    (one : starEach [a] X.env = (false, eval a X.env) :: starEach [] X.env := by rfl) : PE X (.Call (.Name "len" p) [.Call (.Name "set" p2) [a] [] q] [] pos) (tLenSetA X.K ta) := by
  constructor
  intro pins s σ H Q I h
  refine Call_ (ld_blt I gl ml PySem.boot_len (PyProof.Rows.callWith_builtin1 (PyProof.Rows.args_cons ?_ rfl) rfl rfl))
  refine Call_ (ld_blt I gs ms PyProof.Rows.boot_set (PyProof.Rows.callWith_type1 (PyProof.Rows.args_cons (thn (ha.run pins s σ H _ I h) ?_) one) one rfl))
  rintro v s1 ⟨x, H1, I1, rx, l, ns, rfl, seq, few, z⟩
  obtain rfl : v = Value.ref l := rx
  refine PyProof.Rows.args_nil ?_
  obtain ⟨its, rv, at_l, _⟩ := I1.list seq
  have len : its.length = ns.length := by rw [← rv.length, List.length_map]
  refine call_set_list (I1.ok.hd hc) at_l.isList (intsAre_of rv) (by rw [List.size_toArray, len]; exact few) fun h' tk made keep => ?_
  have sz : its.toArray.size = ns.length := by rw [List.size_toArray, len]
  rw [sz] at made
  have all : (List.range ns.length).map (fun i => ns.getD i 0) = ns := by
    apply List.ext_getElem?
    intro i
    rw [List.getElem?_map]
    by_cases y : i < ns.length
    · rw [List.getElem?_range y, List.getElem?_eq_getElem y]
      simp [List.getD_eq_getElem?_getD, List.getElem?_eq_getElem y]
    · rw [List.getElem?_eq_none (by simpa using Nat.le_of_not_lt y), List.getElem?_eq_none (Nat.le_of_not_lt y)]
      rfl
  obtain ⟨m1, m2⟩ := met_len (fun i => ns.getD i 0) ns.length
  rw [all] at m1 m2
  have bound := firstMet_length_le (fun i => ns.getD i 0) ns.length
  have small : scanBound ≤ 2 ^ 62 := by decide
  refine PyProof.Rows.args_nil ?_
  obtain ⟨o, es, ep, t, ho, ex, hd, _, _, _, hf, hn⟩ := made
  have I2 : Inv X pins σ H1 { s1 with heap := h', toks := tk } := I1.kept fun b o e => keep b o (Heap.lt_size e) e
  exact call_len_set ho ex hd hf (by rw [hn]; omega) ⟨.int _, H1, I2.tok _, ⟨_, by rw [hn]⟩, z _ m1 m2⟩
end L2

namespace K5
open PySem PySem.Spec PyProof.Rows L2
theorem nil_or_snoc (N : List Nat) : N = [] ∨ ∃ N' y, N = N' ++ [y] := by
  rcases List.eq_nil_or_concat N with h | ⟨N', y, h⟩
  · exact .inl h
  · exact .inr ⟨N', y, by rw [h, List.concat_eq_append]⟩
def spRState (K : PySem.W.Frag) : Sp := fun vs H Q _ => ∃ (g a : Addr) (b p n : Nat) (ds : List (Nat × Nat)), vs = [.ref g, .ref a, .int (p : Int)] ∧ GenAt H g b ∧ HouseAt K H a ds ∧ Tree n ds ∧ n ≤ 60 ∧ 1 ≤ p ∧ p ≤ 10 ∧ b < 2 ^ 59 ∧
  ∀ (H' : Hp) (s : Addr) (S : S2), But g H H' → GenAt H' g (b + 200) → StateAt K H' s S → StOk n ds S → S.1.length = p → Q (.ref s) H'
section
variable {P : Program} {w : World} {K : PySem.W.Frag}
      {mg : Str → Option Value} {base : Heap}
theorem ok_random_state (T : Bl mg) (D : Def K mg "_law_random_state" s_l_random_state) (C_l_random : Cal P w K mg base "_law_random" ["_law_generator_here", "_law_bound"] 2 spRand) : Cal P w K mg base "_law_random_state" ["_law_generator_here", "_law_layout", "_law_count"] 3 (spRState K) := by
  refine D.ok sc_l_random_state (fun _ _ _ _ _ _ us hl => match us, hl with | [_, _, _], _ => rfl) (fun vs H Q E h => ?_) (fun f cdv A outer s H vs Q E hr h => ?_)
  · obtain ⟨g, a, b, p, n, ds, rfl, _⟩ := h
    rfl
  obtain ⟨g, a, b, p, n, ds, rfl, hg, hH, tree, hn, hp1, hp4, hb, q⟩ := h
  obtain ⟨rs, hrs, hlen, hds⟩ := id hH
  have hdn := tree.len
  have hn1 : 1 ≤ n := by omega
  obtain ⟨f_l_random, fd_l_random, g_l_random, k_l_random, b_l_random, G_l_random⟩ := C_l_random
  refine ⟨_, (pss_cons (ps_set (i := 3) sc_l_random_state.nd rfl (.inr rfl) (pe_lc (own := [("_law_who", 4)]) (g := gName 4)  (te := (tCall spRand [] E0 (tCons (tVar 0) (tCons (tOp (rI0 fun i j => .int (i + j)) (tCB (fun xs H Q => ∃ p ys, xs = [V.ref p] ∧ (SqL K H p ys ∨ SqT K H p ys) ∧ Q (.int ys.length) H) (tCons (tVar 1) tNil)) (tC (.int 1))) tNil)))) rfl sc_l_random_state.nd (pi_range1 rfl T.range (pa_cons (pv 2) pa_nil)) (blkOk_by (N := N_l_random_state) (sc := defScope s_l_random_state) (own := [("_law_who", 4)]) (by decide +kernel)) (fun _ _ _ _ _ => (pg_name (i := 4) sc_l_random_state.nd rfl (.inl rfl) (.inr rfl))) (fun _ _ _ _ _ => pts_nil) (fun _ _ _ _ _ => (pe_call G_l_random (hr.mono (by decide)) (by rfl) g_l_random k_l_random b_l_random .nil pass0 (pa_cons (pv 0) (pa_cons (pe_op op_add (pe_callB call_len_seq (by rfl) T.len PySem.boot_len (pa_cons (pv 1) pa_nil)) pe_int) pa_nil))))))
    (pss_cons (ps_set (i := 5) sc_l_random_state.nd rfl (.inl rfl) (pe_lst pa_nil))
    (pss_cons (ps_set (i := 6) sc_l_random_state.nd rfl (.inr rfl) (pe_cmpR op_gt (pe_call G_l_random (hr.mono (by decide)) (by rfl) g_l_random k_l_random b_l_random .nil pass0 (pa_cons (pv 0) (pa_cons pe_int pa_nil))) pe_int (nomark _)))
    (pss_cons (ps_for PassesOwn.never rfl (pi_tup (pv 1)) (pg_tup (n := 2) rfl (pgs_cons (pg_name (i := 7) sc_l_random_state.nd rfl (.inr rfl)) (pgs_cons (pg_name (i := 8) sc_l_random_state.nd rfl (.inr rfl)) pgs_nil)))
    (pss_cons (ps_setLc (i := 9) (own := [("_law_who", 4)]) (g := gName 4)  (tt := (tAnd (fun σ H Q => tVar 6 σ H fun x H1 => ∃ k, TruV K x H1 k ∧ Q k H1) (tTest (tOp (rIn K false) (tOp (rIxL K) (tVar 3) (tVar 4)) (tTup (tCons (tVar 7) (tCons (tVar 8) tNil))))))) rfl sc_l_random_state.nd rfl rfl (sw_true rfl rfl rfl (by decide +kernel)) (pi_range1 rfl T.range (pa_cons (pv 2) pa_nil)) (blkOk_by (N := N_l_random_state) (sc := defScope s_l_random_state) (own := [("_law_who", 4)]) (by decide +kernel)) (fun _ _ _ _ _ => (pg_name (i := 4) sc_l_random_state.nd rfl (.inl rfl) (.inr rfl))) (fun _ _ _ _ _ => (pts_one (PW.pt (pw_and (pt_truth (pv 6) (by intro _; rfl)) (pw_and1 (pt_cmpR op_in_seq (pe_ix ix_list (pv 3) (pv 4) (fun _ _ => rfl)) (pe_tup (pa_cons (pv 7) (pa_cons (pv 8) pa_nil))) (by rfl))))))) (fun _ _ _ _ _ => (pv 4)))
    (pss_cons (ps_set (i := 10) sc_l_random_state.nd rfl (.inl rfl) (pe_ix ix_list (pe_orT (pv 9) (pe_one (pe_listRg rfl (by rfl) T.list (prg_1 (by rfl) T.range (pv 2))))) (pe_call G_l_random (hr.mono (by decide)) (by rfl) g_l_random k_l_random b_l_random .nil pass0 (pa_cons (pv 0) (pa_cons (pe_orT (pe_callB call_len_seq (by rfl) T.len PySem.boot_len (pa_cons (pv 9) pa_nil)) (pe_one (pv 2))) pa_nil))) (fun _ _ => rfl)))
    (pss_one (ps_expr (pe_bm PySem.F.plainAttrs_list PySem.F.slot_list_append PySem.F.type_list_append mt_append (pv 5) (pa_cons (pe_ix ix_list (pe_lst (pa_cons (pv 10) (pa_cons (pe_call G_l_random (hr.mono (by decide)) (by rfl) g_l_random k_l_random b_l_random .nil pass0 (pa_cons (pv 0) (pa_cons (pv 2) pa_nil))) pa_nil))) (pe_callTy call_int1 (by rfl) T.int (by decide +kernel) (pa_cons (pe_cmpR op_eq (pe_call G_l_random (hr.mono (by decide)) (by rfl) g_l_random k_l_random b_l_random .nil pass0 (pa_cons (pv 0) (pa_cons pe_int pa_nil))) pe_int (nomark _)) pa_nil)) (fun _ _ => rfl)) pa_nil)))))))
    (pss_one (ps_ret (pe_tup (pa_cons (pe_callTy call_tuple_of (by rfl) T.tuple (by decide +kernel) (pa_cons (pv 3) pa_nil)) (pa_cons (pe_callTy call_tuple_of (by rfl) T.tuple (by decide +kernel) (pa_cons (pv 5) pa_nil)) pa_nil))))))))), ?_⟩
  have en : (((rs.map V.ref).length : Nat) : Int) + 1 = ((n : Nat) : Int) := by
    rw [List.length_map, hlen]
    omega
  obtain ⟨gx, hgx⟩ := hg.lst
  refine ⟨_, rfl, (p : Int), rfl, by omega, by omega, fun pd npd => ?_⟩
  have npdg : pd ≠ g := hg.ne npd
  refine lc_range (lo := 0) (n := p) (fun i H3 => ∃ L : List Nat, But g H H3 ∧ GenAt H3 g (b + i) ∧ H3 pd = some (.lst (nv L)) ∧ L.length = i ∧ ∀ x ∈ L, x < n) ?_ ?_ ?_
  · exact ⟨[], (Same.upd npd).but, hg.at npdg, upd_same, rfl, fun x hx => (List.not_mem_nil hx).elim⟩
  · rintro i H3 hi ⟨L, bt3, g3, hL, hl, lt⟩
    refine ⟨rfl, lcYes ?_⟩
    refine ⟨_, rfl, _, rfl, _, _, rfl, .inr (bt3.tup hgx hrs), _, _, rfl, rfl, ?_⟩
    refine ⟨g, b + i, n, congrArg (fun z => [V.ref g, V.int z]) en, g3, by omega, by omega, by omega, fun H4 z bt4 g4 hz => ?_⟩
    refine ⟨_, bt4 _ _ npdg hL, by rw [nv_len]; exact small1000 (by omega), L ++ [z], (bt3.trans bt4).at npd _, g4.at npdg, by rw [upd_same, nv_snoc], by simp [hl], fun x hx => ?_⟩
    rcases List.mem_append.mp hx with hx | hx
    · exact lt x hx
    · rw [List.mem_singleton] at hx
      rw [hx]
      exact hz
  · rintro H3 ⟨L, bt3, g3, hL, hl, lt⟩
    refine ⟨Nat.zero_le _, fun pe npe => ?_⟩
    have npeg : pe ≠ g := g3.ne npe
    have hped : pd ≠ pe := ne_of_none hL npe
    have btA := bt3.at (bt3.free npeg npe) (.lst [])
    have gA := g3.at (o := .lst []) npeg
    have hA : (upd H3 pe (.lst [])) pe = some (.lst []) := upd_same
    have hLA : (upd H3 pe (.lst [])) pd = some (.lst (nv L)) := by rw [upd_ne hped]; exact hL
    generalize upd H3 pe (.lst []) = H4 at btA gA hA hLA
    refine ⟨_, rfl, g, b + p, 3, rfl, gA, by decide, by decide, by omega, fun H5 u bt5 g5 hu => ?_⟩
    refine ⟨_, _, rfl, rfl, ?_⟩
    have btB := btA.trans bt5
    refine ⟨_, rfl, a, rfl, ⟨_, btB.tup hgx hrs⟩, ?_⟩
    have npe0 : H pe = none := bt3.free npeg npe
    refine for_it (walk_tup (K := K) (a := a) (xs := rs.map V.ref)) (fun i σ H6 => ∃ (M : List Nat) (y7 y8 y9 y10 : Option V), σ = [some (.ref g), some (.ref a), some (.int (p : Int)), some (.ref pd), none, some (.ref pe), some (.bl (decide ((0 : Int) < (u : Int)))), y7, y8, y9, y10] ∧ But g H H6 ∧ GenAt H6 g (b + p + 1 + 3 * i) ∧ H6 pd = some (.lst (nv L)) ∧ H6 pe = some (.lst (nv M)) ∧ M.length = i ∧ ∀ y ∈ M, y < p)
      ⟨[], _, _, _, _, rfl, btB, g5, bt5 _ _ npdg hLA, bt5 _ _ npeg hA, rfl, fun x hx => (List.not_mem_nil hx).elim⟩ (fun i σ H6 _ ⟨_, _, _, _, _, _, bt6, _⟩ => bt6.tup hgx hrs) ?_ ?_
    · rintro i x σ H6 H7 hi ⟨M, y7, y8, y9, y10, rfl, bt6, g6, hL6, hM, hlM, ltM⟩ ⟨rfl, ex⟩
      have hi' : i < ds.length := by
        rw [List.length_map, hlen] at hi
        exact hi
      obtain ⟨r, hr1⟩ : ∃ r, rs[i]? = some r := get_of rfl (by rw [hlen]; exact hi')
      obtain ⟨e, he⟩ : ∃ e, ds[i]? = some e := get_of rfl hi'
      rw [List.getElem?_map, hr1] at ex
      cases ex
      have hre := hds i r e hr1 he
      refine ⟨r, _, rfl, bt6.tup hgx hre, rfl, _, _, rfl, _, _, rfl, rfl, ?_⟩
      refine ⟨_, rfl, (p : Int), rfl, by omega, by omega, fun pn npn => ?_⟩
      have npng : pn ≠ g := g6.ne npn
      have s7 := Same.upd (o := .lst []) npn
      refine lc_range (lo := 0) (n := p) (fun k H8 => ∃ N : List Nat, Same H7 H8 ∧ H8 pn = some (.lst (nv N)) ∧ N.length ≤ k ∧ ∀ y ∈ N, y < p) ⟨[], s7, upd_same, Nat.zero_le _, fun x hx => (List.not_mem_nil hx).elim⟩ ?_ ?_
      · rintro k H8 hk ⟨N, s8, hN, hlN, ltN⟩
        rw [Int.zero_add]
        refine ⟨rfl, _, rfl, decide ((0 : Int) < (u : Int)), rfl, ?_⟩
        cases hlo : decide ((0 : Int) < (u : Int)) with
        | false => exact iteF (iteF ⟨N, s8, hN, by omega, ltN⟩)
        | true =>
          obtain ⟨z, hz⟩ : ∃ z, L[k]? = some z := get_of hl hk
          refine iteT ?_
          refine ⟨_, rfl, _, rfl, pd, _, _, _, rfl, rfl, SqL.of (s8 _ _ hL6), nv_at hz, ?_⟩
          refine ⟨_, rfl, _, rfl, by show 2 ≤ sizeLine; decide, fun tp ntp => ?_⟩
          have s9 := s8.trans (Same.upd (o := .tup [.int (e.1 : Int), .int (e.2 : Int)]) ntp)
          refine ⟨tp, _, rfl, .inr (SqT.of upd_same), rfl, rfl, ?_⟩
          have npp : pn ≠ tp := ne_of_none hN ntp
          have hN9 : (upd H8 tp (.tup [.int (e.1 : Int), .int (e.2 : Int)])) pn = some (.lst (nv N)) := by rw [upd_ne npp]; exact hN
          refine ⟨_, rfl, ?_⟩
          generalize inV _ _ = c
          cases c with
          | false => exact iteF ⟨N, s9, hN9, by omega, ltN⟩
          | true =>
            refine iteT ⟨_, rfl, _, hN9, by rw [nv_len]; exact small1000 (by omega), N ++ [k], s9.at npn, by rw [upd_same, nv_snoc], by rw [List.length_append, List.length_singleton]; omega, fun y hy => ?_⟩
            rcases List.mem_append.mp hy with hy | hy
            · exact ltN y hy
            · rw [List.mem_singleton] at hy
              rw [hy]
              exact hk
      · rintro H8 ⟨N, s8, hN, hlN, ltN⟩
        have b8 : But g H H8 := bt6.trans s8.but
        have g8 := g6.same s8
        have hM8 := s8 _ _ hM
        have bp : b + p + 1 + 3 * i < 2 ^ 60 := by omega
        rcases nil_or_snoc N with rfl | ⟨N', y, rfl⟩
        refine ⟨_, rfl, false, .inl ⟨_, SqL.of hN, rfl⟩, iteF ?_⟩
        refine ⟨_, rfl, _, rfl, .of_le (Int.le_refl _) (by omega) (by omega) (by omega), fun pq npq => ?_⟩
        have en2 : rgV 0 (p : Int) = nv (List.range p) := rgV_nat p
        rw [en2]
        have s9 := Same.upd (o := .lst (nv (List.range p))) npq
        have g9 := g8.same s9
        have hq9 : (upd H8 pq (.lst (nv (List.range p)))) pq = some (.lst (nv (List.range p))) := upd_same
        have hN9 := s9 _ _ hN
        refine ⟨_, rfl, _, rfl, _, _, rfl, .inl (SqL.of hN9), false, rfl, iteF ⟨_, rfl, g, b + p + 1 + 3 * i, p, rfl, g9, by omega, by omega, bp, fun H9 v bt9 g9' hv => ?_⟩⟩
        have nqg : pq ≠ g := g8.ne npq
        refine ⟨pq, _, _, _, rfl, rfl, SqL.of (bt9 _ _ nqg hq9), nv_at (y := v) (by rw [List.getElem?_range hv]), ?_⟩
        have b9 : But g H H9 := (b8.trans s9.but).trans bt9
        have hM9 := bt9 _ _ npeg (s9 _ _ hM8)
        have hL9 := bt9 _ _ npdg (s9 _ _ (s8 _ _ hL6))
        have hz : v < p := hv
        generalize v = z at hz ⊢
        rotate_left
        refine ⟨_, rfl, true, .inl ⟨_, SqL.of hN, by simp [nv]⟩, iteT ?_⟩
        have hlp : (N' ++ [y]).length < 2 ^ 29 := Nat.lt_of_le_of_lt hlN (Nat.lt_of_le_of_lt hp4 (by decide))
        have hnz : (((nv (N' ++ [y])).length : Nat) : Int) ≠ 0 := by rw [nv_len, List.length_append, List.length_singleton]; omega
        refine ⟨_, rfl, _, rfl, _, _, rfl, .inl (SqL.of hN), true, (bne_iff_ne.mpr hnz).symm, iteT ⟨g, b + p + 1 + 3 * i, (N' ++ [y]).length, congrArg (fun z : Nat => [V.ref g, V.int (z : Int)]) (nv_len _), g8, by rw [List.length_append, List.length_singleton]; omega, hlp, bp, fun H9 v bt9 g9' hv => ?_⟩⟩
        obtain ⟨z, hzv⟩ : ∃ z, (N' ++ [y])[v]? = some z := get_of rfl hv
        refine ⟨pn, _, _, _, rfl, rfl, SqL.of (bt9 _ _ npng hN), nv_at hzv, ?_⟩
        have b9 : But g H H9 := b8.trans bt9
        have hM9 := bt9 _ _ npeg hM8
        have hL9 := bt9 _ _ npdg (s8 _ _ hL6)
        have hz : z < p := ltN z (List.mem_of_getElem? hzv)
        all_goals
          refine ⟨_, rfl, .inl ⟨rfl, _, SqL.of hM9⟩, _, rfl, _, rfl, _, rfl, g, b + p + 1 + 3 * i + 1, p, rfl, g9', by omega, by omega, by omega, fun H10 v2 bt10 g10 hv2 => ?_⟩
          refine ⟨by show 2 ≤ sizeLine; decide, fun pl npl => ?_⟩
          have nplg : pl ≠ g := g10.ne npl
          have gB := g10.at (o := .lst [.int (z : Int), .int (v2 : Int)]) nplg
          have bB := (b9.trans bt10).at ((b9.trans bt10).free nplg npl) (.lst [.int (z : Int), .int (v2 : Int)])
          refine ⟨_, rfl, g, b + p + 1 + 3 * i + 2, 5, rfl, gB, by decide, by decide, by omega, fun H11 v3 bt11 g11 hv3 => ?_⟩
          obtain ⟨ix, w, e1, e2, hw⟩ : ∃ (ix w : Nat), (if decide (V.int (v3 : Int) = V.int 0) = true then (1 : Int) else 0) = (ix : Int) ∧ ([z, v2] : List Nat)[ix]? = some w ∧ w < p := by
            by_cases c0 : V.int (v3 : Int) = V.int 0
            · exact ⟨1, v2, by rw [decide_eq_true c0]; rfl, rfl, hv2⟩
            · exact ⟨0, z, by rw [decide_eq_false c0]; rfl, rfl, hz⟩
          have hl11 := bt11 _ _ nplg (show (upd H10 pl (.lst [.int (z : Int), .int (v2 : Int)])) pl = some _ from upd_same)
          have hM11 := bt11 _ _ npeg (show (upd H10 pl (.lst [.int (z : Int), .int (v2 : Int)])) pe = some (.lst (nv M)) from by rw [upd_ne (ne_of_none (bt10 _ _ npeg hM9) npl)]; exact bt10 _ _ npeg hM9)
          have hL11 := bt11 _ _ npdg (show (upd H10 pl (.lst [.int (z : Int), .int (v2 : Int)])) pd = some (.lst (nv L)) from by rw [upd_ne (ne_of_none (bt10 _ _ npdg hL9) npl)]; exact bt10 _ _ npdg hL9)
          have bE := bB.trans bt11
          refine ⟨rfl, .inr ⟨_, rfl, pl, _, _, _, rfl, rfl, SqL.of hl11, (show atI (nv [z, v2]) (if decide (V.int (v3 : Int) = V.int 0) = true then (1 : Int) else 0) = some (V.int (w : Int)) from by rw [e1]; exact nv_at e2), ?_⟩⟩
          refine ⟨pe, _, _, rfl, rfl, hM11, by rw [nv_len, hlM]; exact small1000 (by omega), M ++ [w], _, _, _, _, rfl, bE.at npe0 _, (g11.at npeg).mono (by omega), by rw [upd_ne hped]; exact hL11, by rw [upd_same, nv_snoc], by rw [List.length_append, hlM]; rfl, fun y hy => ?_⟩
          rcases List.mem_append.mp hy with hy | hy
          · exact ltM y hy
          · rw [List.mem_singleton] at hy
            rw [hy]
            exact hw
    · rintro σ H6 ⟨M, y7, y8, y9, y10, rfl, bt6, g6, hL6, hM, hlM, ltM⟩
      rw [List.length_map, hlen] at hlM g6
      refine ⟨_, rfl, pd, _, rfl, .inl ⟨SqL.of hL6, fun t1 nt1 => ?_⟩⟩
      have nt1g : t1 ≠ g := g6.ne nt1
      have hM1 : (upd H6 t1 (.tup (nv L))) pe = some (.lst (nv M)) := by rw [upd_ne (ne_of_none hM nt1)]; exact hM
      refine ⟨_, rfl, pe, _, rfl, .inl ⟨SqL.of hM1, fun t2 nt2 => ?_⟩⟩
      have g7 := g6.at (o := .tup (nv L)) nt1g
      have nt2g : t2 ≠ g := g7.ne nt2
      refine ⟨by show 2 ≤ sizeLine; decide, fun t3 nt3 => ?_⟩
      have g8 := g7.at (o := .tup (nv M)) nt2g
      have n3g : t3 ≠ g := g8.ne nt3
      have s1 := Same.upd (o := .tup (nv L)) nt1
      have s2 := Same.upd (o := .tup (nv M)) nt2
      have s3 := Same.upd (o := .tup [.ref t1, .ref t2]) nt3
      have btE := ((bt6.trans s1.but).trans s2.but).trans s3.but
      refine q _ t3 (L, M) btE ((g8.at n3g).mono (by omega)) ⟨t1, t2, SqT.of upd_same, SqT.of (s3 _ _ (s2 _ _ upd_same)), SqT.of (s3 _ _ upd_same)⟩ ⟨?_, ?_, ?_, hlM, ?_⟩ hl
      · show 1 ≤ L.length
        omega
      · show L.length ≤ 10
        omega
      · exact lt
      · intro y hy
        show y < L.length
        rw [hl]
        exact ltM y hy
end
end K5

namespace L2
open PySem PySem.Spec PyProof.Rows
/-- f(c = .., b = .., a = ..): all by name, in the reverse order -/
def rev3 {α : Type} : List α → List α → List α
  | [], [c, b, a] => [a, b, c]
  | _, _ => []
theorem rev3_vals {vs zs : List V} {us ws : List Value} (r : Vals vs us) (q : Vals zs ws) : Vals (rev3 vs zs) (rev3 us ws) := by
  cases r with
  | nil =>
    cases q with
    | nil => exact .nil
    | cons h1 q =>
      cases q with
      | nil => exact .nil
      | cons h2 q =>
        cases q with
        | nil => exact .nil
        | cons h3 q =>
          cases q with
          | nil => exact .cons h3 (.cons h2 (.cons h1 .nil))
          | cons h4 q => exact .nil
  | cons h r => exact .nil
def rev4 {α : Type} : List α → List α → List α
  | [], [d, c, b, a] => [a, b, c, d]
  | _, _ => []
theorem rev4_vals {vs zs : List V} {us ws : List Value} (r : Vals vs us) (q : Vals zs ws) : Vals (rev4 vs zs) (rev4 us ws) := by
  cases r with
  | nil =>
    cases q with
    | nil => exact .nil
    | cons h1 q =>
      cases q with
      | nil => exact .nil
      | cons h2 q =>
        cases q with
        | nil => exact .nil
        | cons h3 q =>
          cases q with
          | nil => exact .nil
          | cons h4 q =>
            cases q with
            | nil => exact .cons h4 (.cons h3 (.cons h2 (.cons h1 .nil)))
            | cons h5 q => exact .nil
  | cons h r => exact .nil
/-- as Cal, and how a call by names binds -/
def CalK (P : Program) (w : World) (K : PySem.W.Frag) (mg : Str → Option Value) (base : Heap) (x : Str) (ps : List Str) (k : Nat) (sp : Sp) (ks : List Str) (g : List Value → List Value → List Value) (gV : List V → List V → List V) : Prop :=
  ∃ (f : Addr) (fd : FuncData), mg x = some (.ref f) ∧ PySem.W.keepIn K (.ref f) = true ∧ Binds K fd ps [] ∧ FnOk P w K mg base CX0 k f fd ps sp ∧ KBinds K fd ps ks g gV
theorem CalK.cal {P w K mg base x ps k sp ks g gV} (C : CalK P w K mg base x ps k sp ks g gV) : Cal P w K mg base x ps k sp := by
  obtain ⟨f, fd, a, b, c, d, _⟩ := C
  exact ⟨f, fd, a, b, c, d⟩
theorem Def.okK {P : Program} {w : World} {K : PySem.W.Frag} {mg : Str → Option Value} {base : Heap} {x : Str} {st : Stmt} {N ps ks : List Str} {k : Nat} {sp : Sp} {g : List Value → List Value → List Value} {gV : List V → List V → List V} (D : Def K mg x st) (S : FnScope N ps (defScope st))
    (hkb : ∀ (kV doc pm : Value) (an : Option Addr) (cdv ct : Value) (us ws : List Value), (g us ws).length = ps.length → bindArgs (PySem.W.fnOf x x (defArgs st) (defBody st) (defScope st) .none kV doc pm an cdv ct) ⟨us, ks.zip ws⟩ = pure (ps.zip (g us ws)))
    (hrel : ∀ {vs : List V} {us : List Value} {zs : List V} {ws : List Value}, Vals vs us → Vals zs ws → Vals (gV vs zs) (g us ws))
    (hb : ∀ (kV doc pm : Value) (an : Option Addr) (cdv ct : Value) (us : List Value), us.length = ps.length → bindArgs (PySem.W.fnOf x x (defArgs st) (defBody st) (defScope st) .none kV doc pm an cdv ct) ⟨us, []⟩ = pure (ps.zip us))
    (ar : ∀ vs H Q E, sp vs H Q E → vs.length = ps.length)
    (hbody : ∀ (f : Addr) (cdv : Value) (A : Around) (outer : List Env) (s : Shared) (H : Hp) (vs : List V) (Q : VK) (E : XK), Room k (A.deeper (envOfC x (defScope st) s.heap.objs.size f cdv)) → sp vs H Q E →
      ∃ t, PSs (cxOf CX0 P w K mg base N x (defScope st) f cdv A outer s H E).nox (defBody st) t ∧ t { nx := fun _ H' => Q .non H', rt := Q } (start N vs) H) : CalK P w K mg base x ps (k + 1) sp ks g gV := by
  obtain ⟨f, fd, F, m⟩ := D
  refine ⟨f, fd, m, F.kp, F.binds hb, F.ok S ar fun cdv A outer s H vs Q E hr h => hbody f cdv A outer s H vs Q E hr h, ?_, hrel⟩
  obtain ⟨oc, od, kV, doc, pm, an, cdv,
        ct, osl, rfl, lk, hcd⟩ := F.ex
  intro s us ws _ hl
  exact BindsTo.of_eq (hkb kV doc pm an cdv ct us ws hl)
section
variable {X : Cx} {CX : CXT} {k : Nat} {f : Addr} {fd : FuncData} {ps ks : List Str} {sp : Sp} {E : XK} {x : Str} {p pos : Pos} {kws : List Keyword} {tk : TA} {g : List Value → List Value → List Value} {gV : List V → List V → List V}
/-- f(k = v, ..), nothing by position -/
theorem pe_callK0 (F : FnOk X.prog X.w X.K X.mg X.base CX k f fd ps sp) (hr : Room k X.A) (hg : Gl X x) (hm : X.mg x = some (.ref f)) (hk : PySem.W.keepIn X.K (.ref f) = true) (hb : KBinds X.K fd ps ks g gV) (hx : Passes CX X E)
    (hkw : PK X kws tk) (hall : (backToKw pos (keywordEach kws X.env)).all (·.1.isSome) = true := by rfl) (hks : (backToKw pos (keywordEach kws X.env)).filterMap (·.1) = ks := by rfl)
    (hdb : (x == ("__debug__" : Str)) = false := by decide)
    (hpl : ((backTo pos (starEach [] X.env)).any (·.1) || (backToKw pos
          (keywordEach kws X.env)).any (·.1.isNone)) = false := by rfl) :
    PE X (.Call (.Name x p) [] kws pos) (tCallK sp gV E tNil tk) := by
  refine ⟨fun pins s σ H Q I h => ?_⟩
  refine wpAny_Call_Name_kw
        (ld_glob I hg hm ?_ hdb)
  have h : tk σ H (fun zs H2 => sp (gV [] zs) H2 Q E) := h
  refine PySem.W.callWith_KW0 (h₀ := X.base) I.ok.mod.kin hk hall (thn (hkw.run pos pins s σ H _ I h) fun ws s2 ⟨zs, H2, I2, rz, q2⟩ => ⟨I2.kIn, ?_⟩) hpl
  rw [hks]
  exact run_fnk (us := []) (vs := []) F hr hb hx I2 .nil rz q2
end
end L2

namespace L2
open PySem PySem.Spec PyProof.Rows
def rev2 {α : Type} : List α → List α → List α
  | [], [b, a] => [a, b]
  | _, _ => []
theorem rev2_vals {vs zs : List V} {us ws : List Value} (r : Vals vs us) (q : Vals zs ws) : Vals (rev2 vs zs) (rev2 us ws) := by
  cases r with
  | nil =>
    cases q with
    | nil => exact .nil
    | cons h1 q =>
      cases q with
      | nil => exact .nil
      | cons h2 q =>
        cases q with
        | nil => exact .cons h2 (.cons h1 .nil)
        | cons h3 q => exact .nil
  | cons h r => exact .nil
end L2

namespace K5
open PySem PySem.Spec PyProof.Rows L2
theorem DicR.keys {β : Type} {VR : V → β → Prop} : ∀ {kvs : List (Key × V)} {ks : List (Nat × β)}, DicR VR kvs ks → kvs.map (·.1) = ((ks.map Prod.fst).map fun x : Nat => (x : Int)).map Sum.inl
  | _, _, .nil => rfl
  | _, _, .cons h r => by
    have e := DicR.keys r
    simp only [List.map_cons] at e ⊢
    rw [h.1, e]
theorem Reg.le {n ds shut room ks} (h : Reg n ds shut room ks) : ks.length ≤ n := by
  have := h.df.le
  rw [List.length_map] at this
  exact this
theorem Ptr.walk {ds : List (Nat × Nat)} {shut : List Nat} {room : Nat} {ks : List (Nat × Option (Nat × Nat))} (P : Ptr ds shut room ks) :
    ∀ (m x : Nat), x ∈ ks.map Prod.fst → (ks.map Prod.fst).idxOf x = m → ∃ p, Walk ds x p room ∧ ∀ d ∈ p, d ∉ shut := by
  intro m
  induction m using Nat.strongRecOn with
  | ind m ih =>
    intro x hx hm
    obtain ⟨⟨x', o⟩, hk, rfl⟩ := List.mem_map.mp hx
    cases o with
    | none =>
      rw [P.fin _ hk]
      exact ⟨[], .nil _, fun d h => (List.not_mem_nil h).elim⟩
    | some e =>
      obtain ⟨j, ns, hy, lt⟩ := P.st _ e.1 e.2 hk
      obtain ⟨p, w, hp⟩ := ih _ (by rw [← hm]; exact lt) e.2 hy rfl
      exact ⟨e.1 :: p, .cons j w, fun d hd => by
        rcases List.mem_cons.mp hd with rfl | hd
        · exact ns
        · exact hp d hd⟩
theorem Reg.mem {n ds shut room ks} (h : Reg n ds shut room ks) (x : Nat) : x ∈ ks.map Prod.fst ↔ ∃ p, Walk ds room p x ∧ ∀ d ∈ p, d ∉ shut := by
  constructor
  · intro hx
    obtain ⟨p, w, hp⟩ := h.pt.walk _ x hx rfl
    exact ⟨p.reverse, w.rev, fun d hd => hp d (List.mem_reverse.mp hd)⟩
  · rintro ⟨p, w, hp⟩
    exact h.df.walk w hp h.rm
theorem nodup_perm {l l' : List Nat} (a : l.Nodup) (b : l'.Nodup) (h : ∀ x, x ∈ l ↔ x ∈ l') : l.Perm l' := (List.perm_ext_iff_of_nodup a b).mpr h
theorem Reg.perm {n ds shut room ks ks'} (h : Reg n ds shut room ks) (h' : Reg n ds shut room ks') : (ks.map Prod.fst).Perm (ks'.map Prod.fst) :=
  nodup_perm h.df.nd h'.df.nd fun x => (h.mem x).trans (h'.mem x).symm
/-- each person's region, in some order -/
structure Regs (n : Nat) (ds : List (Nat × Nat)) (S : S2) (k : Nat) (Ls : List (List Nat)) : Prop where
  len : Ls.length = k
  at_ : ∀ (p : Nat) (L : List Nat), Ls[p]? = some L → ∃ ks, Reg n ds (barr S p) (S.1.getD p 0) ks ∧ L.Perm (ks.map Prod.fst)
theorem flat_perm : ∀ (Ls Ms : List (List Nat)), Ls.length = Ms.length → (∀ (p : Nat) (L M : List Nat), Ls[p]? = some L → Ms[p]? = some M → L.Perm M) → Ls.flatten.Perm Ms.flatten
  | [], [], _, _ => List.Perm.refl _
  | [], _ :: _, h, _ => by simp at h
  | _ :: _, [], h, _ => by simp at h
  | L :: Ls, M :: Ms, h, hp => by
    rw [List.flatten_cons, List.flatten_cons]
    exact (hp 0 L M rfl rfl).append (flat_perm Ls Ms (by simpa using h) fun p L' M' a b => hp (p + 1) L' M' a b)
theorem Regs.perm {n ds S k Ls Ms} (a : Regs n ds S k Ls) (b : Regs n ds S k Ms) : Ls.flatten.Perm Ms.flatten :=
  flat_perm Ls Ms (a.len.trans b.len.symm) fun p L M h1 h2 => by
    obtain ⟨ks, r1, p1⟩ := a.at_ p L h1
    obtain ⟨ks', r2, p2⟩ := b.at_ p M h2
    exact (p1.trans (r1.perm r2)).trans p2.symm
theorem Regs.snoc {n ds S k Ls L ks} (a : Regs n ds S k Ls) (r : Reg n ds (barr S k) (S.1.getD k 0) ks) (pm : L.Perm (ks.map Prod.fst)) : Regs n ds S (k + 1) (Ls ++ [L]) := by
  refine ⟨by rw [List.length_append, a.len]; rfl, fun p M h => ?_⟩
  by_cases c : p < Ls.length
  · rw [List.getElem?_append_left c] at h
    exact a.at_ p M h
  · have := get_lt h
    rw [List.length_append, List.length_singleton] at this
    have e : p = k := by have := a.len; omega
    subst e
    rw [List.getElem?_append_right (by rw [a.len]; exact Nat.le_refl _), a.len, Nat.sub_self] at h
    cases h
    exact ⟨ks, r, pm⟩
/-- no two people can meet -/
def spApart (K : PySem.W.Frag) : Sp := fun vs H Q _ => ∃ (a s : Addr) (n : Nat) (ds : List (Nat × Nat)) (S : S2), vs = [.ref a, .ref s] ∧ HouseAt K H a ds ∧ Tree n ds ∧ n ≤ 60 ∧ StateAt K H s S ∧ StOk n ds S ∧
  ∀ (H' : Hp) (Ls : List (List Nat)), Same H H' → Regs n ds S S.1.length Ls → Q (.bl (decide Ls.flatten.Nodup)) H'
section
variable {P : Program} {w : World} {K : PySem.W.Frag}
      {mg : Str → Option Value} {base : Heap}
theorem ok_is_apart (T : Bl mg) (D : Def K mg "is_apart" s_is_apart) (C_need_state : Cal P w K mg base "need_state" ["house", "state"] 7 (spSt K)) (C_region_ways : Cal P w K mg base "region_ways" ["house", "state", "person"] 3 (spRegWays K)) :
    CalK P w K mg base "is_apart" ["house", "state"] 8 (spApart K) ["state", "house"] rev2 rev2 := by
  refine D.okK sc_is_apart (fun _ _ _ _ _ _ us ws hl => match us, ws, hl with | [], [_, _], _ => rfl) rev2_vals (fun _ _ _ _ _ _ us hl => match us, hl with | [_, _], _ => rfl) (fun vs H Q E h => ?_) (fun f cdv A outer s H vs Q E hr h => ?_)
  · obtain ⟨a, s, n, ds, S, rfl, _⟩ := h
    rfl
  obtain ⟨a, s, n, ds, S, rfl, hH, tree, hn, st, ok, q⟩ := h
  obtain ⟨r, b, h1, h2, h3⟩ := id st
  have few := ok.few
  obtain ⟨f_need_state, fd_need_state, g_need_state, k_need_state, b_need_state, G_need_state⟩ := C_need_state
  obtain ⟨f_region_ways, fd_region_ways, g_region_ways, k_region_ways, b_region_ways, G_region_ways⟩ := C_region_ways
  refine ⟨_, (pss_cons (ps_expr (pe_call G_need_state (hr.mono (by decide)) (by rfl) g_need_state k_need_state b_need_state .nil pass0 (pa_cons (pv 0) (pa_cons (pv 1) pa_nil))))
    (pss_cons (ps_set (i := 2) sc_is_apart.nd rfl (.inl rfl) (pe_lst pa_nil))
    (pss_cons (ps_for PassesOwn.never rfl (pi_range1 rfl T.range (pa_cons (pe_callB call_len_seq (by rfl) T.len PySem.boot_len (pa_cons (pe_ix ix_tup (pv 1) pe_int (fun _ _ => rfl)) pa_nil)) pa_nil)) (pg_name (i := 3) sc_is_apart.nd rfl (.inl rfl))
    (pss_one (ps_expr (pe_bm PySem.F.plainAttrs_list PySem.F.slot_list_extend PySem.F.type_list_extend mt_extend (pv 2) (pa_cons (pe_callTy (call_listD rfl) (by rfl) T.list (by decide +kernel) (pa_cons (pe_call G_region_ways (hr.mono (by decide)) (by rfl) g_region_ways k_region_ways b_region_ways .nil pass0 (pa_cons (pv 0) (pa_cons (pv 1) (pa_cons (pv 3) pa_nil)))) pa_nil)) pa_nil)))))
    (pss_one (ps_ret (pe_cmpR op_eq (pe_lenSetA rfl (by rfl) T.len (by rfl) T.set (pv 2)) (pe_callB call_len_seq (by rfl) T.len PySem.boot_len (pa_cons (pv 2) pa_nil)) (nomark _))))))), ?_⟩
  refine ⟨_, rfl, _, rfl, a, s, ds, n, S, rfl, hH, tree, by omega, st, ok, fun H1 s1 => ?_⟩
  refine ⟨Nat.zero_le _, fun pd npd => ?_⟩
  have sp1 := s1.trans (Same.upd (o := .lst []) npd)
  have npd0 := s1.free npd
  refine ⟨_, rfl, s, _, _, _, rfl, rfl, sp1.tup h1, atI_nat (j := 0) rfl, _, _, rfl, .inr (sp1.tup h2), (S.1.length : Int), congrArg (fun z : Nat => [V.int (z : Int)]) (nv_len _), by omega, by omega, ?_⟩
  refine for_range (lo := 0) (n := S.1.length) (fun k σ H2 => ∃ Ls y3, σ = [some (.ref a), some (.ref s), some (.ref pd), y3] ∧ Same H H2 ∧ H2 pd = some (.lst (nv Ls.flatten)) ∧ Regs n ds S k Ls ∧ Ls.flatten.length ≤ n * k)
    ⟨[], _, rfl, sp1, upd_same, ⟨rfl, fun p L h => by simp at h⟩, Nat.zero_le _⟩ ?_ ?_
  · rintro k σ H2 hk ⟨Ls, y3, rfl, sm, hp, rg, le⟩
    rw [Int.zero_add]
    refine ⟨_, rfl, .inl ⟨rfl, _, SqL.of hp⟩, _, rfl, _, rfl, _, rfl, a, s, k, n, ds, S, rfl, hH.same sm, tree, by omega, st.same sm, ok, hk, fun H3 q3 kvs ks s3 nq3 hq3 r3 rg3 => ?_⟩
    refine ⟨q3, kvs, rfl, .inl hq3, fun p4 np4 => ?_⟩
    have s4 := s3.trans (Same.upd (o := .lst (kvs.map fun kv => kV kv.1)) np4)
    have ek : (kvs.map fun kv => kV kv.1) = nv (ks.map Prod.fst) := by
      have e := r3.keys
      have e2 : (kvs.map fun kv => kV kv.1) = (kvs.map (·.1)).map kV := by rw [List.map_map]; rfl
      rw [e2, e, List.map_map, List.map_map, nv]
      rfl
    rw [ek] at s4 ⊢
    have l3 := rg3.le
    have nk : n * k ≤ 60 * 10 := Nat.mul_le_mul hn (by omega)
    refine ⟨pd, p4, _, _, rfl, rfl, s4 _ _ hp, upd_same, ?_, ?_⟩
    · rw [nv_len, nv_len, List.length_map]
      exact Nat.le_of_lt (small1000 (by omega))
    · refine ⟨Ls ++ [ks.map Prod.fst], _, rfl, (sm.trans s4).at npd0, ?_, rg.snoc rg3 (List.Perm.refl _), ?_⟩
      · rw [upd_same, List.flatten_append, List.flatten_cons, List.flatten_nil, List.append_nil]
        unfold nv
        rw [List.map_append]
      · rw [List.flatten_append, List.length_append, List.flatten_cons, List.flatten_nil, List.append_nil, List.length_map, Nat.mul_succ]
        omega
  · rintro σ H2 ⟨Ls, y3, rfl, sm, hp, rg, le⟩
    have nk : n * S.1.length ≤ 60 * 10 := Nat.mul_le_mul hn few
    refine ⟨_, rfl, pd, Ls.flatten.map (fun x : Nat => (x : Int)), rfl, by rw [← nv_int]; exact SqL.of hp, ?_, fun m hm1 hm2 => ?_⟩
    · rw [List.length_map]
      exact Nat.lt_of_le_of_lt (by omega : Ls.flatten.length + 1 ≤ 1000) (by decide)
    · refine ⟨_, rfl, _, _, rfl, .inl (SqL.of hp), rfl, ?_⟩
      have nodup_iff : (Ls.flatten.map fun x : Nat => (x : Int)).Nodup ↔ Ls.flatten.Nodup := by
        unfold List.Nodup
        rw [List.pairwise_map]
        exact ⟨fun h => h.imp fun z e => z (by rw [e]), fun h => h.imp fun z e => z (by omega)⟩
      have e : decide (V.int (m : Int) = V.int (((nv Ls.flatten).length : Nat) : Int)) = decide Ls.flatten.Nodup := by
        rw [nv_len]
        by_cases c : Ls.flatten.Nodup
        · have := hm1 (nodup_iff.mpr c)
          rw [List.length_map] at this
          rw [decide_eq_true c, decide_eq_true (by rw [this])]
        · have := hm2 fun z => c (nodup_iff.mp z)
          rw [List.length_map] at this
          rw [decide_eq_false c, decide_eq_false fun z => by have := V.int.inj z; omega]
      show Q (.bl (decide (V.int (m : Int) = V.int (((nv Ls.flatten).length : Nat) : Int)))) H2
      rw [e]
      exact q H2 Ls sm rg
end
end K5

namespace K5
open PySem PySem.Spec PyProof.Rows L2
/-! what can come about: people placed in their regions, people gathered, apart people -/
inductive Rc (ds : List (Nat × Nat)) (S : S2) : S2 → Prop
  | refl : Rc ds S S
  | step {A : S2} {m : Mv} : Rc ds S A → Can ds A m → Rc ds S (nxt ds A m)
theorem Rc.trans {ds : List (Nat × Nat)} {S A B : S2} (h : Rc ds S A) (k : Rc ds A B) : Rc ds S B := by
  induction k with
  | refl => exact h
  | step _ c ih => exact .step ih c
theorem Rc.ok {n : Nat} {ds : List (Nat × Nat)} {S A : S2} (T : Tree n ds) (h : Rc ds S A) (o : StOk n ds S) : StOk n ds A := by
  induction h with
  | refl => exact o
  | step _ c ih => exact ih.nxt T c.vm
theorem Rc.len {ds : List (Nat × Nat)} {S A : S2} (h : Rc ds S A) : A.1.length = S.1.length := by
  induction h with
  | refl => rfl
  | step _ c ih => rw [nxt_len, ih]
/-- a move through a known door -/
theorem go {n : Nat} {ds : List (Nat × Nat)} {S : S2} {p u v d : Nat} (T : Tree n ds) (o : StOk n ds S) (hp : S.1[p]? = some u) (j : Joins ds d u v) (nb : S.2[d]? ≠ some p) :
    Rc ds S (S.1.set p v, S.2.set d p) ∧ (S.2.set d p)[d]? = some p ∧ ∀ e, e ≠ d → (S.2.set d p)[e]? = S.2[e]? := by
  have c : Can ds S (p, u, v) := ⟨get_lt hp, hp, d, j, nb⟩
  have e : nxt ds S (p, u, v) = (S.1.set p v, S.2.set d p) := by
    show (S.1.set p v, S.2.set (dix ds u v) p) = _
    rw [dix_is T j]
  refine ⟨e ▸ Rc.step .refl c, List.getElem?_set_self (by rw [o.doors]; exact joins_lt j), fun e ne => List.getElem?_set_ne (Ne.symm ne)⟩
theorem short {ds : List (Nat × Nat)} {a b : Nat} {w : List Nat} (h : Walk ds a w b) : ∃ w', Walk ds a w' b ∧ w'.Nodup ∧ ∀ e ∈ w', e ∈ w := by
  induction h with
  | nil a => exact ⟨[], .nil _, List.nodup_nil, fun _ h => h⟩
  | @cons a c b d p j w ih =>
    obtain ⟨w', h1, h2, h3⟩ := ih
    by_cases hd : d ∈ w'
    · obtain ⟨p1, p2, x, y, rfl, w1, j1, w2⟩ := h1.split hd
      obtain ⟨n1, n2, n3⟩ := List.nodup_append.mp h2
      obtain ⟨n4, n5⟩ := List.nodup_cons.mp n2
      have sub : ∀ e ∈ p2, e ∈ d :: p := fun e he => List.mem_cons_of_mem _ (h3 e (List.mem_append_right _ (List.mem_cons_of_mem _ he)))
      have ya : y = a ∨ y = c := by
        rcases j with q | q <;> rcases j1 with r | r <;> rw [q] at r <;> cases r
        · exact .inr rfl
        · exact .inl rfl
        · exact .inl rfl
        · exact .inr rfl
      rcases ya with rfl | rfl
      · exact ⟨p2, w2, n5, sub⟩
      · exact ⟨d :: p2, .cons j w2, List.nodup_cons.mpr ⟨n4, n5⟩, fun e he => by
          rcases List.mem_cons.mp he with rfl | he
          · exact List.mem_cons_self
          · exact sub e he⟩
    · exact ⟨d :: w', .cons j h1, List.nodup_cons.mpr ⟨hd, h2⟩, fun e he => by
        rcases List.mem_cons.mp he with rfl | he
        · exact List.mem_cons_self
        · exact List.mem_cons_of_mem _ (h3 e he)⟩
theorem walk_of {n : Nat} {ds : List (Nat × Nat)} (T : Tree n ds) {a b : Nat} (ha : a < n) (hb : b < n) : ∃ w, Walk ds a w b :=
  T.conn (fun z => ∃ w, Walk ds a w z) (fun e he => by
    obtain ⟨k, hk⟩ := List.mem_iff_getElem?.mp he
    exact ⟨fun ⟨w, h⟩ => ⟨w ++ [k], h.snoc (.inl hk)⟩, fun ⟨w, h⟩ => ⟨w ++ [k], h.snoc (.inr hk)⟩⟩) a b ha hb ⟨[], .nil _⟩
theorem run_walk {n : Nat} {ds : List (Nat × Nat)} (T : Tree n ds) {p u v : Nat} {w : List Nat} (h : Walk ds u w v) : ∀ S : S2, StOk n ds S → w.Nodup → S.1[p]? = some u → (∀ e ∈ w, S.2[e]? ≠ some p) →
    ∃ A, Rc ds S A ∧ A.1 = S.1.set p v ∧ (∀ e, e ∉ w → A.2[e]? = S.2[e]?) ∧ ∀ e ∈ w, A.2[e]? = some p := by
  induction h with
  | nil a =>
    intro S o _ hp _
    refine ⟨S, .refl, ?_, fun _ _ => rfl, fun _ h => nomatch h⟩
    apply List.ext_getElem?
    intro i
    by_cases c : p = i
    · subst c
      rw [List.getElem?_set_self (get_lt hp), hp]
    · rw [List.getElem?_set_ne c]
  | @cons a c b d q j w ih =>
    intro S o nd hp nb
    obtain ⟨n1, n2⟩ := List.nodup_cons.mp nd
    obtain ⟨r1, b1, b2⟩ := go T o hp j (nb d List.mem_cons_self)
    obtain ⟨A, r2, e1, e2, e3⟩ := ih (S.1.set p c, S.2.set d p) (r1.ok T o) n2 (List.getElem?_set_self (get_lt hp)) fun e he => by
      rw [b2 e (fun z => n1 (z ▸ he))]
      exact nb e (List.mem_cons_of_mem _ he)
    refine ⟨A, r1.trans r2, ?_, fun e he => ?_, fun e he => ?_⟩
    · rw [e1]
      show (S.1.set p c).set p b = _
      rw [List.set_set]
    · rw [e2 e (fun z => he (List.mem_cons_of_mem _ z))]
      exact b2 e (fun z => he (z ▸ List.mem_cons_self))
    · rcases List.mem_cons.mp he with rfl | he
      · by_cases c : e ∈ q
        · exact e3 e c
        · rw [e2 e c]
          exact b1
      · exact e3 e he
/-- the rooms that p can reach alone -/
def Rg (ds : List (Nat × Nat)) (S : S2) (p x : Nat) : Prop := ∃ u w, S.1[p]? = some u ∧ Walk ds u w x ∧ ∀ e ∈ w, S.2[e]? ≠ some p
theorem Rg.here {ds : List (Nat × Nat)} {S : S2} {p u : Nat} (h : S.1[p]? = some u) : Rg ds S p u := ⟨u, [], h, .nil _, fun _ h => nomatch h⟩
theorem Rg.on {ds : List (Nat × Nat)} {S : S2} {p x y d : Nat} (h : Rg ds S p x) (j : Joins ds d x y) (nb : S.2[d]? ≠ some p) : Rg ds S p y := by
  obtain ⟨u, w, h1, h2, h3⟩ := h
  exact ⟨u, w ++ [d], h1, h2.snoc j, fun e he => by
    rcases List.mem_append.mp he with he | he
    · exact h3 e he
    · rw [List.mem_singleton.mp he]
      exact nb⟩
/-- every person in some room of its region -/
theorem place {n : Nat} {ds : List (Nat × Nat)} {S : S2} (T : Tree n ds) (o : StOk n ds S) {rooms : List Nat} (hl : rooms.length = S.1.length) (h : ∀ p x, rooms[p]? = some x → Rg ds S p x) : ∃ A, Rc ds S A ∧ A.1 = rooms := by
  have key : ∀ k, k ≤ S.1.length → ∃ A, Rc ds S A ∧ (∀ p : Nat, A.1[p]? = if p < k then rooms[p]? else S.1[p]?) ∧ ∀ (p e : Nat), k ≤ p → A.2[e]? = some p → S.2[e]? = some p := by
    intro k
    induction k with
    | zero => exact fun _ => ⟨S, .refl, fun p => by rw [if_neg (Nat.not_lt_zero p)], fun _ _ _ h => h⟩
    | succ k ih =>
      intro hk
      obtain ⟨A, r, a1, a2⟩ := ih (by omega)
      obtain ⟨x, hx⟩ : ∃ x, rooms[k]? = some x := get_of rfl (by omega)
      obtain ⟨u, w0, h1, h2, h3⟩ := h k x hx
      obtain ⟨w, w1, w2, w3⟩ := short h2
      obtain ⟨B, r2, b1, b2, b3⟩ := run_walk T w1 (p := k) A (r.ok T o) w2 (by rw [a1, if_neg (Nat.lt_irrefl k)]; exact h1) fun e he z => h3 e (w3 e he) (a2 k e (Nat.le_refl _) z)
      refine ⟨B, r.trans r2, fun p => ?_, fun p e hp z => ?_⟩
      · rw [b1]
        by_cases c : k = p
        · subst c
          rw [List.getElem?_set_self (by rw [r.len]; omega), if_pos (Nat.lt_succ_self _), hx]
        · rw [List.getElem?_set_ne c, a1]
          by_cases c2 : p < k
          · rw [if_pos c2, if_pos (by omega)]
          · rw [if_neg c2, if_neg (by omega)]
      · by_cases he : e ∈ w
        · rw [b3 e he] at z
          have := Option.some.inj z
          omega
        · rw [b2 e he] at z
          exact a2 p e (by omega) z
  obtain ⟨A, r, a1, _⟩ := key S.1.length (Nat.le_refl _)
  refine ⟨A, r, List.ext_getElem? fun p => ?_⟩
  rw [a1]
  by_cases c : p < S.1.length
  · rw [if_pos c]
  · rw [if_neg c, List.getElem?_eq_none (by omega), List.getElem?_eq_none (by omega)]
/-- a group goes through a door, one by one -/
theorem through {n : Nat} {ds : List (Nat × Nat)} (T : Tree n ds) {d u v : Nat} (j : Joins ds d u v) : ∀ (L : List Nat) (S : S2), StOk n ds S → L.Nodup → (∀ y ∈ L, S.1[y]? = some u) → (∀ y, L.head? = some y → S.2[d]? ≠ some y) →
    ∃ A, Rc ds S A ∧ (∀ y ∈ L, A.1[y]? = some v) ∧ ∀ y, y ∉ L → A.1[y]? = S.1[y]?
  | [], S, _, _, _, _ => ⟨S, .refl, fun _ h => (nomatch h), fun _ _ => rfl⟩
  | y :: L, S, o, nd, hu, hd => by
    obtain ⟨n1, n2⟩ := List.nodup_cons.mp nd
    have hy := hu y List.mem_cons_self
    obtain ⟨r1, b1, b2⟩ := go T o hy j (hd y rfl)
    obtain ⟨A, r2, a1, a2⟩ := through T j L (S.1.set y v, S.2.set d y) (r1.ok T o) n2 (fun z hz => by
      show (S.1.set y v)[z]? = _
      rw [List.getElem?_set_ne (fun e : y = z => n1 (by rw [e]; exact hz))]
      exact hu z (List.mem_cons_of_mem _ hz)) (fun z hz q => by
      have q : (S.2.set d y)[d]? = some z := q
      rw [b1] at q
      have e := Option.some.inj q
      subst e
      cases L with
      | nil => cases hz
      | cons a r =>
        cases hz
        exact n1 List.mem_cons_self)
    refine ⟨A, r1.trans r2, fun z hz => ?_, fun z hz => ?_⟩
    · rcases List.mem_cons.mp hz with rfl | hz
      · rw [a2 z n1]
        exact List.getElem?_set_self (get_lt hy)
      · exact a1 z hz
    · rw [a2 z (fun q => hz (List.mem_cons_of_mem _ q))]
      exact List.getElem?_set_ne (fun e : y = z => hz (by rw [← e]; exact List.mem_cons_self))
theorem pass {n : Nat} {ds : List (Nat × Nat)} (T : Tree n ds) {d u v : Nat} (j : Joins ds d u v) {L : List Nat} {S : S2} (o : StOk n ds S) (nd : L.Nodup) (two : 2 ≤ L.length) (hu : ∀ y ∈ L, S.1[y]? = some u) :
    ∃ A, Rc ds S A ∧ (∀ y ∈ L, A.1[y]? = some v) ∧ ∀ y, y ∉ L → A.1[y]? = S.1[y]? := by
  match L, two with
  | a :: b :: r, _ =>
    by_cases c : S.2[d]? = some a
    · obtain ⟨n1, n2⟩ := List.nodup_cons.mp nd
      obtain ⟨n3, n4⟩ := List.nodup_cons.mp n2
      have ab : a ≠ b := fun z => n1 (z ▸ List.mem_cons_self)
      have sw : ∀ y, y ∈ b :: a :: r ↔ y ∈ a :: b :: r := fun y => by
        simp only [List.mem_cons]
        exact ⟨fun h => by rcases h with h | h | h <;> simp [h], fun h => by rcases h with h | h | h <;> simp [h]⟩
      obtain ⟨A, r1, a1, a2⟩ := through T j (b :: a :: r) S o (List.nodup_cons.mpr ⟨fun z => by
        rcases List.mem_cons.mp z with z | z
        · exact ab z.symm
        · exact n3 z, List.nodup_cons.mpr ⟨fun z => n1 (List.mem_cons_of_mem _ z), n4⟩⟩) (fun y hy => hu y ((sw y).mp hy)) (fun y hy => by
        cases hy
        rw [c]
        exact fun z => ab (Option.some.inj z))
      exact ⟨A, r1, fun y hy => a1 y ((sw y).mpr hy), fun y hy => a2 y fun z => hy ((sw y).mp z)⟩
    · exact through T j (a :: b :: r) S o nd hu fun y hy => by
        cases hy
        exact c
theorem travel {n : Nat} {ds : List (Nat × Nat)} (T : Tree n ds) {L : List Nat} (nd : L.Nodup) (two : 2 ≤ L.length) {u v : Nat} {w : List Nat} (h : Walk ds u w v) : ∀ S : S2, StOk n ds S → (∀ y ∈ L, S.1[y]? = some u) →
    ∃ A, Rc ds S A ∧ (∀ y ∈ L, A.1[y]? = some v) ∧ ∀ y, y ∉ L → A.1[y]? = S.1[y]? := by
  induction h with
  | nil a => exact fun S _ h => ⟨S, .refl, h, fun _ _ => rfl⟩
  | cons j w ih =>
    intro S o hu
    obtain ⟨A, r1, a1, a2⟩ := pass T j o nd two hu
    obtain ⟨B, r2, b1, b2⟩ := ih A (r1.ok T o) a1
    exact ⟨B, r1.trans r2, b1, fun y hy => (b2 y hy).trans (a2 y hy)⟩
theorem collect {n : Nat} {ds : List (Nat × Nat)} (T : Tree n ds) : ∀ (k : Nat) (L : List Nat) (S : S2) (u : Nat), k + L.length = S.1.length → StOk n ds S → L.Nodup → 2 ≤ L.length → (∀ y ∈ L, S.1[y]? = some u) →
    ∃ A v, Rc ds S A ∧ ∀ y, y < S.1.length → A.1[y]? = some v := by
  intro k
  induction k with
  | zero =>
    intro L S u hk o nd two hu
    refine ⟨S, u, .refl, fun y hy => hu y ?_⟩
    refine Classical.byContradiction fun z => ?_
    have := nodup_le S.1.length (y :: L) (List.nodup_cons.mpr ⟨z, nd⟩) fun x hx => by
      rcases List.mem_cons.mp hx with rfl | hx
      · exact hy
      · exact get_lt (hu x hx)
    rw [List.length_cons] at this
    omega
  | succ k ih =>
    intro L S u hk o nd two hu
    obtain ⟨r, hr, nr⟩ : ∃ r, r < S.1.length ∧ r ∉ L := by
      refine Classical.byContradiction fun z => ?_
      have all : ∀ r, r < S.1.length → r ∈ L := fun r hr => Classical.byContradiction fun q => z ⟨r, hr, q⟩
      have : (List.range S.1.length).length ≤ L.length := by
        have sub : ∀ (A B : List Nat), A.Nodup → (∀ x ∈ A, x ∈ B) → A.length ≤ B.length := by
          intro A
          induction A with
          | nil => exact fun _ _ _ => Nat.zero_le _
          | cons a s ih2 =>
            intro B nd2 h
            obtain ⟨m1, m2⟩ := List.nodup_cons.mp nd2
            have ha := h a List.mem_cons_self
            have := ih2 (B.erase a) m2 fun x hx => (List.mem_erase_of_ne (fun e : x = a => m1 (by rw [← e]; exact hx))).mpr (h x (List.mem_cons_of_mem _ hx))
            rw [List.length_erase_of_mem ha] at this
            have := List.length_pos_of_mem ha
            rw [List.length_cons]
            omega
        exact sub _ _ List.nodup_range fun x hx => all x (List.mem_range.mp hx)
      rw [List.length_range] at this
      omega
    obtain ⟨x, hx⟩ : ∃ x, S.1[r]? = some x := get_of rfl hr
    obtain ⟨a, ha⟩ : ∃ a, a ∈ L := by
      cases L with
      | nil => simp at two
      | cons a s => exact ⟨a, List.mem_cons_self⟩
    have un := o.rooms u (List.mem_of_getElem? (hu a ha))
    have xn := o.rooms x (List.mem_of_getElem? hx)
    obtain ⟨w, hw⟩ := walk_of T un xn
    obtain ⟨A, r1, a1, a2⟩ := travel T nd two hw S o hu
    obtain ⟨B, v, r2, b⟩ := ih (r :: L) A x (by rw [List.length_cons, r1.len]; omega) (r1.ok T o) (List.nodup_cons.mpr ⟨nr, nd⟩) (by rw [List.length_cons]; omega) fun y hy => by
      rcases List.mem_cons.mp hy with rfl | hy
      · rw [a2 y nr]
        exact hx
      · exact a1 y hy
    exact ⟨B, v, r1.trans r2, fun y hy => b y (by rw [r1.len]; exact hy)⟩
/-- two who can meet: all can be in any room -/
theorem gather {n : Nat} {ds : List (Nat × Nat)} {S : S2} (T : Tree n ds) (o : StOk n ds S) {p q z t : Nat} (pq : p ≠ q) (hp : Rg ds S p z) (hq : Rg ds S q z) (ht : t < n) : ∃ A, Rc ds S A ∧ A.1 = List.replicate S.1.length t := by
  have lp : p < S.1.length := by obtain ⟨u, w, h, _⟩ := hp; exact get_lt h
  have lq : q < S.1.length := by obtain ⟨u, w, h, _⟩ := hq; exact get_lt h
  obtain ⟨A, r1, a1⟩ := place T o (rooms := (S.1.set p z).set q z) (by rw [List.length_set, List.length_set]) fun y x hx => by
    by_cases c : q = y
    · subst c
      rw [List.getElem?_set_self (by rw [List.length_set]; exact lq)] at hx
      cases hx
      exact hq
    · rw [List.getElem?_set_ne c] at hx
      by_cases c2 : p = y
      · subst c2
        rw [List.getElem?_set_self lp] at hx
        cases hx
        exact hp
      · rw [List.getElem?_set_ne c2] at hx
        exact .here hx
  have o1 := r1.ok T o
  have two : 2 ≤ S.1.length := by omega
  have hA : ∀ y ∈ [p, q], A.1[y]? = some z := fun y hy => by
    rw [a1]
    rcases List.mem_cons.mp hy with rfl | hy
    · rw [List.getElem?_set_ne (Ne.symm pq), List.getElem?_set_self lp]
    · rw [List.mem_singleton.mp hy, List.getElem?_set_self (by rw [List.length_set]; exact lq)]
  obtain ⟨B, v, r2, b⟩ := collect T (A.1.length - 2) [p, q] A z (by rw [r1.len]; show S.1.length - 2 + 2 = _; omega) o1 (by simp [pq]) (Nat.le_refl _) hA
  have o2 := r2.ok T o1
  have lB := r2.len.trans r1.len
  have bA : ∀ y ∈ List.range S.1.length, B.1[y]? = some v := fun y hy => b y (by rw [r1.len]; exact List.mem_range.mp hy)
  have vn := o2.rooms v (List.mem_of_getElem? (bA p (List.mem_range.mpr lp)))
  obtain ⟨w, hw⟩ := walk_of T vn ht
  obtain ⟨C, r3, c1, _⟩ := travel T List.nodup_range (by rw [List.length_range]; exact two) hw B o2 bA
  refine ⟨C, (r1.trans r2).trans r3, List.ext_getElem? fun y => ?_⟩
  by_cases c : y < S.1.length
  · rw [c1 y (List.mem_range.mpr c), List.getElem?_replicate, if_pos c]
  · rw [List.getElem?_eq_none (by rw [r3.len, lB]; omega), List.getElem?_eq_none (by rw [List.length_replicate]; omega)]
end K5

namespace K5
open PySem PySem.Spec PyProof.Rows L2
/-- no room belongs to two -/
def Apt (ds : List (Nat × Nat)) (S : S2) : Prop := ∀ p q x, Rg ds S p x → Rg ds S q x → p = q
theorem Can.is {n : Nat} {ds : List (Nat × Nat)} {S : S2} {m : Mv} (T : Tree n ds) (o : StOk n ds S) (c : Can ds S m) : ∃ d, Joins ds d m.2.1 m.2.2 ∧ S.1[m.1]? = some m.2.1 ∧ S.2[d]? ≠ some m.1 ∧ (nxt ds S m).1 = S.1.set m.1 m.2.2 ∧
    (nxt ds S m).2[d]? = some m.1 ∧ ∀ e, e ≠ d → (nxt ds S m).2[e]? = S.2[e]? := by
  obtain ⟨h1, h2, d, j, h3⟩ := c
  have ed := dix_is T j
  refine ⟨d, j, h2, h3, rfl, ?_, fun e ne => ?_⟩
  · show (S.2.set (dix ds m.2.1 m.2.2) m.1)[d]? = _
    rw [ed]
    exact List.getElem?_set_self (by rw [o.doors]; exact joins_lt j)
  · show (S.2.set (dix ds m.2.1 m.2.2) m.1)[e]? = _
    rw [ed]
    exact List.getElem?_set_ne (Ne.symm ne)
theorem ends_of {ds : List (Nat × Nat)} {d u v x y : Nat} (j : Joins ds d u v) (k : Joins ds d x y) : u = x ∨ u = y := by
  rcases j with q | q <;> rcases k with r | r <;> rw [q] at r <;> cases r
  · exact .inl rfl
  · exact .inr rfl
  · exact .inr rfl
  · exact .inl rfl
/-- who uses the door within its region reaches both its ends -/
theorem Rg.ends {ds : List (Nat × Nat)} {S : S2} {q a x d u v : Nat} {w : List Nat} (h1 : S.1[q]? = some a) (h2 : Walk ds a w x) (h3 : ∀ e ∈ w, S.2[e]? ≠ some q) (hd : d ∈ w) (j : Joins ds d u v) : Rg ds S q u := by
  obtain ⟨p1, p2, x', y', rfl, w1, j1, w2⟩ := h2.split hd
  have r1 : Rg ds S q x' := ⟨a, p1, h1, w1, fun e he => h3 e (List.mem_append_left _ he)⟩
  rcases ends_of j j1 with e | e
  · rw [e]; exact r1
  · rw [e]; exact r1.on j1 (h3 d hd)
theorem Apt.step {n : Nat} {ds : List (Nat × Nat)} {S : S2} {m : Mv} (T : Tree n ds) (o : StOk n ds S) (a : Apt ds S) (c : Can ds S m) {q x : Nat} (h : Rg ds (nxt ds S m) q x) : Rg ds S q x := by
  obtain ⟨d, j, hp, nb, e1, b1, b2⟩ := c.is T o
  have pu : Rg ds S m.1 m.2.1 := .here hp
  obtain ⟨u, w0, h1, h2, h3⟩ := h
  obtain ⟨w, w1, w2, w3⟩ := short h2
  have h3 : ∀ e ∈ w, (nxt ds S m).2[e]? ≠ some q := fun e he => h3 e (w3 e he)
  rw [e1] at h1
  by_cases cq : m.1 = q
  · subst cq
    rw [List.getElem?_set_self (get_lt hp)] at h1
    cases h1
    refine ⟨m.2.1, d :: w, hp, .cons j w1, fun e he => ?_⟩
    rcases List.mem_cons.mp he with rfl | he
    · exact nb
    · have ne : e ≠ d := fun z => h3 e he (z ▸ b1)
      rw [← b2 e ne]
      exact h3 e he
  · rw [List.getElem?_set_ne cq] at h1
    by_cases cd : d ∈ w
    · obtain ⟨p1, p2, x', y', rfl, v1, j1, v2⟩ := w1.split cd
      have nd1 : d ∉ p1 := fun z => (List.nodup_append.mp w2).2.2 d z d List.mem_cons_self rfl
      have r1 : Rg ds S q x' := ⟨u, p1, h1, v1, fun e he => by
        have ne : e ≠ d := fun z => nd1 (z ▸ he)
        rw [← b2 e ne]
        exact h3 e (List.mem_append_left _ he)⟩
      have : Rg ds S m.1 x' := by
        rcases ends_of j1 j with e | e
        · rw [e]; exact pu
        · rw [e]; exact pu.on j nb
      exact absurd (a _ _ _ this r1) cq
    · exact ⟨u, w, h1, w1, fun e he => by
        have ne : e ≠ d := fun z => cd (z ▸ he)
        rw [← b2 e ne]
        exact h3 e he⟩
theorem Apt.next {n : Nat} {ds : List (Nat × Nat)} {S : S2} {m : Mv} (T : Tree n ds) (o : StOk n ds S) (a : Apt ds S) (c : Can ds S m) : Apt ds (nxt ds S m) := fun p q x h1 h2 => a p q x (a.step T o c h1) (a.step T o c h2)
/-- apart: where the people are tells whom the doors bar -/
structure Told (ds : List (Nat × Nat)) (S A : S2) : Prop where
  len : A.1.length = S.1.length
  ways : ∀ p v : Nat, A.1[p]? = some v → ∃ u w, S.1[p]? = some u ∧ Walk ds u w v ∧ w.Nodup ∧ (∀ e ∈ w, S.2[e]? ≠ some p) ∧ ∀ e ∈ w, A.2[e]? = some p
  rest : ∀ e : Nat, (∀ (p u v : Nat) (w : List Nat), S.1[p]? = some u → A.1[p]? = some v → Walk ds u w v → w.Nodup → e ∉ w) → A.2[e]? = S.2[e]?
theorem told {n : Nat} {ds : List (Nat × Nat)} {S A : S2} (T : Tree n ds) (o : StOk n ds S) (a : Apt ds S) (h : Rc ds S A) : Told ds S A := by
  induction h with
  | refl => exact ⟨rfl, fun p v h => ⟨v, [], h, .nil _, List.nodup_nil, (fun _ h => nomatch h), (fun _ h => nomatch h)⟩, fun _ _ => rfl⟩
  | @step A m r c ih =>
    have oA := r.ok T o
    obtain ⟨d, j, hp, nb, e1, b1, b2⟩ := c.is T oA
    obtain ⟨u0, w, hu, hw, nw, out, bars⟩ := ih.ways _ _ hp
    have dw : d ∉ w := fun z => nb (bars d z)
    have here : Rg ds S m.1 m.2.1 := ⟨u0, w, hu, hw, out⟩
    -- nobody else came through d
    have else_ : ∀ (q u v : Nat) (w' : List Nat), q ≠ m.1 → S.1[q]? = some u → A.1[q]? = some v → Walk ds u w' v → w'.Nodup → d ∉ w' := fun q u v w' ne h1 h2 h3 h4 z => by
      obtain ⟨u2, w2, g1, g2, g3, g4, g5⟩ := ih.ways q v h2
      rw [h1] at g1
      cases g1
      have := way_unique T h3 g2 h4 g3
      subst this
      have r2 : Rg ds S q m.2.1 := Rg.ends h1 h3 g4 z j
      exact ne (a _ _ _ r2 here)
    have sd : S.2[d]? ≠ some m.1 := by
      have : A.2[d]? = S.2[d]? := ih.rest d fun p u v w' h1 h2 h3 h4 => by
        by_cases cp : p = m.1
        · subst cp
          rw [hu] at h1
          cases h1
          rw [hp] at h2
          cases h2
          rw [way_unique T h3 hw h4 nw]
          exact dw
        · exact else_ p u v w' cp h1 h2 h3 h4
      rw [← this]
      exact nb
    have nwd : (w ++ [d]).Nodup := List.nodup_append.mpr ⟨nw, by simp, fun x hx y hy z => dw (by rw [List.mem_singleton] at hy; rw [← hy, ← z]; exact hx)⟩
    refine ⟨by rw [e1, List.length_set]; exact ih.len, fun p v hv => ?_, fun e he => ?_⟩
    · rw [e1] at hv
      by_cases cp : m.1 = p
      · subst cp
        rw [List.getElem?_set_self (get_lt hp)] at hv
        cases hv
        refine ⟨u0, w ++ [d], hu, hw.snoc j, nwd, fun e he => ?_, fun e he => ?_⟩
        · rcases List.mem_append.mp he with he | he
          · exact out e he
          · rw [List.mem_singleton.mp he]
            exact sd
        · rcases List.mem_append.mp he with he | he
          · rw [b2 e (fun z => dw (z ▸ he))]
            exact bars e he
          · rw [List.mem_singleton.mp he]
            exact b1
      · rw [List.getElem?_set_ne cp] at hv
        obtain ⟨u2, w2, g1, g2, g3, g4, g5⟩ := ih.ways p v hv
        refine ⟨u2, w2, g1, g2, g3, g4, fun e he => ?_⟩
        rw [b2 e (fun z => else_ p u2 v w2 (Ne.symm cp) g1 hv g2 g3 (z ▸ he))]
        exact g5 e he
    · have ed : e ≠ d := fun z => he m.1 u0 m.2.2 (w ++ [d]) hu (by rw [e1]; exact List.getElem?_set_self (get_lt hp)) (hw.snoc j) nwd (z ▸ List.mem_append_right _ List.mem_cons_self)
      rw [b2 e ed]
      refine ih.rest e fun p u v w' h1 h2 h3 h4 z => ?_
      by_cases cp : m.1 = p
      · subst cp
        rw [hu] at h1
        cases h1
        rw [hp] at h2
        cases h2
        have := way_unique T h3 hw h4 nw
        subst this
        exact he m.1 u0 m.2.2 (w' ++ [d]) hu (by rw [e1]; exact List.getElem?_set_self (get_lt hp)) (hw.snoc j) nwd (List.mem_append_left _ z)
      · exact he p u v w' h1 (by rw [e1, List.getElem?_set_ne cp]; exact h2) h3 h4 z
theorem apt_inj {n : Nat} {ds : List (Nat × Nat)} {S A B : S2} (T : Tree n ds) (o : StOk n ds S) (a : Apt ds S) (hA : Rc ds S A) (hB : Rc ds S B) (h : A.1 = B.1) : A = B := by
  have tA := told T o a hA
  have tB := told T o a hB
  refine Prod.ext h (List.ext_getElem? fun e => ?_)
  by_cases c : ∃ (p u v : Nat) (w : List Nat), S.1[p]? = some u ∧ A.1[p]? = some v ∧ Walk ds u w v ∧ w.Nodup ∧ e ∈ w
  · obtain ⟨p, u, v, w, h1, h2, h3, h4, h5⟩ := c
    obtain ⟨u1, w1, g1, g2, g3, g4, g5⟩ := tA.ways p v h2
    obtain ⟨u2, w2, k1, k2, k3, k4, k5⟩ := tB.ways p v (by rw [← h]; exact h2)
    rw [h1] at g1 k1
    cases g1
    cases k1
    rw [g5 e (by rw [← way_unique T h3 g2 h4 g3]; exact h5), k5 e (by rw [← way_unique T h3 k2 h4 k3]; exact h5)]
  · rw [tA.rest e fun p u v w h1 h2 h3 h4 z => c ⟨p, u, v, w, h1, h2, h3, h4, z⟩, tB.rest e fun p u v w h1 h2 h3 h4 z => c ⟨p, u, v, w, h1, by rw [h]; exact h2, h3, h4, z⟩]
theorem apt_in {n : Nat} {ds : List (Nat × Nat)} {S A : S2} (T : Tree n ds) (o : StOk n ds S) (a : Apt ds S) (hA : Rc ds S A) {p v : Nat} (h : A.1[p]? = some v) : Rg ds S p v := by
  obtain ⟨u, w, g1, g2, g3, g4, g5⟩ := (told T o a hA).ways p v h
  exact ⟨u, w, g1, g2, g4⟩
/-- all choices of a room in each list -/
def prodL : List (List Nat) → List (List Nat)
  | Ls => Ls.foldl (fun acc L => acc.flatMap fun pre => L.map fun x => pre ++ [x]) [[]]
theorem prodL_snoc (Ls : List (List Nat)) (L : List Nat) : prodL (Ls ++ [L]) = (prodL Ls).flatMap fun pre => L.map fun x => pre ++ [x] := by
  unfold prodL
  rw [List.foldl_append]
  rfl
theorem snoc_ind {α : Type} {P : List α → Prop} (h0 : P []) (h1 : ∀ l x, P l → P (l ++ [x])) : ∀ l, P l := by
  have key : ∀ (n : Nat) (l : List α), l.length = n → P l := by
    intro n
    induction n with
    | zero => exact fun l h => by rw [List.length_eq_zero_iff.mp h]; exact h0
    | succ n ih =>
      intro l h
      rcases snoc_nil l with rfl | ⟨r, x, rfl⟩
      · exact h0
      · exact h1 r x (ih r (by rw [List.length_append, List.length_singleton] at h; omega))
  exact fun l => key l.length l rfl
theorem prodL_mem : ∀ (Ls : List (List Nat)) (X : List Nat), X ∈ prodL Ls ↔ X.length = Ls.length ∧ ∀ p x : Nat, X[p]? = some x → ∃ L, Ls[p]? = some L ∧ x ∈ L := by
  refine snoc_ind ?_ ?_
  · intro X
    show X ∈ [[]] ↔ _
    rw [List.mem_singleton]
    constructor
    · rintro rfl
      exact ⟨rfl, fun p x h => by simp at h⟩
    · rintro ⟨h, _⟩
      exact List.length_eq_zero_iff.mp h
  · intro Ls L ih X
    rw [prodL_snoc, List.mem_flatMap]
    constructor
    · rintro ⟨pre, hp, hX⟩
      obtain ⟨x, hx, rfl⟩ := List.mem_map.mp hX
      obtain ⟨l1, l2⟩ := (ih pre).mp hp
      refine ⟨by rw [List.length_append, List.length_append, l1]; rfl, fun p y hy => ?_⟩
      by_cases c : p < pre.length
      · rw [List.getElem?_append_left c] at hy
        obtain ⟨M, m1, m2⟩ := l2 p y hy
        exact ⟨M, by rw [List.getElem?_append_left (get_lt m1)]; exact m1, m2⟩
      · have := get_lt hy
        rw [List.length_append, List.length_singleton] at this
        have e : p = pre.length := by omega
        subst e
        rw [List.getElem?_append_right (Nat.le_refl _), Nat.sub_self] at hy
        cases hy
        refine ⟨L, ?_, hx⟩
        rw [l1, List.getElem?_append_right (Nat.le_refl _), Nat.sub_self]
        rfl
    · rintro ⟨l1, l2⟩
      rcases snoc_nil X with rfl | ⟨pre, x, rfl⟩
      · rw [List.length_append, List.length_singleton] at l1
        simp at l1
      · rw [List.length_append, List.length_append, List.length_singleton, List.length_singleton] at l1
        have l1 : pre.length = Ls.length := by omega
        refine ⟨pre, (ih pre).mpr ⟨l1, fun p y hy => ?_⟩, ?_⟩
        · have lp := get_lt hy
          obtain ⟨M, m1, m2⟩ := l2 p y (by rw [List.getElem?_append_left lp]; exact hy)
          rw [List.getElem?_append_left (by omega)] at m1
          exact ⟨M, m1, m2⟩
        · obtain ⟨M, m1, m2⟩ := l2 pre.length x (by rw [List.getElem?_append_right (Nat.le_refl _), Nat.sub_self]; rfl)
          rw [l1, List.getElem?_append_right (Nat.le_refl _), Nat.sub_self] at m1
          cases m1
          exact List.mem_map.mpr ⟨x, m2, rfl⟩
theorem prodL_nd : ∀ (Ls : List (List Nat)), (∀ L ∈ Ls, L.Nodup) → (prodL Ls).Nodup := by
  refine snoc_ind ?_ ?_
  · intro _
    show [[]].Nodup
    simp
  · intro Ls L ih h
    rw [prodL_snoc]
    show List.Pairwise (· ≠ ·) _
    rw [List.pairwise_flatMap]
    refine ⟨fun pre _ => ?_, (ih fun M hM => h M (List.mem_append_left _ hM)).imp fun {a b} ne => fun x hx y hy z => ?_⟩
    · rw [List.pairwise_map]
      refine List.Pairwise.imp (R := fun x y : Nat => x ≠ y) (S := fun x y => pre ++ [x] ≠ pre ++ [y]) (fun {x y} ne z => ne ?_) (h L (List.mem_append_right _ List.mem_cons_self))
      have z2 : [x] = [y] := (List.append_inj' z rfl).2
      exact List.head_eq_of_cons_eq z2
    · obtain ⟨u, _, rfl⟩ := List.mem_map.mp hx
      obtain ⟨v, _, rfl⟩ := List.mem_map.mp hy
      exact ne (List.append_inj' z rfl).1
/-- the product of the lengths -/
def prodN : List (List Nat) → Nat
  | Ls => Ls.foldl (fun k L => k * L.length) 1
theorem prodN_snoc (Ls : List (List Nat)) (L : List Nat) : prodN (Ls ++ [L]) = prodN Ls * L.length := by
  unfold prodN
  rw [List.foldl_append]
  rfl
theorem prodL_len : ∀ Ls : List (List Nat), (prodL Ls).length = prodN Ls := by
  refine snoc_ind rfl ?_
  intro Ls L ih
  rw [prodL_snoc, prodN_snoc, ← ih]
  generalize prodL Ls = M
  induction M with
  | nil => simp
  | cons a r ih2 => rw [List.flatMap_cons, List.length_append, ih2, List.length_map, List.length_cons, Nat.succ_mul, Nat.add_comm]
theorem prodN_le : ∀ (Ls Ms : List (List Nat)), Ls.length = Ms.length → (∀ (p : Nat) (L M : List Nat), Ls[p]? = some L → Ms[p]? = some M → L.length ≤ M.length) → prodN Ls ≤ prodN Ms := by
  refine snoc_ind ?_ ?_
  · intro Ms h _
    have : Ms = [] := List.length_eq_zero_iff.mp h.symm
    subst this
    exact Nat.le_refl _
  · intro Ls L ih Ms h f
    rcases snoc_nil Ms with rfl | ⟨Ms, M, rfl⟩
    · simp at h
    · rw [List.length_append, List.length_append, List.length_singleton, List.length_singleton] at h
      have h : Ls.length = Ms.length := by omega
      rw [prodN_snoc, prodN_snoc]
      refine Nat.mul_le_mul (ih Ms h fun p A B a b => f p A B (by rw [List.getElem?_append_left (get_lt a)]; exact a) (by rw [List.getElem?_append_left (get_lt b)]; exact b)) ?_
      exact f Ls.length L M (by rw [List.getElem?_append_right (Nat.le_refl _), Nat.sub_self]; rfl) (by rw [h, List.getElem?_append_right (Nat.le_refl _), Nat.sub_self]; rfl)
end K5

namespace K5
open PySem PySem.Spec PyProof.Rows L2
theorem ex_memA {ds : List (Nat × Nat)} {ex : Nat → List (Nat × Nat)} {k : Nat} {e : Nat × Nat} (he : ds[k]? = some e) (ne : e.1 ≠ e.2) (mem : ∀ x d y, (y, d) ∈ ex x ↔ d < k ∧ Joins ds d x y) (x d y : Nat) :
    (y, d) ∈ (if x = e.2 then (if x = e.1 then ex x ++ [(e.2, k)] else ex x) ++ [(e.1, k)] else if x = e.1 then ex x ++ [(e.2, k)] else ex x) ↔ d < k + 1 ∧ Joins ds d x y := by
  have J : Joins ds k x y ↔ (x = e.1 ∧ y = e.2) ∨ (x = e.2 ∧ y = e.1) := by
    unfold Joins
    rw [he]
    constructor
    · rintro (h | h)
      · have h := Option.some.inj h
        exact .inl ⟨by rw [h], by rw [h]⟩
      · have h := Option.some.inj h
        exact .inr ⟨by rw [h], by rw [h]⟩
    · rintro (⟨rfl, rfl⟩ | ⟨rfl, rfl⟩)
      · exact .inl rfl
      · exact .inr rfl
  have step : (d < k + 1 ∧ Joins ds d x y) ↔ (d < k ∧ Joins ds d x y) ∨ (d = k ∧ ((x = e.1 ∧ y = e.2) ∨ (x = e.2 ∧ y = e.1))) := by
    constructor
    · rintro ⟨h1, h2⟩
      by_cases q : d = k
      · subst q
        exact .inr ⟨rfl, J.mp h2⟩
      · exact .inl ⟨by omega, h2⟩
    · rintro (⟨h1, h2⟩ | ⟨rfl, h2⟩)
      · exact ⟨by omega, h2⟩
      · exact ⟨by omega, J.mpr h2⟩
  rw [step, ← mem x d y]
  by_cases h2 : x = e.2
  · have h1 : ¬ x = e.1 := fun z => ne (z.symm.trans h2)
    rw [if_pos h2, if_neg h1, List.mem_append, List.mem_singleton, Prod.mk.injEq]
    simp [h1, h2, ne.symm, and_comm]
  · rw [if_neg h2]
    by_cases h1 : x = e.1
    · rw [if_pos h1, List.mem_append, List.mem_singleton, Prod.mk.injEq]
      simp [h1, ne, and_comm]
    · rw [if_neg h1]
      simp [h1, h2]
def spAround (K : PySem.W.Frag) : Sp := fun vs H Q _ => ∃ (a : Addr) (ds : List (Nat × Nat)) (n : Nat), vs = [.ref a] ∧ HouseAt K H a ds ∧ Tree n ds ∧ n ≤ 1000 ∧
  ∀ (H' : Hp) (p : Addr) (ps : List Addr) (ex : Nat → List (Nat × Nat)), Same H H' → H p = none → H' p = some (.lst (ps.map V.ref)) → ps.length = n → Rows H' ps ex → (∀ x d y, (y, d) ∈ ex x ↔ Joins ds d x y) → (∀ x, (ex x).Nodup) → (∀ x ∈ ps, H x = none) → Q (.ref p) H'
section
variable {P : Program} {w : World} {K : PySem.W.Frag}
      {mg : Str → Option Value} {base : Heap}
theorem ok_around (T : Bl mg) (D : Def K mg "_law_around" s_l_around) : Cal P w K mg base "_law_around" ["_law_layout"] 1 (spAround K) := by
  refine D.ok sc_l_around (fun _ _ _ _ _ _ us hl => match us, hl with | [_], _ => rfl) (fun vs H Q E h => ?_) (fun f cdv A outer s H vs Q E hr h => ?_)
  · obtain ⟨a, ds, n, rfl, _⟩ := h
    rfl
  obtain ⟨a, ds, n, rfl, hH, tree, hn, q⟩ := h
  obtain ⟨rs, hrs, hlen, hds⟩ := id hH
  have hdn := tree.len
  refine ⟨_, (pss_cons (ps_setLc (i := 1) (own := [("_law_spot", 2)]) (g := gName 2)  rfl sc_l_around.nd rfl rfl (sw_true rfl rfl rfl (by decide +kernel)) (pi_range1 rfl T.range (pa_cons (pe_op op_add (pe_callB call_len_seq (by rfl) T.len PySem.boot_len (pa_cons (pv 0) pa_nil)) pe_int) pa_nil)) (blkOk_by (N := N_l_around) (sc := defScope s_l_around) (own := [("_law_spot", 2)]) (by decide +kernel)) (fun _ _ _ _ _ => (pg_name (i := 2) sc_l_around.nd rfl (.inl rfl) (.inr rfl))) (fun _ _ _ _ _ => pts_nil) (fun _ _ _ _ _ => (pe_lst pa_nil)))
    (pss_cons (ps_for PassesOwn.never rfl (pi_enumT (by rfl) T.enumerate (pa_cons (pv 0) pa_nil)) (pg_tup (n := 2) rfl (pgs_cons (pg_name (i := 3) sc_l_around.nd rfl (.inl rfl)) (pgs_cons (pg_tup (n := 2) rfl (pgs_cons (pg_name (i := 4) sc_l_around.nd rfl (.inl rfl)) (pgs_cons (pg_name (i := 5) sc_l_around.nd rfl (.inl rfl)) pgs_nil))) pgs_nil)))
    (pss_cons (ps_expr (pe_bm PySem.F.plainAttrs_list PySem.F.slot_list_append PySem.F.type_list_append mt_append (pe_ix ix_list (pv 1) (pv 4) (fun _ _ => rfl)) (pa_cons (pe_tup (pa_cons (pv 5) (pa_cons (pv 3) pa_nil))) pa_nil)))
    (pss_one (ps_expr (pe_bm PySem.F.plainAttrs_list PySem.F.slot_list_append PySem.F.type_list_append mt_append (pe_ix ix_list (pv 1) (pv 5) (fun _ _ => rfl)) (pa_cons (pe_tup (pa_cons (pv 4) (pa_cons (pv 3) pa_nil))) pa_nil))))))
    (pss_one (ps_ret (pv 1))))), ?_⟩
  have en : (((rs.map V.ref).length : Nat) : Int) + 1 = ((n : Nat) : Int) := by
    rw [List.length_map, hlen]
    omega
  refine ⟨_, rfl, _, _, rfl, .inr hrs, _, _, rfl, rfl, (n : Int), congrArg (fun z => [V.int z]) en, by omega, by omega, fun p np => ?_⟩
  refine lc_range (lo := 0) (n := n) (fun i H1 => ∃ ps : List Addr, Same H H1 ∧ H1 p = some (.lst (ps.map V.ref)) ∧ ps.length = i ∧ ps.Nodup ∧ ∀ x ∈ ps, H x = none ∧ H1 x = some (.lst [])) ?_ ?_ ?_
  · exact ⟨[], Same.upd np, upd_same, rfl, List.nodup_nil, fun _ h => nomatch h⟩
  · rintro i H1 hi ⟨ps, sm, hp, hl, nd, hx⟩
    refine ⟨rfl, lcYes ?_⟩
    refine ⟨Nat.zero_le _, fun x nx => ?_⟩
    have npx : p ≠ x := ne_of_none hp nx
    have xps : x ∉ ps := fun m => by
      rw [(hx x m).2] at nx
      cases nx
    have pps : p ∉ ps := fun m => by
      have h1 := (hx p m).2
      rw [hp] at h1
      cases ps with
      | nil => cases m
      | cons a r => cases h1
    refine ⟨ps.map V.ref, by rw [upd_ne npx]; exact hp, ?_, ps ++ [x], (sm.trans (Same.upd nx)).at np, ?_, by simp [hl], ?_, fun z m => ?_⟩
    · rw [List.length_map]
      exact small1000 (by omega)
    · rw [upd_same, List.map_append]
      rfl
    · exact nd_snoc nd xps
    · rcases List.mem_append.mp m with m | m
      · have ne1 : z ≠ p := fun e => pps (e ▸ m)
        have ne2 : z ≠ x := fun e => xps (e ▸ m)
        rw [upd_ne ne1, upd_ne ne2]
        exact hx z m
      · rw [List.mem_singleton.mp m, upd_ne npx.symm, upd_same]
        exact ⟨sm.free nx, rfl⟩
  · rintro H1 ⟨ps, sm, hp, hl, nd, hx⟩
    have pps : p ∉ ps := fun m => by
      have h1 := (hx p m).2
      rw [hp] at h1
      cases ps with
      | nil => cases m
      | cons a r => cases h1
    refine ⟨_, rfl, a, _, rfl, sm.tup hrs, ?_⟩
    refine for_it (walk_enumT (K := K) (a := a) (xs := rs.map V.ref)) (fun k σ H2 => ∃ ex y2 y3 y4 y5, σ = [some (.ref a), some (.ref p), y2, y3, y4, y5] ∧ Same H H2 ∧ H2 p = some (.lst (ps.map V.ref)) ∧ Rows H2 ps ex ∧
        (∀ x d y, (y, d) ∈ ex x ↔ d < k ∧ Joins ds d x y) ∧ (∀ x, (ex x).length ≤ 2 * k) ∧ ∀ x, (ex x).Nodup)
      ⟨fun _ => [], _, _, _, _, rfl, sm, hp, fun x q e => ⟨[], (hx q (List.mem_of_getElem? e)).2, rfl, fun i t e h => by simp at h⟩, fun x d y => by simp, fun x => Nat.zero_le _, fun x => List.nodup_nil⟩
      (fun i σ H1 _ ⟨_, _, _, _, _, _, sm, _⟩ => sm.tup hrs) ?_ ?_
    · rintro k x σ H2 H3 hk ⟨ex, y2, y3, y4, y5, rfl, sm2, hp2, ro, mem, le, nod⟩ ⟨t, x1, x2, rfl, nt, rfl, ex1, ex2⟩
      cases ex1
      have hk' : k < ds.length := by
        rw [List.length_map, hlen] at hk
        exact hk
      obtain ⟨e, he⟩ : ∃ e, ds[k]? = some e := get_of rfl hk'
      obtain ⟨r, hr0⟩ : ∃ r, rs[k]? = some r := get_of hlen hk'
      have ex2' : V.ref r = x2 := by
        have ex2 : (rs.map V.ref)[k]? = some x2 := ex2
        rw [List.getElem?_map, hr0] at ex2
        exact Option.some.inj ex2
      subst ex2'
      have elt := tree.lt e (List.mem_of_getElem? he)
      obtain ⟨side, s1, s2⟩ := tree.side
      have ene : e.1 ≠ e.2 := fun z => s1 k e he (by rw [z])
      have smt : Same H2 (upd H2 t (.tup [.int (k : Nat), .ref r])) := Same.upd nt
      have sm3 := sm2.trans smt
      have hp3 := smt _ _ hp2
      have ro3 := ro.same smt
      refine ⟨t, _, rfl, SqT.of upd_same, rfl, _, _, rfl, _, _, rfl, ⟨r, _, rfl, sm3.tup (hds k r e hr0 he), rfl, _, _, rfl, _, _, rfl, rfl, rfl, ?_⟩⟩
      generalize upd H2 t (.tup [.int (k : Nat), .ref r]) = H4 at sm3 hp3 ro3 smt
      obtain ⟨q1, hq1⟩ := get_of hl elt.1
      obtain ⟨q2, hq2⟩ := get_of hl elt.2
      obtain ⟨ts1, g1, g2, g3⟩ := ro3 _ _ hq1
      refine ⟨_, rfl, _, rfl, _, _, _, V.ref q1, rfl, rfl, SqL.of hp3, atI_nat (v := V.ref q1) (by rw [List.getElem?_map, hq1]; rfl), .inl ⟨rfl, _, SqL.of g1⟩, _, rfl, _, rfl, by show 2 ≤ sizeLine; decide, fun t1 nt1 => ?_⟩
      refine ⟨q1, _, _, rfl, rfl, by rw [upd_ne (ne_of_none g1 nt1)]; exact g1, by rw [List.length_map, g2]; exact small3k (by have := le e.1; omega), ?_⟩
      have ro4 := ro3.push nd hq1 nt1 (d := e.2) (y := k) g1
      have nq1 : H q1 = none := (hx q1 (List.mem_of_getElem? hq1)).1
      have nq2 : H q2 = none := (hx q2 (List.mem_of_getElem? hq2)).1
      have pq1 : p ≠ q1 := fun z => pps (z ▸ List.mem_of_getElem? hq1)
      have pq2 : p ≠ q2 := fun z => pps (z ▸ List.mem_of_getElem? hq2)
      have sm4 : Same H (upd (upd H4 t1 (.tup [.int (e.2 : Nat), .int (k : Nat)])) q1 (.lst (ts1.map V.ref ++ [V.ref t1]))) := (sm3.trans (Same.upd nt1)).at nq1
      have hp4 : (upd (upd H4 t1 (.tup [.int (e.2 : Nat), .int (k : Nat)])) q1 (.lst (ts1.map V.ref ++ [V.ref t1]))) p = some (.lst (ps.map V.ref)) := by
        rw [upd_ne pq1, upd_ne (ne_of_none hp3 nt1)]
        exact hp3
      generalize (upd (upd H4 t1 (.tup [.int (e.2 : Nat), .int (k : Nat)])) q1 (.lst (ts1.map V.ref ++ [V.ref t1]))) = H5 at ro4 sm4 hp4
      obtain ⟨ts2, f1, f2, f3⟩ := ro4 _ _ hq2
      have f2' : ts2.length = (ex e.2).length := by
        rw [f2]
        simp only [if_neg ene.symm]
      refine ⟨_, rfl, _, rfl, _, _, _, V.ref q2, rfl, rfl, SqL.of hp4, atI_nat (v := V.ref q2) (by rw [List.getElem?_map, hq2]; rfl), .inl ⟨rfl, _, SqL.of f1⟩, _, rfl, _, rfl, by show 2 ≤ sizeLine; decide, fun t2 nt2 => ?_⟩
      refine ⟨q2, _, _, rfl, rfl, by rw [upd_ne (ne_of_none f1 nt2)]; exact f1, by rw [List.length_map, f2']; exact small3k (by have := le e.2; omega), ?_⟩
      refine ⟨_, _, _, _, _, rfl, (sm4.trans (Same.upd nt2)).at nq2, by rw [upd_ne pq2, upd_ne (ne_of_none hp4 nt2)]; exact hp4, ro4.push nd hq2 nt2 (d := e.1) (y := k) f1, fun x d y => ?_, fun x => ?_, fun x => ?_⟩
      · exact ex_memA he ene mem x d y
      · have := le x
        by_cases e2 : x = e.2
        · simp only [e2, if_true, if_neg ene.symm]
          have := le e.2
          simp; omega
        · by_cases e1 : x = e.1
          · simp only [e1, if_true, if_neg ene]
            have := le e.1
            simp; omega
          · simp only [if_neg e1, if_neg e2]
            omega
      · have nk : ∀ y, (y, k) ∉ ex x := fun y z => by
          have := ((mem x k y).mp z).1
          omega
        have sn : ∀ y, (ex x ++ [(y, k)]).Nodup := fun y => nd_snoc (nod x) (nk y)
        by_cases e2 : x = e.2
        · have e1 : ¬ x = e.1 := fun z => ene (z.symm.trans e2)
          simp only [if_pos e2, if_neg e1]
          exact sn _
        · simp only [if_neg e2]
          by_cases e1 : x = e.1
          · simp only [if_pos e1]
            exact sn _
          · simp only [if_neg e1]
            exact nod x
    · rintro σ H2 ⟨ex, y2, y3, y4, y5, rfl, sm2, hp2, ro, mem, le, nod⟩
      refine ⟨_, rfl, q H2 p ps ex sm2 np hp2 hl ro (fun x d y => ?_) nod fun x m => (hx x m).1⟩
      rw [mem x d y]
      refine ⟨fun h => h.2, fun h => ⟨?_, h⟩⟩
      rw [List.length_map, hlen]
      rcases h with h | h
      · exact get_lt h
      · exact get_lt h
end
end K5

namespace K5
open PySem PySem.Spec PyProof.Rows L2
theorem Dfs.front {n ds shut kl ws here} (h : Dfs n ds shut kl (here :: ws)) : DfsIn n ds shut kl ws here [] :=
  ⟨h.nd, h.lt, fun x m => h.sub x (List.mem_cons_of_mem _ m), fun x m nw ne d y j ns => h.cl x m (fun q => by
    rcases List.mem_cons.mp q with q | q
    · exact ne q
    · exact nw q) d y j ns, h.sub here List.mem_cons_self, fun d y m => nomatch m⟩
/-- the rooms that can be reached -/
structure RegSet (ds : List (Nat × Nat)) (shut : List Nat) (room : Nat) (L : List Nat) : Prop where
  nd : L.Nodup
  mem : ∀ x, x ∈ L ↔ ∃ p, Walk ds room p x ∧ ∀ d ∈ p, d ∉ shut
theorem Reg.set {n ds shut room ks} (h : Reg n ds shut room ks) : RegSet ds shut room (ks.map Prod.fst) := ⟨h.df.nd, h.mem⟩
theorem RegSet.perm {ds shut room L M} (a : RegSet ds shut room L) (b : RegSet ds shut room M) : L.Perm M := nodup_perm a.nd b.nd fun x => (a.mem x).trans (b.mem x).symm
theorem RegSet.of_perm {ds shut room L M} (a : RegSet ds shut room L) (p : M.Perm L) : RegSet ds shut room M := ⟨p.nodup_iff.mpr a.nd, fun x => p.mem_iff.trans (a.mem x)⟩
theorem le_unique : ∀ (l m : List Nat), l.Perm m → l.Pairwise (· ≤ ·) → m.Pairwise (· ≤ ·) → l = m
  | [], m, p, _, _ => p.symm.eq_nil.symm
  | a :: r, [], p, _, _ => by have := p.eq_nil; cases this
  | a :: r, b :: s, p, h1, h2 => by
    obtain ⟨h1a, h1b⟩ := List.pairwise_cons.mp h1
    obtain ⟨h2a, h2b⟩ := List.pairwise_cons.mp h2
    have e : a = b := by
      rcases List.mem_cons.mp (p.mem_iff.mp List.mem_cons_self) with e | q
      · exact e
      · rcases List.mem_cons.mp (p.symm.mem_iff.mp List.mem_cons_self) with e | q2
        · exact e.symm
        · have := h1a b q2
          have := h2a a q
          omega
    subst e
    rw [le_unique r s ((List.perm_cons a).mp p) h1b h2b]
def spRegL (K : PySem.W.Frag) : Sp := fun vs H Q _ => ∃ (a s : Addr) (p n : Nat) (ds : List (Nat × Nat)) (S : S2), vs = [.ref a, .ref s, .int (p : Int)] ∧ HouseAt K H a ds ∧ Tree n ds ∧ n ≤ 60 ∧ StateAt K H s S ∧ StOk n ds S ∧ p < S.1.length ∧
  ∀ (H' : Hp) (q : Addr) (L : List Nat), Same H H' → H q = none → H' q = some (.lst (nv L)) → RegSet ds (barr S p) (S.1.getD p 0) L → L.Pairwise (· ≤ ·) → Q (.ref q) H'
section
variable {P : Program} {w : World} {K : PySem.W.Frag}
      {mg : Str → Option Value} {base : Heap}
theorem inV_nv (x : Nat) (l : List Nat) : inV (.int (x : Int)) (nv l) = decide (x ∈ l) := by
  induction l with
  | nil => rfl
  | cons a r ih =>
    show (((a : Int) == (x : Int)) || inV (.int (x : Int)) (nv r)) = _
    rw [ih]
    by_cases h : x = a
    · subst h
      simp
    · have e1 : ((a : Int) == (x : Int)) = false := beq_eq_false_iff_ne.mpr (by omega)
      rw [e1]
      simp [h]
theorem flat_nv (l : List Nat) : (nv l).all flatV = true := by
  induction l with
  | nil => rfl
  | cons a r ih => exact ih
theorem _root_.L2.But.tupN {K : PySem.W.Frag} {H H' : Hp} {g a : Addr} {xs : List V} (e : But g H H') (ng : H g = none) (h : SqT K H a xs) : SqT K H' a xs := by
  rcases h with (z | ⟨o, z⟩) | z
  · exact .inl (.inl (e _ _ (ne_of_none z ng) z))
  · exact .inl (.inr ⟨o, e _ _ (ne_of_none z ng) z⟩)
  · exact .inr z
theorem ok_l_region (T : Bl mg) (D : Def K mg "_law_region" s_l_region) (C_l_around : Cal P w K mg base "_law_around" ["_law_layout"] 1 (spAround K)) : Cal P w K mg base "_law_region" ["_law_layout", "_law_situation", "_law_who"] 2 (spRegL K) := by
  refine D.ok sc_l_region (fun _ _ _ _ _ _ us hl => match us, hl with | [_, _, _], _ => rfl) (fun vs H Q E h => ?_) (fun f cdv A outer s H vs Q E hr h => ?_)
  · obtain ⟨a, s, p, n, ds, S, rfl, _⟩ := h
    rfl
  obtain ⟨a, s, p, n, ds, S, rfl, hH, tree, hn, st, ok, hp, q⟩ := h
  obtain ⟨r, b, h1, h2, h3⟩ := id st
  have hdn := tree.len
  obtain ⟨f_l_around, fd_l_around, g_l_around, k_l_around, b_l_around, G_l_around⟩ := C_l_around
  refine ⟨_, (pss_cons (ps_set (i := 3) sc_l_region.nd rfl (.inl rfl) (pe_call G_l_around (hr.mono (by decide)) (by rfl) g_l_around k_l_around b_l_around .nil pass0 (pa_cons (pv 0) pa_nil)))
    (pss_cons (ps_set (i := 4) sc_l_region.nd rfl (.inl rfl) (pe_lst (pa_cons (pe_ix ix_tup (pe_ix ix_tup (pv 1) pe_int (fun _ _ => rfl)) (pv 2) (fun _ _ => rfl)) pa_nil)))
    (pss_cons (ps_set (i := 5) sc_l_region.nd rfl (.inl rfl) pe_int)
    (pss_cons (ps_while PassesOwn.never (pt_cmpR op_lt (pv 5) (pe_callB call_len_seq (by rfl) T.len PySem.boot_len (pa_cons (pv 4) pa_nil)) (nomark _)) (pss_cons (ps_for PassesOwn.never rfl (pi_list (pe_ix ix_list (pv 3) (pe_ix ix_list (pv 4) (pv 5) (fun _ _ => rfl)) (fun _ _ => rfl))) (pg_tup (n := 2) rfl (pgs_cons (pg_name (i := 6) sc_l_region.nd rfl (.inl rfl)) (pgs_cons (pg_name (i := 7) sc_l_region.nd rfl (.inl rfl)) pgs_nil)))
    (pss_one (ps_if (PW.pt (pw_and (pt_cmpR op_notIn_seq (pv 6) (pv 4) (by rfl)) (pw_and1 (pt_cmpR op_ne (pe_ix ix_tup (pe_ix ix_tup (pv 1) pe_int (fun _ _ => rfl)) (pv 7) (fun _ _ => rfl)) (pv 2) (nomark _))))) (pss_one (ps_expr (pe_bm PySem.F.plainAttrs_list PySem.F.slot_list_append PySem.F.type_list_append mt_append (pv 4) (pa_cons (pv 6) pa_nil)))) pss_nil)))
    (pss_one (ps_set (i := 5) sc_l_region.nd rfl (.inl rfl) (pe_op op_add (pv 5) pe_int)))))
    (pss_one (ps_ret (pe_callB cr_sorted (by rfl) T.sorted (by decide +kernel) (pa_cons (pv 4) pa_nil)))))))), ?_⟩
  obtain ⟨v, hv⟩ : ∃ v, S.1[p]? = some v := get_of rfl hp
  have lv := ok.rooms v (List.mem_of_getElem? hv)
  refine ⟨_, rfl, a, ds, n, rfl, hH, tree, by omega, fun H1 px ps ex s1 npx hpx hpl ro mem nodx _ => ?_⟩
  refine ⟨_, rfl, s, _, _, _, rfl, rfl, s1.tup h1, atI_nat (j := 0) rfl, _, rfl, r, _, _, _, rfl, rfl, s1.tup h2, nv_at hv, by show 1 ≤ sizeLine; decide, fun pf npf => ?_⟩
  have s2 := s1.trans (Same.upd (o := .lst [.int (v : Int)]) npf)
  have npf0 := s1.free npf
  refine ⟨fun m σ H2 => ∃ (L : List Nat) (i : Nat) (y6 y7 : Option V), m = n - i ∧ σ = [some (.ref a), some (.ref s), some (.int (p : Int)), some (.ref px), some (.ref pf), some (.int (i : Int)), y6, y7] ∧ But pf H1 H2 ∧ H2 pf = some (.lst (nv L)) ∧ Dfs n ds (barr S p) L (L.drop i) ∧ (∀ x ∈ L, ∃ w, Walk ds v w x ∧ ∀ d ∈ w, d ∉ barr S p) ∧ v ∈ L ∧ i ≤ L.length,
    ⟨_, [v], 0, _, _, rfl, rfl, (Same.upd npf).but, upd_same, Dfs.start lv, fun x hx => (by rw [List.mem_singleton] at hx; subst hx; exact ⟨[], .nil _, fun d h => (List.not_mem_nil h).elim⟩), List.mem_singleton.mpr rfl, Nat.zero_le _⟩, fun m σ H2 hW => ?_⟩
  obtain ⟨L, i, y6, y7, rfl, rfl, bt, hL, df, rch, hvL, hi⟩ := hW
  have ln := df.le
  refine ⟨_, rfl, _, rfl, _, _, rfl, .inl (SqL.of hL), _, _, rfl, rfl, _, rfl, ite2 (fun c => ?_) (fun c => ?_)⟩
  · have c := of_decide_eq_true c
    rw [nv_len] at c
    have il : i < L.length := by omega
    obtain ⟨here, hh⟩ : ∃ here, L[i]? = some here := get_of rfl il
    have hin : here ∈ L := List.mem_of_getElem? hh
    have hlt := df.lt here hin
    refine ⟨fun σ' H' => ∃ (L' : List Nat) (y6 y7 : Option V), σ' = [some (.ref a), some (.ref s), some (.int (p : Int)), some (.ref px), some (.ref pf), some (.int ((i + 1 : Nat) : Int)), y6, y7] ∧ But pf H1 H' ∧ H' pf = some (.lst (nv L')) ∧ Dfs n ds (barr S p) L' (L'.drop (i + 1)) ∧ (∀ x ∈ L', ∃ w, Walk ds v w x ∧ ∀ d ∈ w, d ∉ barr S p) ∧ v ∈ L' ∧ i + 1 ≤ L'.length,
      fun σ' H' ⟨L', z6, z7, g1, g2⟩ => ⟨n - (i + 1), by omega, L', i + 1, z6, z7, rfl, g1, g2⟩, ?_⟩
    obtain ⟨qx, hqx⟩ := get_of hpl hlt
    obtain ⟨ts, g1, g2, g3⟩ := ro _ _ hqx
    have nqx : qx ≠ pf := ne_of_none g1 npf
    have npx' : px ≠ pf := ne_of_none hpx npf
    have dh : L.drop i = here :: L.drop (i + 1) := by
      rw [List.drop_eq_getElem_cons il]
      rw [List.getElem?_eq_getElem il] at hh
      rw [Option.some.inj hh]
    have di0 : DfsIn n ds (barr S p) L (L.drop (i + 1)) here [] := (dh ▸ df).front
    refine ⟨_, rfl, _, rfl, _, rfl, pf, _, _, _, rfl, rfl, SqL.of hL, nv_at hh, px, _, _, V.ref qx, rfl, rfl, SqL.of (bt _ _ npx' hpx), atI_nat (v := V.ref qx) (by rw [List.getElem?_map, hqx]; rfl), qx, rfl, ⟨_, SqL.of (bt _ _ nqx g1)⟩, ?_⟩
    refine for_it (walk_list (K := K) (a := qx) (xs := ts.map V.ref)) (fun j σ H3 => ∃ (L' : List Nat) (y6 y7 : Option V), σ = [some (.ref a), some (.ref s), some (.int (p : Int)), some (.ref px), some (.ref pf), some (.int (i : Int)), y6, y7] ∧ But pf H1 H3 ∧ H3 pf = some (.lst (nv L')) ∧
        DfsIn n ds (barr S p) L' (L'.drop (i + 1)) here (((ex here).take j).map fun e => (e.2, e.1)) ∧ (∀ x ∈ L', ∃ w, Walk ds v w x ∧ ∀ d ∈ w, d ∉ barr S p) ∧ v ∈ L' ∧ i + 1 ≤ L'.length)
      ⟨L, _, _, rfl, bt, hL, di0, rch, hvL, il⟩ (fun j σ H3 _ ⟨_, _, _, _, bt3, _⟩ => SqL.of (bt3 _ _ nqx g1)) ?_ ?_
    · rintro j x σ H3 H4 hj ⟨L', y6, y7, rfl, bt3, hL3, di, rch3, hv3, il3⟩ ⟨rfl, ex1⟩
      have hj' : j < (ex here).length := by
        rw [List.length_map, g2] at hj
        exact hj
      obtain ⟨t, ht⟩ : ∃ t, ts[j]? = some t := get_of g2 hj'
      obtain ⟨e, he⟩ : ∃ e, (ex here)[j]? = some e := get_of rfl hj'
      have ex1 : (ts.map V.ref)[j]? = some x := ex1
      rw [List.getElem?_map, ht] at ex1
      cases ex1
      have htup := bt3 _ _ (fun z => by have q1 := g3 j t e ht he; rw [z, npf] at q1; cases q1) (g3 j t e ht he)
      have ejoin : Joins ds e.2 here e.1 := (mem here e.2 e.1).mp (List.mem_of_getElem? he)
      have etake : ((ex here).take (j + 1)).map (fun e => (e.2, e.1)) = ((ex here).take j).map (fun e => (e.2, e.1)) ++ [(e.2, e.1)] := by
        rw [List.take_add_one, he, List.map_append]
        rfl
      have bt03 : But pf H H4 := s1.but.trans bt3
      have h1' : SqT K H4 s [.ref r, .ref b] := (bt3.tupN npf (s1.tup h1))
      have h3' : SqT K H4 b (nv S.2) := (bt3.tupN npf (s1.tup h3))
      obtain ⟨bk, hbk⟩ : ∃ bk, S.2[e.2]? = some bk := get_of ok.doors (joins_lt ejoin)
      refine ⟨t, _, rfl, SqT.of htup, rfl, _, _, rfl, _, _, rfl, rfl, ?_⟩
      refine ⟨_, rfl, _, rfl, pf, _, rfl, .inl (SqL.of hL3), rfl, flat_nv _, _, rfl, ?_⟩
      show if (!inV (V.int (e.1 : Int)) (nv L')) = true then _ else _
      rw [inV_nv]
      by_cases hy : e.1 ∈ L'
      · rw [decide_eq_true hy]
        exact iteF (iteF ⟨L', _, _, rfl, bt3, hL3, by rw [etake]; exact di.skip (.inr hy), rch3, hv3, il3⟩)
      · rw [decide_eq_false hy]
        refine iteT ⟨_, rfl, s, _, _, _, rfl, rfl, h1', atI_nat (j := 1) rfl, _, rfl, b, _, _, _, rfl, rfl, h3', nv_at hbk, _, rfl, rfl, _, rfl, ?_⟩
        by_cases cb : bk = p
        · rw [decide_eq_true (show V.int (bk : Int) = V.int (p : Int) by rw [cb])]
          exact iteF ⟨L', _, _, rfl, bt3, hL3, by rw [etake]; exact di.skip (.inl (mem_barr.mpr (by rw [hbk, cb]))), rch3, hv3, il3⟩
        · rw [decide_eq_false (show ¬ V.int (bk : Int) = V.int (p : Int) from fun z => cb (by have := V.int.inj z; omega))]
          have nsh : e.2 ∉ barr S p := fun z => by
            have z := mem_barr.mp z
            rw [hbk] at z
            exact cb (Option.some.inj z)
          have ely := (Joins.lt tree ejoin).2.1
          have di2 := di.add (d := e.2) ely hy
          have hle := di2.le
          rw [List.length_append, List.length_singleton] at hle
          refine iteT ⟨_, rfl, .inl ⟨rfl, _, SqL.of hL3⟩, _, rfl, pf, _, _, rfl, rfl, hL3, by rw [nv_len]; exact small1000 (by omega), ?_⟩
          refine ⟨L' ++ [e.1], _, _, rfl, bt3.upd _, by rw [upd_same, nv_snoc], ?_, fun x hx => ?_, List.mem_append.mpr (.inl hv3), by rw [List.length_append]; omega⟩
          · rw [etake, List.drop_append_of_le_length il3]
            exact di2
          · rcases List.mem_append.mp hx with hx | hx
            · exact rch3 x hx
            · rw [List.mem_singleton] at hx
              subst hx
              obtain ⟨w0, w1, w2⟩ := rch3 here di.he
              refine ⟨w0 ++ [e.2], w1.snoc ejoin, fun d hd => ?_⟩
              rcases List.mem_append.mp hd with hd | hd
              · exact w2 d hd
              · rw [List.mem_singleton] at hd
                rw [hd]
                exact nsh
    · rintro σ H3 ⟨L', y6, y7, rfl, bt3, hL3, di, rch3, hv3, il3⟩
      refine ⟨_, rfl, _, _, rfl, rfl, L', _, _, rfl, bt3, hL3, di.done fun d y j => ?_, rch3, hv3, il3⟩
      rw [List.length_map, g2, List.take_length]
      exact List.mem_map.mpr ⟨(y, d), (mem here d y).mpr j, rfl⟩
  · have c : ¬ (i : Int) < ((nv L).length : Nat) := fun z => c (decide_eq_true z)
    rw [nv_len] at c
    have il : i = L.length := by omega
    subst il
    rw [List.drop_length] at df
    have rs : RegSet ds (barr S p) v L := ⟨df.nd, fun x => ⟨fun hx => rch x hx, fun ⟨w, h1, h2⟩ => df.walk h1 h2 hvL⟩⟩
    refine ⟨_, rfl, pf, L.map (fun x : Nat => (x : Int)), rfl, by rw [← nv_int]; exact SqL.of hL, by rw [List.length_map]; omega, fun ys p0 pm asc np0 => ?_⟩
    obtain ⟨L', rfl, pl⟩ := perm_of_map _ _ _ pm
    rw [← nv_int]
    have sF : Same H (upd H2 p0 (.lst (nv L'))) := (But.same s1 npf0 bt).trans (Same.upd np0)
    refine q _ p0 L' sF ((But.same s1 npf0 bt).free np0) upd_same (by rw [getD_of hv]; exact rs.of_perm pl) ?_
    rw [List.pairwise_map] at asc
    exact asc.imp fun h => by omega
end
end K5

namespace K5
open PySem PySem.Spec PyProof.Rows L2
/-- lists of rooms, by their addresses -/
def ListsAt (H : Hp) (q : Addr) (Ls : List (List Nat)) : Prop := ∃ rs : List Addr, H q = some (.lst (rs.map V.ref)) ∧ rs.length = Ls.length ∧ ∀ (i : Nat) (r : Addr) (L : List Nat), rs[i]? = some r → Ls[i]? = some L → r ≠ q ∧ H r = some (.lst (nv L))
theorem ListsAt.same {H H' : Hp} {q Ls} (h : ListsAt H q Ls) (s : Same H H') : ListsAt H' q Ls := by
  obtain ⟨rs, h1, h2, h3⟩ := h
  exact ⟨rs, s _ _ h1, h2, fun i r L a b => ⟨(h3 i r L a b).1, s _ _ (h3 i r L a b).2⟩⟩
/-- the regions of the first k people -/
structure RegsL (ds : List (Nat × Nat)) (S : S2) (k : Nat) (Ls : List (List Nat)) : Prop where
  len : Ls.length = k
  at_ : ∀ (p : Nat) (L : List Nat), Ls[p]? = some L → RegSet ds (barr S p) (S.1.getD p 0) L
theorem RegsL.perm {n ds S k Ls Ms} (a : Regs n ds S k Ls) (b : RegsL ds S k Ms) : Ls.flatten.Perm Ms.flatten :=
  flat_perm Ls Ms (a.len.trans b.len.symm) fun p L M h1 h2 => by
    obtain ⟨ks, r1, p1⟩ := a.at_ p L h1
    exact p1.trans (r1.set.perm (b.at_ p M h2))
theorem RegsL.snoc {ds S k Ls L} (a : RegsL ds S k Ls) (r : RegSet ds (barr S k) (S.1.getD k 0) L) : RegsL ds S (k + 1) (Ls ++ [L]) := by
  refine ⟨by rw [List.length_append, a.len]; rfl, fun p M h => ?_⟩
  by_cases c : p < Ls.length
  · rw [List.getElem?_append_left c] at h
    exact a.at_ p M h
  · have := get_lt h
    rw [List.length_append, List.length_singleton] at this
    have e : p = k := by have := a.len; omega
    subst e
    rw [List.getElem?_append_right (by rw [a.len]; exact Nat.le_refl _), a.len, Nat.sub_self] at h
    cases h
    exact r
def spRegsL (K : PySem.W.Frag) : Sp := fun vs H Q _ => ∃ (a s : Addr) (n : Nat) (ds : List (Nat × Nat)) (S : S2), vs = [.ref a, .ref s] ∧ HouseAt K H a ds ∧ Tree n ds ∧ n ≤ 60 ∧ StateAt K H s S ∧ StOk n ds S ∧
  ∀ (H' : Hp) (q : Addr) (Ls : List (List Nat)), Same H H' → H q = none → ListsAt H' q Ls → RegsL ds S S.1.length Ls → (∀ L ∈ Ls, L.Pairwise (· ≤ ·)) → Q (.ref q) H'
section
variable {P : Program} {w : World} {K : PySem.W.Frag}
      {mg : Str → Option Value} {base : Heap}
theorem ok_l_regions (T : Bl mg) (D : Def K mg "_law_regions" s_l_regions) (C_l_region : Cal P w K mg base "_law_region" ["_law_layout", "_law_situation", "_law_who"] 2 (spRegL K)) : Cal P w K mg base "_law_regions" ["_law_layout", "_law_situation"] 3 (spRegsL K) := by
  refine D.ok sc_l_regions (fun _ _ _ _ _ _ us hl => match us, hl with | [_, _], _ => rfl) (fun vs H Q E h => ?_) (fun f cdv A outer s H vs Q E hr h => ?_)
  · obtain ⟨a, s, n, ds, S, rfl, _⟩ := h
    rfl
  obtain ⟨a, s, n, ds, S, rfl, hH, tree, hn, st, ok, q⟩ := h
  obtain ⟨r, b, h1, h2, h3⟩ := id st
  have few := ok.few
  obtain ⟨f_l_region, fd_l_region, g_l_region, k_l_region, b_l_region, G_l_region⟩ := C_l_region
  refine ⟨_, (pss_one (ps_ret (pe_lc (own := [("_law_who", 2)]) (g := gName 2)  rfl sc_l_regions.nd (pi_range1 rfl T.range (pa_cons (pe_callB call_len_seq (by rfl) T.len PySem.boot_len (pa_cons (pe_ix ix_tup (pv 1) pe_int (fun _ _ => rfl)) pa_nil)) pa_nil)) (blkOk_by (N := N_l_regions) (sc := defScope s_l_regions) (own := [("_law_who", 2)]) (by decide +kernel)) (fun _ _ _ _ _ => (pg_name (i := 2) sc_l_regions.nd rfl (.inl rfl) (.inr rfl))) (fun _ _ _ _ _ => pts_nil) (fun _ _ _ _ _ => (pe_call G_l_region (hr.mono (by decide)) (by rfl) g_l_region k_l_region b_l_region .nil pass0 (pa_cons (pv 0) (pa_cons (pv 1) (pa_cons (pv 2) pa_nil)))))))), ?_⟩
  refine ⟨_, rfl, s, _, _, _, rfl, rfl, h1, atI_nat (j := 0) rfl, _, _, rfl, .inr h2, (S.1.length : Int), congrArg (fun z : Nat => [V.int (z : Int)]) (nv_len _), by omega, by omega, fun pd npd => ?_⟩
  refine lc_range (lo := 0) (n := S.1.length) (fun i H2 => ∃ Ls, Same H H2 ∧ ListsAt H2 pd Ls ∧ RegsL ds S i Ls ∧ ∀ L ∈ Ls, L.Pairwise (· ≤ ·)) ?_ ?_ ?_
  · exact ⟨[], Same.upd npd, ⟨[], upd_same, rfl, fun i r L h => by simp at h⟩, ⟨rfl, fun p L h => by simp at h⟩, fun L h => absurd h List.not_mem_nil⟩
  · rintro i H2 hi ⟨Ls, sm, ⟨rs, f1, f2, f3⟩, rg, asc⟩
    rw [Int.zero_add]
    refine ⟨rfl, lcYes ?_⟩
    refine ⟨_, rfl, _, rfl, _, rfl, a, s, i, n, ds, S, rfl, hH.same sm, tree, hn, st.same sm, ok, hi, fun H3 q3 L s3 nq3 hq3 rs3 as3 => ?_⟩
    have f13 := s3 _ _ f1
    have nqd : q3 ≠ pd := (ne_of_none f1 nq3).symm
    refine ⟨_, f13, by rw [List.length_map, f2, rg.len]; exact small1000 (by omega), Ls ++ [L], (sm.trans s3).at npd, ⟨rs ++ [q3], by rw [upd_same, List.map_append]; rfl, by simp [f2], fun j r' M e1 e2 => ?_⟩, rg.snoc rs3, fun M hM => (List.mem_append.mp hM).elim (asc M) fun h => by rw [List.mem_singleton.mp h]; exact as3⟩
    by_cases c : j < rs.length
    · rw [List.getElem?_append_left c] at e1
      rw [List.getElem?_append_left (by rw [← f2]; exact c)] at e2
      obtain ⟨g1, g2⟩ := f3 j r' M e1 e2
      exact ⟨g1, by rw [upd_ne g1]; exact s3 _ _ g2⟩
    · have hlt := get_lt e1
      rw [List.length_append, List.length_singleton] at hlt
      have ej : j = rs.length := by omega
      subst ej
      rw [List.getElem?_append_right (Nat.le_refl _), Nat.sub_self] at e1
      rw [f2, List.getElem?_append_right (Nat.le_refl _), Nat.sub_self] at e2
      cases e1
      cases e2
      exact ⟨nqd, by rw [upd_ne nqd]; exact hq3⟩
  · rintro H2 ⟨Ls, sm, la, rg, asc⟩
    exact q H2 pd Ls sm npd la rg asc
end
end K5

namespace PySem
open Sem (wp)
/-! own rule: sum(lists, []) joins lists -/
section
variable {prog : Program} {w : World} {A : Around} {R : Result → Shared → Prop} {I l : Addr} {its : Array Value} {h₀ : Heap} {Ls : List (List Value)}
theorem args_sum2 (a b : Value) : argsOk "sum" ⟨[a, b], []⟩ := by unfold argsOk; kernel_rfl
theorem codeAny_sum_lists (hh : A.handled = none) (hne : l ≠ I)
    (hv : ∀ (i : Nat) (v : Value), its[i]? = some v → ∃ (r : Addr) (xs : List Value) (m : Nat), v = Value.ref r ∧ Ls[i]? = some xs ∧ h₀.get? r = some { cls := .type "list", data := .seq xs.toArray m }) (hn : Ls.length = its.size) (S : Addr) (hSI : S ≠ I) (hSl : S ≠ l)
    (h0S : h₀.get? S = none) (h0I : h₀.get? I = none) (n₀ : Nat) :
    ∀ (k i : Nat) (s : Shared) (tot : Addr) (acc : List Value) (c m : Nat), its.size - i = k → i ≤ its.size → n₀ ≤ s.heap.objs.size → s.heap.IsListIter I l i → s.heap.IsList l its → (∀ b o, h₀.get? b = some o → s.heap.get? b = some o) →
    s.heap.get? S = some { cls := .type "list", dict := none, data := .seq #[.ref tot] c, slots := #[] } → s.heap.get? tot = some { cls := .type "list", data := .seq acc.toArray m } → tot ≠ S → tot ≠ I → acc.length + (Ls.drop i).flatten.length ≤ sizeLine →
    (∀ (h' : Heap) (t : Addr) (m' : Nat), (∀ b o, h₀.get? b = some o → h'.get? b = some o) → (n₀ ≤ tot ∨ i < its.size → n₀ ≤ t) → h'.get? t = some { cls := .type "list", data := .seq (acc ++ (Ls.drop i).flatten).toArray m' } → R (.ok (.ret (.ref t))) { s with heap := h' }) →
    codeAny (model prog w) A (.builtin "sum.loop" ⟨[.ref I, .ref S, rawInt 2, rawInt 0], []⟩) R s := by
  intro k
  induction k with
  | zero =>
    intro i s tot acc c m hk hi hn0 hit hl hold hS ht htS htI hlen hR
    have hin : i = its.size := by omega
    subst hin
    refine codeAny_builtin F.entry_sum_loop ?_
    rw [Around.under_plainId F.plain_sum_loop _]
    show wpAny _ A.in1 (seqItems?
          (.ref S) >>= _) _ _ s
    refine wpAny_bind (wpAny_seqItems hS rfl ?_)
    show wpAny _ A.in1 (tryCatch (pyNext
          (.ref I)) _ >>= _) _ _ s
    refine wpAny_bind (wpAny_tryCatch (wpAny_pyNext_list_end (A := A.in1) hh hit hl (by simp) fun h' he => ?_))
    refine wpAny_pure (hR h' tot m (fun b o e => he b o (fun z => by rw [z, h0I] at e; cases e) (hold b o e)) (fun z => z.elim id fun z => absurd z (Nat.lt_irrefl _)) ?_)
    have e : Ls.drop its.size = [] := by rw [← hn]; exact List.drop_length
    rw [e, List.flatten_nil, List.append_nil]
    exact he tot _ htI ht
  | succ k ih =>
    intro i s tot acc c m hk hi hn0 hit hl hold hS ht htS htI hlen hR
    have hlt : i < its.size := by omega
    obtain ⟨r, xs, m2, hv1, hv2, hv3⟩ := hv i its[i] (by simp [hlt])
    have hdrop : Ls.drop i = xs :: Ls.drop (i + 1) := by
      rw [List.drop_eq_getElem_cons (by omega)]
      congr 1
      exact Option.some.inj ((List.getElem?_eq_getElem (by omega)).symm.trans hv2)
    rw [hdrop, List.flatten_cons, List.length_append] at hlen
    refine codeAny_builtin F.entry_sum_loop ?_
    rw [Around.under_plainId F.plain_sum_loop _]
    show wpAny _ A.in1 (seqItems?
          (.ref S) >>= _) _ _ s
    refine wpAny_bind (wpAny_seqItems hS rfl ?_)
    show wpAny _ A.in1 (tryCatch (pyNext
          (.ref I)) _ >>= _) _ _ s
    refine wpAny_bind (wpAny_tryCatch (wpAny_pyNext_list_item hit hl (x := its[i]) (by simp [hlt]) fun h1 hit1 sb => ?_))
    rw [hv1]
    have hl1 : h1.IsList l its := hl.extBut sb.extBut hne
    have old1 : ∀ b o, b ≠ I → s.heap.get? b = some o → h1.get? b = some o := fun b o hb e => (sb.2 b hb).trans e
    have hS1 := old1 S _ hSI hS
    have ht1 := old1 tot _ htI ht
    have hr1 : h1.get? r = some _ := old1 r _ (fun z => by rw [z, h0I] at hv3; cases hv3) (hold _ _ hv3)
    show wpAny _ A.in1 ((holding [Value.ref r] (binaryOp .Add (.ref tot) (.ref r))).attempt >>= _) _ _ _
    refine wpAny_bind (wpAny_attempt (wpAny_holding (P.add_list ht1 hr1 ?_ (by rw [List.size_toArray, List.size_toArray]; omega))))
    have hSlt : S < h1.objs.size := Heap.lt_size hS1
    have hIlt : I < h1.objs.size := by obtain ⟨o, e, _⟩ := id hit1; exact Heap.lt_size e
    have hllt : l < h1.objs.size := by obtain ⟨o, e, _⟩ := id hl1; exact Heap.lt_size e
    have ea : acc.toArray ++ xs.toArray = (acc ++ xs).toArray := by simp
    rw [ea]
    have hS2 : (h1.push { cls := .type "list", data := .seq (acc ++ xs).toArray }).get? S = some _ := Heap.get?_push_of_some _ hS1
    show wpAny _ A.in1 (updateSeq S (fun _ => #[.ref h1.objs.size]) >>= _) _ _ _
    refine wpAny_bind (wpAny_updateSeq
          hS2 rfl ?_)
    have hS3 := Heap.get?_update_self (Obj.mapSeq fun _ => #[Value.ref h1.objs.size]) hS2 rfl
    refine wpAny_bind (wpAny_letGo ?_)
    refine wpAny_bind (wpAny_updateSeq hS3 rfl (wpAny_pure ⟨plainId_quiet F.plain_sum_loop _, ?_⟩))
    have keep : ∀ b o, b ≠ S → (h1.push { cls := .type "list", data := .seq (acc ++ xs).toArray }).get? b = some o → (((h1.push { cls := .type "list", data := .seq (acc ++ xs).toArray }).update S (Obj.mapSeq fun _ => #[Value.ref h1.objs.size])).update S (Obj.mapSeq fun _ => #[Value.ref h1.objs.size])).get? b = some o :=
      fun b o hb e => (Heap.get?_update_other _ _ (Ne.symm hb)).trans
            ((Heap.get?_update_other _ _ (Ne.symm hb)).trans e)
    have neS : h1.objs.size ≠ S := Nat.ne_of_gt hSlt
    have neI : h1.objs.size ≠ I := Nat.ne_of_gt hIlt
    have e1 : h1.objs.size = s.heap.objs.size := sb.1
    have esz : (((h1.push { cls := .type "list", data := .seq (acc ++ xs).toArray }).update S (Obj.mapSeq fun _ => #[Value.ref h1.objs.size])).update S (Obj.mapSeq fun _ => #[Value.ref h1.objs.size])).objs.size = h1.objs.size + 1 := by
      rw [Heap.size_update, Heap.size_update, Heap.size_push]
    refine ih (i + 1) _ h1.objs.size (acc ++ xs) _ 0 (by omega) hlt (Nat.le_trans (by omega : n₀ ≤ h1.objs.size + 1) (Nat.le_of_eq esz.symm)) (hit1.at fun o e => keep I o (Ne.symm hSI) (Heap.get?_push_of_some _ e)) (hl1.at fun o e => keep l o (Ne.symm hSl) (Heap.get?_push_of_some _ e)) (fun b o e => ?_)
      (Heap.get?_update_self _ hS3 rfl) (keep _ _ neS (Heap.get?_push_size _ rfl)) neS neI (by rw [List.length_append]; omega) fun h' t m' hk' hf ht' => ?_
    · refine keep b o (fun z => by rw [z, h0S] at e; cases e) (Heap.get?_push_of_some _ (old1 b o (fun z => by rw [z, h0I] at e; cases e) (hold b o e)))
    · refine hR h' t m' hk' (fun _ => hf (.inl (by omega : n₀ ≤ h1.objs.size))) ?_
      · rw [hdrop, List.flatten_cons, ← List.append_assoc]
        exact ht'
end
section
variable {prog : Program} {w : World} {A : Around} {E : Value → Shared → Prop} {s : Shared} {l e : Addr} {its : Array Value} {Ls : List (List Value)}
theorem call_sum_lists {Q : Value → Shared → Prop} (hh : A.handled = none) (hl : s.heap.IsList l its)
    (hv : ∀ (i : Nat) (v : Value), its[i]? = some v → ∃ (r : Addr) (xs : List Value) (m : Nat), v = Value.ref r ∧ Ls[i]? = some xs ∧ s.heap.get? r = some { cls := .type "list", data := .seq xs.toArray m }) (hn : Ls.length = its.size) (hpos : 0 < its.size)
    {me : Nat} (he : s.heap.get? e = some { cls := .type "list", data := .seq #[] me }) (hlen : Ls.flatten.length ≤ sizeLine)
    (h : ∀ (h' : Heap) (t : Addr) (m' : Nat), (∀ b o, s.heap.get? b = some o → h'.get? b = some o) → s.heap.objs.size ≤ t → h'.get? t = some { cls := .type "list", data := .seq Ls.flatten.toArray m' } → Q (.ref t) { s with heap := h' }) :
    wpAny (model prog w) A (call (.builtin "sum") [.ref l, .ref e]) Q E s := by
  refine call_function_tree F.kind_sum F.plain_sum F.entry_sum (args_sum2 _ _) ?_
  unfold Builtin.«sum»
  simp only [List.length_cons,
        List.length_nil]
  rw [if_neg (by decide)]
  refine wpAny_bind (wpAny_of_eq (show Builtin.Builtins.bindParams "sum" ["start"] 0 ⟨[.ref e], []⟩ = pure [some (.ref e)] from rfl) ?_)
  have hlt : l < s.heap.objs.size := match hl with | ⟨_, z, _⟩ => Heap.lt_size z
  have helt : e < s.heap.objs.size
        := Heap.lt_size he
  refine wpAny_bind (wpAny_pyIter_list hl ?_)
  refine wpAny_bind (wpAny_pure ?_)
  have he1 : (s.heap.push { cls := .type "list_iterator", data := .fields #[.ref l, .int 0 0] }).get? e = some _ := Heap.get?_push_of_some _ he
  have ty : ∀ s' : Shared, s'.heap.get? e = some { cls := .type "list", data := .seq #[] me } → s'.TypeIs (.ref e) "list" := fun s' q => ⟨_, q, rfl⟩
  simp only [List.forIn_cons, List.forIn_nil]
  refine wpAny_bind (wpAny_bind (wpAny_bind (wpAny_isInstance (T := "list") (b := false) (ty _ he1) F.sub_list_str ?_)))
  simp only [Bool.false_eq_true, if_false]
  refine wpAny_pure (wpAny_bind (wpAny_bind (wpAny_isInstance (T := "list") (b := false) (ty _ he1) F.sub_list_bytes ?_)))
  simp only [Bool.false_eq_true, if_false]
  refine wpAny_pure (wpAny_bind (wpAny_bind (wpAny_isInstance (T := "list") (b := false) (ty _ he1) F.sub_list_bytearray ?_)))
  simp only [Bool.false_eq_true, if_false]
  refine wpAny_pure (wpAny_pure ?_)
  refine wpAny_bind (wpAny_newObj_type ?_)
  have free : ∀ b, s.heap.objs.size ≤ b → s.heap.get? b = none := fun b hb => by
    cases q : s.heap.get? b with
    | none => rfl
    | some o => exact absurd (Heap.lt_size q) (Nat.not_lt.mpr hb)
  have sz1 : (s.heap.push { cls := .type "list_iterator", data := .fields #[.ref l, .int 0 0] }).objs.size = s.heap.objs.size + 1 := Heap.size_push _ _
  have e0 : Ls.drop 0 = Ls := rfl
  refine wpAny_pure ⟨plainId_quiet F.plain_sum_loop _, codeAny_sum_lists (A := A) (h₀ := s.heap) (Ls := Ls) hh (Nat.ne_of_lt hlt) hv hn _ (by rw [sz1]; exact Nat.succ_ne_self _) (by rw [sz1]; exact Nat.ne_of_gt (Nat.lt_succ_of_lt hlt)) (free _ (by rw [sz1]; exact Nat.le_succ _)) (free _ (Nat.le_refl _)) s.heap.objs.size its.size 0 _ e [] 0 me rfl (Nat.zero_le _)
    (by rw [Heap.size_push, sz1]; exact Nat.le_trans (Nat.le_succ _) (Nat.le_succ _)) ⟨_, Heap.get?_push_of_some _ (Heap.get?_push_size _ rfl), rfl, rfl⟩ ((hl.push _).push _) (fun b o q => Heap.get?_push_of_some _ (Heap.get?_push_of_some _ q)) (Heap.get?_push_size _ rfl) (Heap.get?_push_of_some _ he1)
    (by rw [sz1]; exact Nat.ne_of_lt (Nat.lt_succ_of_lt helt)) (Nat.ne_of_lt helt) (by rw [e0, List.length_nil, Nat.zero_add]; exact hlen) fun h' t m' k1 k2 k3 => ?_⟩
  exact h h' t m' k1 (k2 (.inr hpos)) k3
end
end PySem

namespace L2
open PySem PySem.Spec PyProof.Rows
/-- sum(lists, []): the lists joined -/
def rSumL (K : PySem.W.Frag) : List V → Hp → VK → Prop := fun vs H Q => ∃ (q e : Addr) (rs : List Addr) (Ls : List (List V)), vs = [V.ref q, V.ref e] ∧ H q = some (.lst (rs.map V.ref)) ∧ H e = some (.lst []) ∧ rs.length = Ls.length ∧ 0 < rs.length ∧
  (∀ (i : Nat) (r : Addr) (L : List V), rs[i]? = some r → Ls[i]? = some L → H r = some (.lst L)) ∧ Ls.flatten.length ≤ sizeLine ∧ ∀ p, H p = none → Q (.ref p) (upd H p (.lst Ls.flatten))
theorem raw_lists {X : Cx} {pins : List (Addr × Obj)} {σ : St} {H : Hp} {s : Shared} (I : Inv X pins σ H s) : ∀ (rs : List Addr) (Ls : List (List V)), rs.length = Ls.length → (∀ (i : Nat) (r : Addr) (L : List V), rs[i]? = some r → Ls[i]? = some L → H r = some (.lst L)) →
    ∃ Rs : List (List Value), Rs.length = rs.length ∧ Vals Ls.flatten Rs.flatten ∧ ∀ (i : Nat) (r : Addr), rs[i]? = some r → ∃ (xs : List Value) (m : Nat), Rs[i]? = some xs ∧ s.heap.get? r = some { cls := .type "list", data := .seq xs.toArray m }
  | [], [], _, _ => ⟨[], rfl, .nil, fun i r h => by simp at h⟩
  | [], _ :: _, h, _ => by simp at h
  | _ :: _, [], h, _ => by simp at h
  | r :: rs, L :: Ls, h, hl => by
    obtain ⟨Rs, h1, h2, h3⟩ := raw_lists I rs Ls (by simpa using h) fun i r' L' a b => hl (i + 1) r' L' a b
    obtain ⟨z, its, n, rv, hlen, e⟩ := I.lstM (hl 0 r L rfl rfl)
    refine ⟨its :: Rs, by simp [h1], ?_, fun i r' hr => ?_⟩
    · rw [List.flatten_cons, List.flatten_cons]
      exact rv.append h2
    · cases i with
      | zero =>
        cases hr
        exact ⟨its, n, rfl, e⟩
      | succ i => exact h3 i r' hr
theorem cr_sumL {X : Cx} (hc : X.calm = true) : CallR X (.builtin "sum") (rSumL X.K) := by
  rintro pins s σ H vs us Q I r ⟨q, e, rs, Ls, rfl, hq, he, hlen, hpos, hl, hsz, hQ⟩
  cases r with
  | cons r1 r =>
    cases r with
    | cons r2 r =>
      cases r
      cases r1
      cases r2
      obtain ⟨z, its, n, rv, hlen1, eq⟩ := I.lstM hq
      obtain ⟨z2, its2, n2, rv2, hlen2, ee⟩ := I.lstM he
      cases rv2
      obtain ⟨Rs, h1, h2, h3⟩ := raw_lists I rs Ls hlen hl
      have hits : ∀ (i : Nat) (v : Value), its[i]? = some v → ∃ r, v = Value.ref r ∧ rs[i]? = some r := by
        intro i v hv
        have hi : i < its.length := (List.getElem?_eq_some_iff.mp hv).1
        have hn' : its.length = rs.length := by rw [← hlen1, List.length_map]
        have hr : rs[i]? = some (rs[i]'(by omega)) := List.getElem?_eq_getElem (by omega)
        obtain ⟨u, hu, ru⟩ := rv.get (i := i) (x := .ref (rs[i]'(by omega))) (by rw [List.getElem?_map, hr]; rfl)
        rw [hv] at hu
        cases hu
        exact ⟨_, ru, hr⟩
      have hn : its.length = rs.length := by rw [← hlen1, List.length_map]
      refine call_sum_lists (its := its.toArray) (Ls := Rs) (I.ok.hd hc) ⟨_, eq, rfl, _, rfl⟩ (fun i v hv => ?_) (by rw [List.size_toArray, hn, h1]) (by rw [List.size_toArray, hn]; exact hpos) ee (by rw [← h2.length]; exact hsz) fun h' t m' k1 k2 k3 => ?_
      · obtain ⟨r, rfl, hr⟩ := hits i v (by simpa using hv)
        obtain ⟨xs, m, a, b⟩ := h3 i r hr
        exact ⟨r, xs, m, rfl, a, b⟩
      · exact ⟨.ref t, upd H t (.lst Ls.flatten), I.laid (t' := s.toks) k1 k2 ⟨hsz, Rs.flatten, m', h2, k3⟩, rfl, hQ t (I.hok.fresh k2)⟩
end L2

namespace K5
open PySem PySem.Spec PyProof.Rows L2
theorem nv_flat : ∀ Ls : List (List Nat), (Ls.map nv).flatten = nv Ls.flatten
  | [] => rfl
  | L :: Ls => by
    rw [List.map_cons, List.flatten_cons, List.flatten_cons, nv_flat Ls]
    unfold nv
    rw [List.map_append]
def spAre (K : PySem.W.Frag) : Sp := fun vs H Q _ => ∃ (q : Addr) (Ls : List (List Nat)), vs = [.ref q] ∧ ListsAt H q Ls ∧ 0 < Ls.length ∧ Ls.flatten.length ≤ 900 ∧ ∀ H', Same H H' → Q (.bl (decide Ls.flatten.Nodup)) H'
section
variable {P : Program} {w : World} {K : PySem.W.Frag}
      {mg : Str → Option Value} {base : Heap}
theorem ok_are_apart (T : Bl mg) (D : Def K mg "_law_are_apart" s_l_are_apart) : Cal P w K mg base "_law_are_apart" ["_law_regions_here"] 1 (spAre K) := by
  refine D.ok sc_l_are_apart (fun _ _ _ _ _ _ us hl => match us, hl with | [_], _ => rfl) (fun vs H Q E h => ?_) (fun f cdv A outer s H vs Q E hr h => ?_)
  · obtain ⟨q, Ls, rfl, _⟩ := h
    rfl
  obtain ⟨q, Ls, rfl, ⟨rs, h1, h2, h3⟩, hpos, hsz, hQ⟩ := h
  refine ⟨_, (pss_cons (ps_set (i := 1) sc_l_are_apart.nd rfl (.inl rfl) (pe_callB (cr_sumL rfl) (by rfl) T.sum (by decide +kernel) (pa_cons (pv 0) (pa_cons (pe_lst pa_nil) pa_nil))))
    (pss_one (ps_ret (pe_cmpR op_eq (pe_lenSetA rfl (by rfl) T.len (by rfl) T.set (pv 1)) (pe_callB call_len_seq (by rfl) T.len PySem.boot_len (pa_cons (pv 1) pa_nil)) (nomark _))))), ?_⟩
  refine ⟨_, rfl, Nat.zero_le _, fun pe npe => ?_⟩
  have nqe : q ≠ pe := ne_of_none h1 npe
  refine ⟨q, pe, rs, Ls.map nv, rfl, by rw [upd_ne nqe]; exact h1, upd_same, by rw [List.length_map]; exact h2, by omega, fun i r L e1 e2 => ?_, by rw [nv_flat, nv_len]; exact Nat.le_of_lt (small1000 (by omega)), fun pj npj => ?_⟩
  · rw [List.getElem?_map] at e2
    obtain ⟨M, hM, rfl⟩ := Option.map_eq_some_iff.mp e2
    have g2 := (h3 i r M e1 hM).2
    rw [upd_ne (ne_of_none g2 npe)]
    exact g2
  · rw [nv_flat]
    have sm := (Same.upd (o := .lst []) npe).trans (Same.upd (o := .lst (nv Ls.flatten)) npj)
    have hp : (upd (upd H pe (.lst [])) pj (.lst (nv Ls.flatten))) pj = some (.lst (nv Ls.flatten)) := upd_same
    generalize upd (upd H pe (.lst [])) pj (.lst (nv Ls.flatten)) = H2 at sm hp
    refine ⟨_, rfl, pj, Ls.flatten.map (fun x : Nat => (x : Int)), rfl, by rw [← nv_int]; exact SqL.of hp, ?_, fun m hm1 hm2 => ?_⟩
    · rw [List.length_map]
      exact Nat.lt_of_le_of_lt (by omega : Ls.flatten.length + 1 ≤ 1000) (by decide)
    · refine ⟨_, rfl, _, _, rfl, .inl (SqL.of hp), rfl, ?_⟩
      have nodup_iff : (Ls.flatten.map fun x : Nat => (x : Int)).Nodup ↔ Ls.flatten.Nodup := by
        unfold List.Nodup
        rw [List.pairwise_map]
        exact ⟨fun h => h.imp fun z e => z (by rw [e]), fun h => h.imp fun z e => z (by omega)⟩
      have e : decide (V.int (m : Int) = V.int (((nv Ls.flatten).length : Nat) : Int)) = decide Ls.flatten.Nodup := by
        rw [nv_len]
        by_cases c : Ls.flatten.Nodup
        · have := hm1 (nodup_iff.mpr c)
          rw [List.length_map] at this
          rw [decide_eq_true c, decide_eq_true (by rw [this])]
        · have := hm2 fun z => c (nodup_iff.mp z)
          rw [List.length_map] at this
          rw [decide_eq_false c, decide_eq_false fun z => by have := V.int.inj z; omega]
      show Q (.bl (decide (V.int (m : Int) = V.int (((nv Ls.flatten).length : Nat) : Int)))) H2
      rw [e]
      exact hQ H2 sm
end
end K5

namespace K5
open PySem PySem.Spec PyProof.Rows L2
theorem catA_of {K : PySem.W.Frag} {H : Hp} {a b : Addr} {xs ys : List V} {Q : VK} (h1 : SqT K H a xs) (h2 : SqT K H b ys) (hl : xs.length + ys.length ≤ sizeLine) (q : ∀ (H' : Hp) (p : Addr), Same H H' → SqT K H' p (xs ++ ys) → Q (.ref p) H') :
    rCatA K (.ref a) (.ref b) H Q := by
  refine ⟨a, b, xs, ys, rfl, rfl, h1, h2, hl, fun e => ?_, fun _ e => ?_, fun _ _ p np => q _ p (Same.upd np) (SqT.of upd_same)⟩
  · refine q H b (Same.refl _) ?_
    rw [e, List.nil_append]
    exact h2
  · refine q H a (Same.refl _) ?_
    rw [e, List.append_nil]
    exact h1
theorem nv_app (a b : List Nat) : nv a ++ nv b = nv (a ++ b) := by
  unfold nv
  rw [List.map_append]
theorem set_cut {α : Type} : ∀ (l : List α) (k : Nat) (x : α), k < l.length → l.take k ++ [x] ++ l.drop (k + 1) = l.set k x
  | [], k, x, h => by simp at h
  | a :: r, 0, x, h => rfl
  | a :: r, k + 1, x, h => by
    have := set_cut r k x (by simpa using h)
    show a :: (r.take k ++ [x] ++ r.drop (k + 1)) = a :: r.set k x
    rw [this]
theorem nv_cut (L : List Nat) (k x : Nat) (h : k < L.length) : nv (L.take k) ++ [V.int (x : Int)] ++ nv (L.drop (k + 1)) = nv (L.set k x) := by
  rw [← set_cut L k x h, ← nv_app, ← nv_app]
  rfl
theorem cut_to {L : List Nat} {k : Nat} (h : k < L.length) : cutV (nv L) none (some (k : Int)) = nv (L.take k) ∧ ¬ (HT.sIx (nv L).length 0 none = 0 ∧ HT.sIx (nv L).length (nv L).length (some (k : Int)) = (nv L).length) := by
  unfold cutV
  rw [HT.sIx_none, HT.sIx_nat, nv_len, Nat.min_eq_left (Nat.le_of_lt h)]
  refine ⟨?_, fun z => by omega⟩
  unfold nv
  rw [List.drop_zero, Nat.sub_zero, List.map_take]
theorem cut_from {L : List Nat} {k : Nat} (h : k < L.length) : cutV (nv L) (some ((k : Int) + 1)) none = nv (L.drop (k + 1)) ∧ ¬ (HT.sIx (nv L).length 0 (some ((k : Int) + 1)) = 0 ∧ HT.sIx (nv L).length (nv L).length none = (nv L).length) := by
  unfold cutV
  rw [show (k : Int) + 1 = ((k + 1 : Nat) : Int) by omega, HT.sIx_none, HT.sIx_nat, nv_len, Nat.min_eq_left h]
  refine ⟨?_, fun z => by omega⟩
  unfold nv
  rw [← List.map_drop, List.take_of_length_le]
  rw [List.length_map, List.length_drop]
  exact Nat.le_refl _
abbrev Q4 := Nat × Nat × Nat × Nat
def tQ (m : Q4) : List V := [.int (m.1 : Int), .int (m.2.1 : Int), .int (m.2.2.1 : Int), .int (m.2.2.2 : Int)]
def stepS (S : S2) (m : Q4) : S2 := (S.1.set m.1 m.2.2.1, S.2.set m.2.2.2 m.1)
def spAfter (K : PySem.W.Frag) : Sp := fun vs H Q _ => ∃ (s t : Addr) (S : S2) (m : Q4), vs = [.ref s, .ref t] ∧ StateAt K H s S ∧ H t = some (.tup (tQ m)) ∧ m.1 < S.1.length ∧ m.2.2.2 < S.2.length ∧ S.1.length ≤ 1000 ∧ S.2.length ≤ 1000 ∧
  ∀ (H' : Hp) (q : Addr), Same H H' → StateAt K H' q (stepS S m) → Q (.ref q) H'
section
variable {P : Program} {w : World} {K : PySem.W.Frag}
      {mg : Str → Option Value} {base : Heap}
end
end K5

namespace K5
open PySem PySem.Spec PyProof.Rows L2
/-- a move that the situation allows -/
def QOk (ds : List (Nat × Nat)) (S : S2) (m : Q4) : Prop := S.1[m.1]? = some m.2.1 ∧ Joins ds m.2.2.2 m.2.1 m.2.2.1 ∧ S.2[m.2.2.2]? ≠ some m.1
def QL (H : Hp) (ts : List Addr) (qs : List Q4) : Prop := ts.length = qs.length ∧ ∀ (i : Nat) (t : Addr) (m : Q4), ts[i]? = some t → qs[i]? = some m → H t = some (.tup (tQ m))
theorem QL.same {H H' ts qs} (h : QL H ts qs) (s : Same H H') : QL H' ts qs := ⟨h.1, fun i t m x y => s _ _ (h.2 i t m x y)⟩
theorem QL.push {H : Hp} {ts : List Addr} {qs : List Q4} {p t : Addr} {m : Q4} {xs ys : List V} (h : QL H ts qs) (hp : H p = some (.lst xs)) (nt : H t = none) :
    QL (upd (upd H t (.tup (tQ m))) p (.lst ys)) (ts ++ [t]) (qs ++ [m]) := by
  have ntp : t ≠ p := (ne_of_none hp nt).symm
  refine ⟨by rw [List.length_append, List.length_append, h.1]; rfl, fun i a b x y => ?_⟩
  by_cases hi : i < ts.length
  · rw [List.getElem?_append_left hi] at x
    rw [List.getElem?_append_left (by rw [← h.1]; exact hi)] at y
    have q := h.2 i a b x y
    rw [upd_ne (ne_lt hp q), upd_ne (ne_of_none q nt)]
    exact q
  · rw [List.getElem?_append_right (by omega)] at x
    rw [List.getElem?_append_right (by rw [← h.1]; omega), ← h.1] at y
    generalize i - ts.length = j at x y
    match j with
    | 0 => cases x; cases y; rw [upd_ne ntp, upd_same]
    | j + 1 => simp at x
theorem q_skip {ds : List (Nat × Nat)} {S : S2} {qs : List Q4} {k i : Nat} (h : ∀ m, m ∈ qs ↔ (m.2.2.2 < k ∨ m.2.2.2 = k ∧ m.1 < i) ∧ QOk ds S m) (no : ∀ m : Q4, m.1 = i → m.2.2.2 = k → ¬ QOk ds S m) :
    ∀ m, m ∈ qs ↔ (m.2.2.2 < k ∨ m.2.2.2 = k ∧ m.1 < i + 1) ∧ QOk ds S m := by
  intro m
  rw [h m]
  constructor
  · rintro ⟨h1, h2⟩
    exact ⟨by omega, h2⟩
  · rintro ⟨h1, h2⟩
    refine ⟨?_, h2⟩
    by_cases c : m.2.2.2 = k ∧ m.1 = i
    · exact absurd h2 (no m c.2 c.1)
    · omega
theorem q_add {ds : List (Nat × Nat)} {S : S2} {qs : List Q4} {k i : Nat} {m0 : Q4} (h : ∀ m, m ∈ qs ↔ (m.2.2.2 < k ∨ m.2.2.2 = k ∧ m.1 < i) ∧ QOk ds S m) (e1 : m0.1 = i) (e2 : m0.2.2.2 = k) (ok : QOk ds S m0) (un : ∀ m : Q4, m.1 = i → m.2.2.2 = k → QOk ds S m → m = m0) :
    ∀ m, m ∈ qs ++ [m0] ↔ (m.2.2.2 < k ∨ m.2.2.2 = k ∧ m.1 < i + 1) ∧ QOk ds S m := by
  intro m
  rw [List.mem_append, h m, List.mem_singleton]
  constructor
  · rintro (⟨h1, h2⟩ | rfl)
    · exact ⟨by omega, h2⟩
    · exact ⟨by omega, ok⟩
  · rintro ⟨h1, h2⟩
    by_cases c : m.2.2.2 = k ∧ m.1 = i
    · exact .inr (un m c.2 c.1 h2)
    · exact .inl ⟨by omega, h2⟩
theorem joins_at {ds : List (Nat × Nat)} {k : Nat} {e : Nat × Nat} (he : ds[k]? = some e) (x y : Nat) : Joins ds k x y ↔ (x = e.1 ∧ y = e.2) ∨ (x = e.2 ∧ y = e.1) := by
  unfold Joins
  rw [he]
  constructor
  · rintro (h | h)
    · have h := Option.some.inj h
      exact .inl ⟨by rw [h], by rw [h]⟩
    · have h := Option.some.inj h
      exact .inr ⟨by rw [h], by rw [h]⟩
  · rintro (⟨rfl, rfl⟩ | ⟨rfl, rfl⟩)
    · exact .inl rfl
    · exact .inr rfl
def spMoves (K : PySem.W.Frag) : Sp := fun vs H Q _ => ∃ (a s : Addr) (n : Nat) (ds : List (Nat × Nat)) (S : S2), vs = [.ref a, .ref s] ∧ HouseAt K H a ds ∧ Tree n ds ∧ n ≤ 60 ∧ StateAt K H s S ∧ StOk n ds S ∧
  ∀ (H' : Hp) (q : Addr) (ts : List Addr) (qs : List Q4), Same H H' → H q = none → H' q = some (.lst (ts.map V.ref)) → QL H' ts qs → (∀ m, m ∈ qs ↔ QOk ds S m) → qs.length ≤ 1000 → Q (.ref q) H'
section
variable {P : Program} {w : World} {K : PySem.W.Frag}
      {mg : Str → Option Value} {base : Heap}
end
end K5

namespace K5
open PySem PySem.Spec PyProof.Rows L2
def tri (m : Q4) : Mv := (m.1, m.2.1, m.2.2.1)
def dQ (m : Q4) : PyData := .tuple [.int (m.1 : Int), .int (m.2.1 : Int), .int (m.2.2.1 : Int), .int (m.2.2.2 : Int)]
def dQs (l : List Q4) : PyData := .list (l.map dQ)
theorem dQ_lay (z : Q4) : (dQ z).canLay0 = true := by simp [dQ, PyData.canLay0, PyData.canLayAll0]
theorem dQ_depth (z : Q4) : (dQ z).depth ≤ 2 := by simp [dQ, PyData.depth, PyData.depthAll]
theorem dQs_lay : ∀ zs : List Q4, PyData.canLayAll0 (zs.map dQ) = true
  | [] => by simp [PyData.canLayAll0]
  | z :: zs => by simp [PyData.canLayAll0, dQ_lay z, dQs_lay zs]
theorem dQs_depth : ∀ zs : List Q4, PyData.depthAll (zs.map dQ) ≤ 2
  | [] => by simp [PyData.depthAll]
  | z :: zs => by
    have h1 := dQs_depth zs
    have h2 := dQ_depth z
    simp only [List.map_cons, PyData.depthAll]
    omega
theorem dQs_shaped (l : List Q4) : SeqAt.shaped (dQs l) = true := by
  have h := dQs_depth l
  refine shaped_mk ?_ ?_
  · simp only [dQs, PyData.canLay0]
    exact dQs_lay l
  · simp only [dQs, PyData.depth]
    omega
theorem dM_shaped (m : Mv) : SeqAt.shaped (dM m) = true := shaped_mk (dM_lay m) (by have := dM_depth m; omega)
theorem dQs_nil (l : List Q4) : PyData.eqv (dQs l) (dQs []) = decide (l = []) := by
  cases l with
  | nil => exact d_refl (dQs_shaped [])
  | cons m r =>
    rw [decide_eq_false (by simp)]
    simp only [dQs, List.map_cons, List.map_nil, PyData.eqv, PyData.eqvAll]
theorem dM_eqv (a b : Mv) : PyData.eqv (dM a) (dM b) = decide (a = b) := by
  obtain ⟨a1, a2, a3⟩ := a
  obtain ⟨b1, b2, b3⟩ := b
  by_cases h : (a1, a2, a3) = (b1, b2, b3)
  · rw [h, decide_eq_true rfl]
    exact d_refl (dM_shaped _)
  · rw [decide_eq_false h]
    simp only [dM, PyData.eqv, PyData.eqvAll]
    simp only [Prod.mk.injEq] at h
    rw [Bool.eq_false_iff]
    intro z
    simp at z
    exact h (by omega)
theorem dp_Q {K : PySem.W.Frag} {H : Hp} : ∀ (ts : List Addr) (l : List Q4), QL H ts l → DpAll K H (ts.map V.ref) (l.map dQ)
  | [], [], _ => .nil
  | [], m :: l, h => by have := h.1; simp at this
  | t :: ts, [], h => by have := h.1; simp at this
  | t :: ts, m :: l, h => .cons (.tup (SqT.of (h.2 0 t m rfl rfl)) (.cons (.int _) (.cons (.int _) (.cons (.int _) (.cons (.int _) .nil))))) (dp_Q ts l ⟨by have := h.1; simpa using this, fun i t' m' x y => h.2 (i + 1) t' m' x y⟩)
theorem QL.app {H : Hp} {ts : List Addr} {qs : List Q4} {t : Addr} {m : Q4} (h : QL H ts qs) (ht : H t = some (.tup (tQ m))) : QL H (ts ++ [t]) (qs ++ [m]) := by
  refine ⟨by rw [List.length_append, List.length_append, h.1]; rfl, fun i a b x y => ?_⟩
  by_cases hi : i < ts.length
  · rw [List.getElem?_append_left hi] at x
    rw [List.getElem?_append_left (by rw [← h.1]; exact hi)] at y
    exact h.2 i a b x y
  · rw [List.getElem?_append_right (by omega)] at x
    rw [List.getElem?_append_right (by rw [← h.1]; omega), ← h.1] at y
    generalize i - ts.length = j at x y
    match j with
    | 0 => cases x; cases y; exact ht
    | j + 1 => simp at x
theorem QL.but {g : Addr} {H H' : Hp} {ts : List Addr} {qs : List Q4} {xs : List V} (h : QL H ts qs) (hg : H g = some (.lst xs)) (s : But g H H') : QL H' ts qs := ⟨h.1, fun i t m x y => s _ _ (ne_lt hg (h.2 i t m x y)) (h.2 i t m x y)⟩
/-- the moves, one after the other, and where they lead -/
def Run (ds : List (Nat × Nat)) : S2 → List Mv → S2 → Prop
  | S, [], S' => S = S'
  | S, m :: r, S' => ∃ d, QOk ds S (m.1, m.2.1, m.2.2, d) ∧ Run ds (stepS S (m.1, m.2.1, m.2.2, d)) r S'
theorem stepS_ok {n : Nat} {ds : List (Nat × Nat)} {S : S2} {m : Q4} (T : Tree n ds) (h : StOk n ds S) (o : QOk ds S m) : StOk n ds (stepS S m) := by
  obtain ⟨o1, o2, o3⟩ := o
  have lt := get_lt o1
  have l2 := (o2.lt T).2.1
  refine ⟨?_, ?_, ?_, ?_, ?_⟩
  · show 1 ≤ (S.1.set _ _).length
    rw [List.length_set]; exact h.one
  · show (S.1.set _ _).length ≤ _
    rw [List.length_set]; exact h.few
  · intro x hx
    rcases List.mem_or_eq_of_mem_set hx with hx | rfl
    · exact h.rooms x hx
    · exact l2
  · show (S.2.set _ _).length = _
    rw [List.length_set]; exact h.doors
  · intro y hy
    show y < (S.1.set _ _).length
    rw [List.length_set]
    rcases List.mem_or_eq_of_mem_set hy with hy | rfl
    · exact h.bars y hy
    · exact lt
def spPlay (K : PySem.W.Frag) : Sp := fun vs H Q _ => ∃ (a s t : Addr) (n : Nat) (ds : List (Nat × Nat)) (S S' : S2) (ms : List Mv), vs = [.ref a, .ref s, .ref t] ∧ HouseAt K H a ds ∧ Tree n ds ∧ n ≤ 60 ∧ StateAt K H s S ∧ StOk n ds S ∧ TrisAt H t ms ∧ Run ds S ms S' ∧
  ∀ (H' : Hp) (q : Addr), Same H H' → StateAt K H' q S' → Q (.ref q) H'
section
variable {P : Program} {w : World} {K : PySem.W.Frag}
      {mg : Str → Option Value} {base : Heap}
end
end K5

namespace K5
open PySem PySem.Spec PyProof.Rows L2
theorem Regs.toL {n : Nat} {ds : List (Nat × Nat)} {S : S2} {k : Nat} {Ls : List (List Nat)} (h : Regs n ds S k Ls) : RegsL ds S k Ls := ⟨h.len, fun p L hL => by
  obtain ⟨ks, r, pm⟩ := h.at_ p L hL
  exact r.set.of_perm pm⟩
theorem RegsL.rg {ds : List (Nat × Nat)} {S : S2} {Ls : List (List Nat)} (h : RegsL ds S S.1.length Ls) {p : Nat} {L : List Nat} (hL : Ls[p]? = some L) (x : Nat) : x ∈ L ↔ Rg ds S p x := by
  have lp : p < S.1.length := by have := get_lt hL; rw [h.len] at this; exact this
  obtain ⟨v, hv⟩ : ∃ v, S.1[p]? = some v := get_of rfl lp
  have r := h.at_ p L hL
  rw [getD_of hv] at r
  rw [r.mem]
  constructor
  · rintro ⟨w, h1, h2⟩
    exact ⟨v, w, hv, h1, fun e he z => h2 e he (mem_barr.mpr z)⟩
  · rintro ⟨u, w, h1, h2, h3⟩
    rw [hv] at h1
    cases h1
    exact ⟨w, h2, fun d hd z => h3 d hd (mem_barr.mp z)⟩
theorem RegsL.apt {ds : List (Nat × Nat)} {S : S2} {Ls : List (List Nat)} (h : RegsL ds S S.1.length Ls) : Ls.flatten.Nodup ↔ Apt ds S := by
  have row : ∀ p, p < S.1.length → ∃ L, Ls[p]? = some L := fun p hp => get_of rfl (by rw [h.len]; exact hp)
  have lp : ∀ {p x : Nat}, Rg ds S p x → p < S.1.length := fun {p x} ⟨u, w, h1, _⟩ => get_lt h1
  constructor
  · intro nd p q x hp hq
    refine Classical.byContradiction fun ne => ?_
    have key : ∀ p q, p < q → Rg ds S p x → Rg ds S q x → False := by
      intro p q lt hp hq
      obtain ⟨L, hL⟩ := row p (lp hp)
      obtain ⟨M, hM⟩ := row q (lp hq)
      have pw : List.Pairwise (fun A B : List Nat => ∀ a ∈ A, ∀ b ∈ B, a ≠ b) Ls := (List.pairwise_flatten.mp nd).2
      have := List.pairwise_iff_getElem.mp pw p q (get_lt hL) (get_lt hM) lt
      rw [List.getElem?_eq_getElem (get_lt hL)] at hL
      rw [List.getElem?_eq_getElem (get_lt hM)] at hM
      exact this x (by rw [Option.some.inj hL]; exact (h.rg (by rw [List.getElem?_eq_getElem]; exact hL) x).mpr hp) x (by rw [Option.some.inj hM]; exact (h.rg (by rw [List.getElem?_eq_getElem]; exact hM) x).mpr hq) rfl
    rcases Nat.lt_or_gt_of_ne ne with c | c
    · exact key p q c hp hq
    · exact key q p c hq hp
  · intro a
    refine List.pairwise_flatten.mpr ⟨fun L hL => ?_, List.pairwise_iff_getElem.mpr fun i j hi hj lt => fun x hx y hy e => ?_⟩
    · obtain ⟨p, hp⟩ := List.mem_iff_getElem?.mp hL
      exact (h.at_ p L hp).nd
    · subst e
      have := a i j x ((h.rg (List.getElem?_eq_getElem hi) x).mp hx) ((h.rg (List.getElem?_eq_getElem hj) x).mp hy)
      omega

/-! plans that run through -/
def Path (ds : List (Nat × Nat)) : S2 → List Mv → S2 → Prop
  | S, [], A => S = A
  | S, m :: r, A => Can ds S m ∧ Path ds (nxt ds S m) r A
section
variable {n : Nat} {ds : List (Nat × Nat)}
theorem Path.append : ∀ {l m : List Mv} {S A B : S2}, Path ds S l A → Path ds A m B → Path ds S (l ++ m) B
  | [], m, S, A, B, h, k => by
    have h : S = A := h
    subst h
    exact k
  | x :: l, m, S, A, B, h, k => ⟨h.1, Path.append h.2 k⟩
theorem Path.one {S : S2} {m : Mv} (c : Can ds S m) : Path ds S [m] (nxt ds S m) := ⟨c, rfl⟩
theorem Path.ok (T : Tree n ds) : ∀ {l : List Mv} {S A : S2}, Path ds S l A → StOk n ds S → StOk n ds A
  | [], S, A, h, o => by
    have h : S = A := h
    subst h
    exact o
  | x :: l, S, A, h, o => Path.ok T h.2 (o.nxt T h.1.vm)
theorem Path.len : ∀ {l : List Mv} {S A : S2}, Path ds S l A → A.1.length = S.1.length
  | [], S, A, h => by
    have h : S = A := h
    rw [h]
  | x :: l, S, A, h => by rw [Path.len h.2, nxt_len]
theorem Path.vm : ∀ {l : List Mv} {S A : S2}, Path ds S l A → ∀ m ∈ l, VM ds S.1.length m
  | [], S, A, h => fun m hm => nomatch hm
  | x :: l, S, A, h => fun m hm => by
    rcases List.mem_cons.mp hm with rfl | hm
    · exact h.1.vm
    · have := Path.vm h.2 m hm
      rw [nxt_len] at this
      exact this
theorem Path.runs (T : Tree n ds) : ∀ {l : List Mv} {S A : S2}, Path ds S l A → StOk n ds S → ∀ i, runs ds i S l = .inr A
  | [], S, A, h, o, i => by
    have h : S = A := h
    rw [h]
    rfl
  | x :: l, S, A, h, o, i => by
    have e := h.1.why T o
    show (match why ds S x with | some w => _ | none => _) = _
    rw [e]
    exact Path.runs T h.2 (o.nxt T h.1.vm) _
theorem nodup_ne {l : List Nat} (nd : l.Nodup) {i j a b : Nat} (h1 : l[i]? = some a) (h2 : l[j]? = some b) (lt : i < j) : a ≠ b := by
  have l1 := get_lt h1
  have l2 := get_lt h2
  have := List.pairwise_iff_getElem.mp nd i j l1 l2 lt
  rw [List.getElem?_eq_getElem l1] at h1
  rw [List.getElem?_eq_getElem l2] at h2
  rw [Option.some.inj h1, Option.some.inj h2] at this
  exact this
theorem Path.eq {ds : List (Nat × Nat)} : ∀ {l : List Mv} {S A : S2}, Path ds S l A → A = l.foldl (nxt ds) S
  | [], S, A, h => by
    have h : S = A := h
    exact h.symm
  | x :: l, S, A, h => by
    have := Path.eq (l := l) h.2
    exact this
/-- the order in which a crowd goes -/
def ordF (L : List Nat) (c : Nat) : List Nat := L.filter (fun v => decide (v ≠ c)) ++ L.filter fun v => decide (v = c)
/-- the room behind a door -/
def far (ds : List (Nat × Nat)) (d x : Nat) : Nat := match ds[d]? with
  | some e => if e.1 = x then e.2 else e.1
  | none => 0
theorem far_is {ds : List (Nat × Nat)} {d x y : Nat} (j : Joins ds d x y) : far ds d x = y := by
  unfold far
  rcases j with j | j
  · rw [j]
    exact if_pos rfl
  · rw [j]
    show (if y = x then x else y) = y
    split
    · rename_i h
      exact h.symm
    · rfl
def stepF (ds : List (Nat × Nat)) (L : List Nat) (T : S2 × Nat × List Mv) (d : Nat) : S2 × Nat × List Mv :=
  (((ordF L (T.1.2.getD d 0)).map fun q => (q, T.2.1, far ds d T.2.1)).foldl (nxt ds) T.1, far ds d T.2.1, T.2.2 ++ (ordF L (T.1.2.getD d 0)).map fun q => (q, T.2.1, far ds d T.2.1))
def leadF (ds : List (Nat × Nat)) (S : S2) (x : Nat) (L w : List Nat) : S2 × Nat × List Mv := w.foldl (stepF ds L) (S, x, [])
/-- a crowd's turn at a door, k of the order through -/
structure Crs (ds : List (Nat × Nat)) (S : S2) (d x y : Nat) (ord : List Nat) (k : Nat) (A : S2) (l : List Mv) : Prop where
  path : Path ds S l A
  len : l.length = k
  done : ∀ p ∈ ord.take k, A.1[p]? = some y
  rest : ∀ p, p ∉ ord.take k → A.1[p]? = S.1[p]?
  bars : ∀ e, e ≠ d → A.2[e]? = S.2[e]?
  bar0 : k = 0 → A = S
  bar1 : ∀ j, k = j + 1 → A.2[d]? = ord[j]?
  fn : l = (ord.take k).map fun q => (q, x, y)
theorem Crs.zero {S : S2} {d x y : Nat} {ord : List Nat} : Crs ds S d x y ord 0 S [] :=
  ⟨rfl, rfl, fun p h => by rw [List.take_zero] at h; exact absurd h List.not_mem_nil, fun _ _ => rfl, fun _ _ => rfl, fun _ => rfl, fun j h => by omega, rfl⟩
theorem Crs.step (T : Tree n ds) {S A : S2} {d x y k q : Nat} {ord : List Nat} {l : List Mv} (h : Crs ds S d x y ord k A l) (o : StOk n ds S) (j : Joins ds d x y) (nd : ord.Nodup) (hx : ∀ p ∈ ord, S.1[p]? = some x) (hq : ord[k]? = some q) (fst : ∀ p, ord[0]? = some p → S.2[d]? ≠ some p) :
    Can ds A (q, x, y) ∧ A.1[q]? = some x ∧ A.2[d]? ≠ some q ∧ Crs ds S d x y ord (k + 1) (nxt ds A (q, x, y)) (l ++ [(q, x, y)]) := by
  have lk := get_lt hq
  have nq : q ∉ ord.take k := fun z => by
    obtain ⟨i, hi⟩ := List.mem_iff_getElem?.mp z
    have li := get_lt hi
    rw [List.length_take] at li
    rw [List.getElem?_take, if_pos (by omega)] at hi
    exact nodup_ne nd hi hq (by omega) rfl
  have aq : A.1[q]? = some x := by
    rw [h.rest q nq]
    exact hx q (List.mem_of_getElem? hq)
  have nb : A.2[d]? ≠ some q := by
    cases k with
    | zero =>
      rw [h.bar0 rfl]
      exact fst q hq
    | succ i =>
      rw [h.bar1 i rfl]
      obtain ⟨a, ha⟩ : ∃ a, ord[i]? = some a := get_of rfl (by omega)
      rw [ha]
      exact fun z => nodup_ne nd ha hq (by omega) (Option.some.inj z)
  have c : Can ds A (q, x, y) := ⟨get_lt aq, aq, d, j, nb⟩
  have oA := h.path.ok T o
  have ed : dix ds x y = d := dix_is T j
  refine ⟨c, aq, nb, h.path.append (.one c), by rw [List.length_append, h.len]; rfl, fun p hp => ?_, fun p hp => ?_, fun e ne => ?_, fun e => by omega, fun i hi => ?_, by rw [List.take_add_one, hq, List.map_append, h.fn]; rfl⟩
  · show (A.1.set q y)[p]? = _
    rw [List.take_add_one, hq] at hp
    by_cases e : q = p
    · subst e
      exact List.getElem?_set_self (get_lt aq)
    · rw [List.getElem?_set_ne e]
      rcases List.mem_append.mp hp with hp | hp
      · exact h.done p hp
      · exact absurd (List.mem_singleton.mp hp).symm e
  · show (A.1.set q y)[p]? = _
    rw [List.take_add_one, hq] at hp
    have e : q ≠ p := fun z => hp (List.mem_append_right _ (by rw [z]; exact List.mem_singleton.mpr rfl))
    rw [List.getElem?_set_ne e]
    exact h.rest p fun z => hp (List.mem_append_left _ z)
  · show (A.2.set (dix ds x y) q)[e]? = _
    rw [ed, List.getElem?_set_ne (Ne.symm ne)]
    exact h.bars e ne
  · have e : i = k := by omega
    subst e
    show (A.2.set (dix ds x y) q)[d]? = _
    rw [ed, List.getElem?_set_self (by rw [oA.doors]; exact joins_lt j), hq]
/-- a crowd has gone from a room to another -/
structure Led (ds : List (Nat × Nat)) (S : S2) (x y : Nat) (L w : List Nat) (A : S2) (l : List Mv) : Prop where
  path : Path ds S l A
  len : l.length = w.length * L.length
  done : ∀ p ∈ L, A.1[p]? = some y
  rest : ∀ p, p ∉ L → A.1[p]? = S.1[p]?
  bars : ∀ e, e ∉ w → A.2[e]? = S.2[e]?
  fn : leadF ds S x L w = (A, y, l)
theorem Led.nil {S : S2} {x : Nat} {L : List Nat} (h : ∀ p ∈ L, S.1[p]? = some x) : Led ds S x x L [] S [] := ⟨rfl, by simp, h, fun _ _ => rfl, fun _ _ => rfl, rfl⟩
theorem Led.add {S A B : S2} {x0 x y d : Nat} {L w ord : List Nat} {l m : List Mv} (h : Led ds S x0 x L w A l) (c : Crs ds A d x y ord ord.length B m) (jo : Joins ds d x y) (eo : ord = ordF L (A.2.getD d 0)) (pm : ord.Perm L) : Led ds S x0 y L (w ++ [d]) B (l ++ m) := by
  have tk : ord.take ord.length = ord := List.take_length
  refine ⟨h.path.append c.path, ?_, fun p hp => c.done p (by rw [tk]; exact pm.mem_iff.mpr hp), fun p hp => ?_, fun e he => ?_, ?_⟩
  · rw [List.length_append, List.length_append, List.length_singleton, c.len, pm.length_eq, Nat.add_mul, Nat.one_mul]
    have := h.len
    omega
  · rw [c.rest p (by rw [tk]; exact fun z => hp (pm.mem_iff.mp z))]
    exact h.rest p hp
  · rw [c.bars e fun z => he (List.mem_append_right _ (by rw [z]; exact List.mem_singleton.mpr rfl))]
    exact h.bars e fun z => he (List.mem_append_left _ z)
  · have em : m = (ordF L (A.2.getD d 0)).map fun q => (q, x, y) := by
      rw [c.fn, tk, ← eo]
    have eb := c.path.eq
    have hf := h.fn
    unfold leadF at hf ⊢
    rw [List.foldl_append, hf]
    show stepF ds L (A, x, l) d = _
    unfold stepF
    simp only
    rw [far_is jo, ← em, ← eb]
/-- where a way of two splits: the one who is stopped, the other not -/
theorem split_ok (T : Tree n ds) {S : S2} {i j r xi xj k : Nat} {w : List Nat} (ij : i ≠ j) (hi : Rg ds S i r) (hj : Rg ds S j r) (si : S.1[i]? = some xi) (sj : S.1[j]? = some xj) (W : Walk ds xi w xj) (nd : w.Nodup)
    (hk : ∀ e, w[k]? = some e → S.2[e]? = some i) : ∀ e ∈ w.drop k, S.2[e]? ≠ some j := by
  intro e he ej
  obtain ⟨side, s1, s2⟩ := T.side
  have lk : k < w.length := by
    refine Classical.byContradiction fun z => ?_
    rw [List.drop_eq_nil_of_le (by omega)] at he
    exact nomatch he
  obtain ⟨d, hd⟩ : ∃ d, w[k]? = some d := get_of rfl lk
  have di := hk d hd
  have ed : e ≠ d := fun z => by
    rw [z, di] at ej
    exact ij (Option.some.inj ej)
  have ew : w = w.take k ++ d :: w.drop (k + 1) := by
    have := List.drop_eq_getElem_cons lk
    rw [List.getElem?_eq_getElem lk] at hd
    rw [Option.some.inj hd] at this
    rw [← this, List.take_append_drop]
  have he2 : e ∈ w.drop (k + 1) := by
    have : w.drop k = d :: w.drop (k + 1) := by
      have := List.drop_eq_getElem_cons lk
      rw [List.getElem?_eq_getElem lk] at hd
      rw [Option.some.inj hd] at this
      exact this
    rw [this] at he
    exact (List.mem_cons.mp he).resolve_left ed
  generalize w.take k = p1 at ew
  generalize w.drop (k + 1) = p2 at ew he2
  subst ew
  obtain ⟨n1, n2, n3⟩ := List.nodup_append.mp nd
  obtain ⟨n4, n5⟩ := List.nodup_cons.mp n2
  have d1 : d ∉ p1 := fun m => n3 d m d List.mem_cons_self rfl
  have e1 : e ∉ p1 := fun m => n3 e m e (List.mem_cons_of_mem _ he2) rfl
  -- split the way at d, then at e
  have spl : ∀ {p1 : List Nat} {a b : Nat} {p2 : List Nat}, Walk ds a (p1 ++ d :: p2) b → ∃ u v, Walk ds a p1 u ∧ Joins ds d u v ∧ Walk ds v p2 b := by
    intro p1
    induction p1 with
    | nil =>
      intro a b p2 W
      cases W with
      | cons jo W => exact ⟨_, _, .nil _, jo, W⟩
    | cons c p1 ih =>
      intro a b p2 W
      cases W with
      | cons jo W =>
        obtain ⟨u, v, h1, h2, h3⟩ := ih W
        exact ⟨u, v, .cons jo h1, h2, h3⟩
  obtain ⟨u, v, w1, jd, w2⟩ := spl W
  have use := side_use s1 s2 W nd (c := e) (List.mem_append_right _ (List.mem_cons_of_mem _ he2))
  obtain ⟨q1, q2, s, t, rfl, w3, je, w4⟩ := w2.split he2
  obtain ⟨a, wi, h1, h2, h3⟩ := hi
  obtain ⟨b, wj, g1, g2, g3⟩ := hj
  rw [si] at h1
  cases h1
  rw [sj] at g1
  cases g1
  have dwi : d ∉ wi := fun z => h3 d z di
  have ewj : e ∉ wj := fun z => g3 e z ej
  have dq1 : d ∉ q1 := fun z => n4 (List.mem_append_left _ z)
  -- the far side of d
  have k1 : side d xi = side d u := side_walk s2 w1 d1
  have k2 : side d u ≠ side d v := side_join s1 jd
  have k3 : side d v = side d s := side_walk s2 w3 dq1
  have k4 : side d s = side d t := side_other s2 je (Ne.symm ed)
  have ewi : e ∉ wi := fun z => by
    obtain ⟨a1, a2, s', t', rfl, v1, jo, v2⟩ := h2.split z
    have z1 : side d xi = side d s' := side_walk s2 v1 fun m => dwi (List.mem_append_left _ m)
    rcases ends_of jo je with q | q
    · rw [q, ← k3, k1] at z1
      exact k2 z1
    · rw [q, ← k4, ← k3, k1] at z1
      exact k2 z1
  exact use ((side_walk s2 h2 ewi).trans (side_walk s2 g2 ewj).symm)
end
/-- two who can meet, the one before the other -/
theorem not_apt {ds : List (Nat × Nat)} {S : S2} (h : ¬ Apt ds S) : ∃ i j r, i < j ∧ Rg ds S i r ∧ Rg ds S j r := by
  refine Classical.byContradiction fun z => h fun p q x hp hq => Classical.byContradiction fun ne => ?_
  rcases Nat.lt_or_gt_of_ne ne with c | c
  · exact z ⟨p, q, x, c, hp, hq⟩
  · exact z ⟨q, p, x, c, hq, hp⟩
theorem together {ds : List (Nat × Nat)} {S : S2} {i j x : Nat} (ij : i ≠ j) (h1 : S.1[i]? = some x) (h2 : S.1[j]? = some x) : ¬ Apt ds S := fun a => ij (a i j x (.here h1) (.here h2))
theorem walk_doors {ds : List (Nat × Nat)} {a b : Nat} {w : List Nat} (h : Walk ds a w b) : ∀ e ∈ w, e < ds.length := by
  induction h with
  | nil => exact fun e h => nomatch h
  | cons j w ih =>
    intro e he
    rcases List.mem_cons.mp he with rfl | he
    · exact joins_lt j
    · exact ih e he
theorem walk_short {ds : List (Nat × Nat)} {a b : Nat} {w : List Nat} (h : Walk ds a w b) (nd : w.Nodup) : w.length ≤ ds.length := nodup_le ds.length w nd (walk_doors h)
theorem walk_in {n : Nat} {ds : List (Nat × Nat)} (T : Tree n ds) {a b : Nat} {w : List Nat} (h : Walk ds a w b) (ha : a < n) : b < n := by
  induction h with
  | nil => exact ha
  | cons j w ih => exact ih (j.lt T).2.1

/-! what is determined -/
open Classical in
noncomputable def wayF (ds : List (Nat × Nat)) (x y : Nat) : List Nat := if h : ∃ w, Walk ds x w y ∧ w.Nodup then h.choose else []
theorem way_is {n : Nat} {ds : List (Nat × Nat)} (T : Tree n ds) {x y : Nat} {w : List Nat} (W : Walk ds x w y) (nd : w.Nodup) : wayF ds x y = w := by
  have h : ∃ w, Walk ds x w y ∧ w.Nodup := ⟨w, W, nd⟩
  unfold wayF
  rw [dif_pos h]
  exact way_unique T h.choose_spec.1 W h.choose_spec.2 nd
end K5

namespace L2
open PySem PySem.Spec PyProof.Rows PySem.W
/-! own rule: min(l) of a list of alike data: one of the items, a least one -/
theorem min_at {prog : Program} {w : World} {A : Around} {s : Shared} {E : Value → Shared → Prop} {l : Addr} {vs : Array Value} {x : PyData} {xs : List PyData} {as : List Addr} {Q : Value → Shared → Prop} (hh : A.handled = none) (hl : s.heap.IsList l vs) (hr : ReadsAll s.heap vs.toList (x :: xs) as) (ha : AlikeAll (x :: xs)) (hu : A.units + 1 + PyData.depthAll (x :: xs) < cLine)
    (h : ∀ (i : Nat) v h' tk, vs[i]? = some v → (x :: xs).getD i .none = minD x xs → i ≤ xs.length → (∀ b o, s.heap.get? b = some o → h'.get? b = some o) → Q v { s with toks := tk, heap := h' }) :
    wpAny (model prog w) A (call (.builtin
          "min") [.ref l]) Q E s := by
  have hn : vs.size = xs.length
        + 1 := readsAll_len hr
  refine call_min_walkH (iter_listW (A := A.in1)
        hh hl fun s₂ e W st hfp hw hk => ?_)
  refine ⟨_, _, _, _, _, _, _, s.heap, _, rfl, W, st, hfp, by omega, hw, hk, cmpIn_lt (A := A.in1) hr ha (by show A.units + 1 + _ < _; exact hu), fun v s' hP m => ?_⟩
  obtain ⟨h', tk, rfl, hk'⟩
        := moved_old e rfl m
  have e1 : vs.size - 1 =
        xs.length := by omega
  obtain ⟨f1, f2⟩ := argBest_fold dataLt PyData.none x xs xs.length (Nat.le_refl _)
  rw [List.take_length] at f2
  rw [e1] at hP
  exact h _ v h' tk hP f2 f1 hk'
def rMinD (K : PySem.W.Frag) : List V → Hp → VK → Prop := fun vs H Q => ∃ (a : Addr) (xs : List V) (d : PyData) (ds : List PyData), vs = [V.ref a] ∧ SqL K H a xs ∧ DpAll K H xs (d :: ds) ∧ AlikeAll (d :: ds) ∧ PyData.depthAll (d :: ds) ≤ 60 ∧
  ∀ (i : Nat) (x : V), xs[i]? = some x → (d :: ds).getD i .none = minD d ds → Q x H
theorem cr_minD {X : Cx} (hc : X.calm = true) (hu : X.A.units + 64 < cLine) : CallR X (.builtin "min") (rMinD X.K) := by
  rintro pins s σ H vs us Q I r ⟨a, xs, d, ds, rfl, hs, hd, al, dep, q⟩
  obtain ⟨its, rv, hl, few⟩ := I.list hs
  rw [Vals.ref1 r]
  obtain ⟨as, ra⟩ := Dp.readsAll I (d :: ds) xs its hd rv
  refine min_at (I.ok.hd hc) hl.isList ra al (by omega) fun i v h' tk hv e le hk => ?_
  have hv' : its[i]? = some
        v := by simpa using hv
  have lt : i < xs.length := by rw [rv.length]; exact (List.getElem?_eq_some_iff.mp hv').1
  obtain ⟨u, hu', rx⟩ := rv.get (List.getElem?_eq_getElem lt)
  rw [hv'] at hu'
  cases hu'
  have hx : xs[i]? = some xs[i] := List.getElem?_eq_getElem lt
  exact ⟨_, H, I.kept hk, rx, q i _ hx e⟩
end L2

namespace L2
open PySem PySem.Spec PyProof.Rows
/-- an __init__ of the text -/
def IniD (K : PySem.W.Frag) (C : Addr) (qual : Str) (st : Stmt) : Prop := ∃ (f : Addr) (fd : FuncData), Fun K "__init__" qual st f fd ∧ Mk K C f
def CalI (P : Program) (w : World) (K : PySem.W.Frag) (mg : Str → Option Value) (base : Heap) (C : Addr) (ps : List Str) (k : Nat) (sp : Sp) : Prop :=
  ∃ (f : Addr) (fd : FuncData), Mk K C f ∧ Binds K fd ps [] ∧ FnOk P w K mg base CX0 k f fd ps sp
theorem IniD.ok {P : Program} {w : World} {K : PySem.W.Frag} {mg : Str → Option Value} {base : Heap} {C : Addr} {qual : Str} {st : Stmt} {N ps : List Str} {k : Nat} {sp : Sp} (D : IniD K C qual st) (S : FnScope N ps (defScope st))
    (hb : ∀ (kV doc pm : Value) (an : Option Addr) (cdv ct : Value) (us : List Value), us.length = ps.length → bindArgs (PySem.W.fnOf "__init__" qual (defArgs st) (defBody st) (defScope st) .none kV doc pm an cdv ct) ⟨us, []⟩ = pure (ps.zip us))
    (ar : ∀ vs H Q E, sp vs H Q E → vs.length = ps.length)
    (hbody : ∀ (f : Addr) (cdv : Value) (A : Around) (outer : List Env) (s : Shared) (H : Hp) (vs : List V) (Q : VK) (E : XK), Room k (A.deeper (envOfC qual (defScope st) s.heap.objs.size f cdv)) → sp vs H Q E →
      ∃ t, PSs (cxOf CX0 P w K mg base N qual (defScope st) f cdv A outer s H E).nox (defBody st) t ∧ t { nx := fun _ H' => Q .non H', rt := Q } (start N vs) H) : CalI P w K mg base C ps (k + 1) sp := by
  obtain ⟨f, fd, F, me⟩ := D
  exact ⟨f, fd, me, F.binds hb, F.ok S ar fun cdv A outer s H vs Q E hr h => hbody f cdv A outer s H vs Q E hr h⟩
end L2

namespace K5
open PySem PySem.Spec PyProof.Rows L2
theorem all_in {L B : List Nat} : (L.map fun e => decide (e ∈ B)).all id = true ↔ ∀ e ∈ L, e ∈ B := by
  rw [List.all_eq_true]
  constructor
  · intro h e he
    exact of_decide_eq_true (h _ (List.mem_map.mpr ⟨e, he, rfl⟩))
  · intro h x hx
    obtain ⟨e, he, rfl⟩ := List.mem_map.mp hx
    exact decide_eq_true (h e he)
theorem iteT' {b : Bool} {A B : Prop} (h : b = true) (x : A) : if b = true then A else B := by
  rw [if_pos h]
  exact x
theorem iteF' {b : Bool} {A B : Prop} (h : b = false) (x : B) : if b = true then A else B := by
  subst h
  exact x
theorem cutL_to {xs : List V} {k : Nat} (h : k ≤ xs.length) : cutV xs none (some (k : Int)) = xs.take k := by
  unfold cutV
  rw [HT.sIx_none, HT.sIx_nat, Nat.min_eq_left h, List.drop_zero, Nat.sub_zero]
theorem cutL_from {xs : List V} {k : Nat} (h : k ≤ xs.length) : cutV xs (some (k : Int)) none = xs.drop k := by
  unfold cutV
  rw [HT.sIx_none, HT.sIx_nat, Nat.min_eq_left h, List.take_of_length_le]
  rw [List.length_drop]
  exact Nat.le_refl _
end K5

namespace K5
open PySem PySem.Spec PyProof.Rows L2
/-- one-person crowds, by their numbers -/
def CrsAt (H : Hp) (cs : Addr) (S : S2) : Prop := ∃ ps : List Addr, H cs = some (.lst (ps.map V.ref)) ∧ ps.length = S.1.length ∧ ∀ (i : Nat) (q : Addr), ps[i]? = some q → H q = some (.lst (nv [i]))
def opn (S : S2) (p : Nat) : List Nat := (List.range S.2.length).filter fun d => decide (S.2[d]? ≠ some p)
def OpsAt (H : Hp) (os : Addr) (S : S2) : Prop := ∃ ps : List Addr, H os = some (.lst (ps.map V.ref)) ∧ ps.length = S.1.length ∧ ∀ (i : Nat) (q : Addr), ps[i]? = some q → H q = some (.lst (nv (opn S i)))
theorem CrsAt.same {H H' : Hp} {cs : Addr} {S : S2} (h : CrsAt H cs S) (s : Same H H') : CrsAt H' cs S := by
  obtain ⟨ps, h1, h2, h3⟩ := h
  exact ⟨ps, s _ _ h1, h2, fun i q e => s _ _ (h3 i q e)⟩
theorem OpsAt.same {H H' : Hp} {cs : Addr} {S : S2} (h : OpsAt H cs S) (s : Same H H') : OpsAt H' cs S := by
  obtain ⟨ps, h1, h2, h3⟩ := h
  exact ⟨ps, s _ _ h1, h2, fun i q e => s _ _ (h3 i q e)⟩
theorem mem_opn {n : Nat} {ds : List (Nat × Nat)} {S : S2} (o : StOk n ds S) {p d : Nat} (hd : d < ds.length) : d ∈ opn S p ↔ S.2[d]? ≠ some p := by
  unfold opn
  rw [List.mem_filter, List.mem_range, o.doors]
  exact ⟨fun h => of_decide_eq_true h.2, fun h => ⟨hd, decide_eq_true h⟩⟩
/-- a meeting: who, by what way, how far the first goes -/
structure Meet where
  i : Nat
  j : Nat
  w : List Nat
  k : Nat
structure MeetOk (ds : List (Nat × Nat)) (S : S2) (m : Meet) : Prop where
  ij : m.i < m.j
  jl : m.j < S.1.length
  way : ∃ x y, S.1[m.i]? = some x ∧ S.1[m.j]? = some y ∧ Walk ds x m.w y
  nd : m.w.Nodup
  kl : m.k ≤ m.w.length
  fst : ∀ e ∈ m.w.take m.k, S.2[e]? ≠ some m.i
  snd : ∀ e ∈ m.w.drop m.k, S.2[e]? ≠ some m.j
def MeetAt (B H : Hp) (t : Addr) (m : Meet) : Prop := ∃ u v : Addr, H t = some (.tup [.int (m.w.length : Int), .int (m.i : Int), .int (m.j : Int), .ref u, .ref v]) ∧ H u = some (.lst (nv (m.w.take m.k))) ∧ H v = some (.lst (nv (m.w.drop m.k).reverse)) ∧ B u = none ∧ B v = none
theorem MeetAt.same {B H H' : Hp} {t : Addr} {m : Meet} (h : MeetAt B H t m) (s : Same H H') : MeetAt B H' t m := by
  obtain ⟨u, v, h1, h2, h3, h4, h5⟩ := h
  exact ⟨u, v, s _ _ h1, s _ _ h2, s _ _ h3, h4, h5⟩
open PySem.W (minD)
def splitF (S : S2) (i : Nat) (w : List Nat) : Nat := (w.takeWhile fun e => decide (S.2[e]? ≠ some i)).length
open Classical in
noncomputable def meetF (ds : List (Nat × Nat)) (S : S2) (i j : Nat) : Option Meet :=
  let w := wayF ds (S.1.getD i 0) (S.1.getD j 0)
  if ∀ e ∈ w.drop (splitF S i w), S.2[e]? ≠ some j then some ⟨i, j, w, splitF S i w⟩ else none
noncomputable def rowF (ds : List (Nat × Nat)) (S : S2) (i : Nat) : List Meet := (List.range' (i + 1) (S.1.length - (i + 1))).filterMap (meetF ds S i)
noncomputable def meetsF (ds : List (Nat × Nat)) (S : S2) (f : Nat) : List Meet := (List.range f).flatMap (rowF ds S)
def dMt (m : Meet) : PyData := .tuple [.int (m.w.length : Int), .int (m.i : Int), .int (m.j : Int), .list (((m.w.take m.k).map fun x : Nat => (x : Int)).map .int), .list (((m.w.drop m.k).reverse.map fun x : Nat => (x : Int)).map .int)]
/-- the meeting that min finds -/
def SoonR (ds : List (Nat × Nat)) (S : S2) (m : Meet) : Prop := m ∈ meetsF ds S S.1.length ∧ ∃ m0 r, meetsF ds S S.1.length = m0 :: r ∧ dMt m = minD (dMt m0) (r.map dMt)
theorem split_len {S : S2} {i k : Nat} : ∀ {w : List Nat}, k ≤ w.length → (∀ e ∈ w.take k, S.2[e]? ≠ some i) → (∀ e, w[k]? = some e → S.2[e]? = some i) → splitF S i w = k := by
  induction k with
  | zero =>
    intro w _ _ h
    cases w with
    | nil => rfl
    | cons a w =>
      unfold splitF
      rw [List.takeWhile_cons_of_neg (by rw [h a rfl]; simp)]
      rfl
  | succ k ih =>
    intro w hk h1 h2
    cases w with
    | nil => simp at hk
    | cons a w =>
      have := ih (w := w) (by simpa using hk) (fun e he => h1 e (by rw [List.take_succ_cons]; exact List.mem_cons_of_mem _ he)) (fun e he => h2 e (by simpa using he))
      unfold splitF at this ⊢
      rw [List.takeWhile_cons_of_pos (by simpa using h1 a (by rw [List.take_succ_cons]; exact List.mem_cons_self)), List.length_cons, this]
theorem meet_yes {n : Nat} {ds : List (Nat × Nat)} (T : Tree n ds) {S : S2} {i j k x y : Nat} {w : List Nat} (hx : S.1[i]? = some x) (hy : S.1[j]? = some y) (W : Walk ds x w y) (nd : w.Nodup) (hk : splitF S i w = k) (ok : ∀ e ∈ w.drop k, S.2[e]? ≠ some j) : meetF ds S i j = some ⟨i, j, w, k⟩ := by
  unfold meetF
  simp only [getD_of hx, getD_of hy, way_is T W nd, hk]
  exact if_pos ok
theorem meet_no {n : Nat} {ds : List (Nat × Nat)} (T : Tree n ds) {S : S2} {i j k x y : Nat} {w : List Nat} (hx : S.1[i]? = some x) (hy : S.1[j]? = some y) (W : Walk ds x w y) (nd : w.Nodup) (hk : splitF S i w = k) (bad : ¬ ∀ e ∈ w.drop k, S.2[e]? ≠ some j) : meetF ds S i j = none := by
  unfold meetF
  simp only [getD_of hx, getD_of hy, way_is T W nd, hk]
  exact if_neg bad
theorem meet_ij {ds : List (Nat × Nat)} {S : S2} {i j : Nat} {m : Meet} (h : meetF ds S i j = some m) : m.i = i ∧ m.j = j := by
  unfold meetF at h
  simp only at h
  split at h
  · cases h
    exact ⟨rfl, rfl⟩
  · cases h
theorem mem_meets {ds : List (Nat × Nat)} {S : S2} {f : Nat} {m : Meet} (h : m ∈ meetsF ds S f) : meetF ds S m.i m.j = some m := by
  unfold meetsF at h
  obtain ⟨i, _, hi⟩ := List.mem_flatMap.mp h
  obtain ⟨j, _, hj⟩ := List.mem_filterMap.mp hi
  obtain ⟨e1, e2⟩ := meet_ij hj
  rw [e1, e2]
  exact hj
theorem dMt_ij {a b : Meet} (h : dMt a = dMt b) : a.i = b.i ∧ a.j = b.j := by
  unfold dMt at h
  have h := PyData.tuple.inj h
  simp only [List.cons.injEq, PyData.int.injEq] at h
  omega
theorem SoonR.unique {ds : List (Nat × Nat)} {S : S2} {a b : Meet} (ha : SoonR ds S a) (hb : SoonR ds S b) : a = b := by
  obtain ⟨h1, m0, r, e1, e2⟩ := ha
  obtain ⟨h3, m1, r1, e3, e4⟩ := hb
  rw [e1] at e3
  cases e3
  obtain ⟨i, j⟩ := dMt_ij (e2.trans e4.symm)
  have h1 := mem_meets h1
  have h3 := mem_meets h3
  rw [i, j, h3] at h1
  exact (Option.some.inj h1).symm
open PySem.W (alike alikeAll alike_ints AlikeAll)
theorem dp_ints {K : PySem.W.Frag} {H : Hp} : ∀ l : List Nat, DpAll K H (nv l) ((l.map fun x : Nat => (x : Int)).map .int)
  | [] => .nil
  | x :: l => .cons (.int _) (dp_ints l)
theorem dp_meet {K : PySem.W.Frag} {B H : Hp} {t : Addr} {m : Meet} (h : MeetAt B H t m) : Dp K H (.ref t) (dMt m) := by
  obtain ⟨u, v, h1, h2, h3, _⟩ := h
  exact .tup (SqT.of h1) (.cons (.int _) (.cons (.int _) (.cons (.int _) (.cons (.lst (SqL.of h2) (dp_ints _)) (.cons (.lst (SqL.of h3) (dp_ints _)) .nil)))))
theorem dep_ints : ∀ l : List Int, PyData.depthAll (l.map .int) = 0
  | [] => rfl
  | x :: l => by
    rw [List.map_cons, PyData.depthAll, dep_ints l]
    rfl
theorem dep_mt (m : Meet) : (dMt m).depth = 2 := by
  simp only [dMt, PyData.depth, PyData.depthAll, dep_ints]
  rfl
theorem dep_mts : ∀ ms : List Meet, PyData.depthAll (ms.map dMt) ≤ 2
  | [] => Nat.zero_le _
  | m :: ms => by
    have := dep_mts ms
    rw [List.map_cons, PyData.depthAll, dep_mt]
    omega
theorem alike_mt (a b : Meet) : alike (dMt a) (dMt b) = true := by
  simp only [dMt, alike, alikeAll, alike_ints]
  rfl
theorem alike_mts (ms : List Meet) : AlikeAll (ms.map dMt) := by
  refine ⟨fun x hx y hy => ?_, fun x hx => ?_⟩
  · obtain ⟨a, _, rfl⟩ := List.mem_map.mp hx
    obtain ⟨b, _, rfl⟩ := List.mem_map.mp hy
    exact alike_mt a b
  · obtain ⟨a, _, rfl⟩ := List.mem_map.mp hx
    exact fun e => by cases e
/-- the meetings found -/
structure Mts (B H : Hp) (ds : List (Nat × Nat)) (S : S2) (ts : List Addr) (ms : List Meet) : Prop where
  len : ts.length = ms.length
  at_ : ∀ (i : Nat) (t : Addr) (m : Meet), ts[i]? = some t → ms[i]? = some m → MeetAt B H t m
  ok : ∀ m ∈ ms, MeetOk ds S m
theorem Mts.same {B H H' : Hp} {ds S ts ms} (h : Mts B H ds S ts ms) (s : Same H H') : Mts B H' ds S ts ms := ⟨h.len, fun i t m a b => (h.at_ i t m a b).same s, h.ok⟩
theorem Mts.snoc {B H : Hp} {ds S ts ms t m} (h : Mts B H ds S ts ms) (a : MeetAt B H t m) (o : MeetOk ds S m) : Mts B H ds S (ts ++ [t]) (ms ++ [m]) := by
  refine ⟨by rw [List.length_append, List.length_append, h.len]; rfl, fun i t' m' e1 e2 => ?_, fun m' hm => ?_⟩
  · by_cases hi : i < ts.length
    · rw [List.getElem?_append_left hi] at e1
      rw [List.getElem?_append_left (by rw [← h.len]; exact hi)] at e2
      exact h.at_ i t' m' e1 e2
    · have lt := get_lt e1
      rw [List.length_append, List.length_singleton] at lt
      have ei : i = ts.length := by omega
      subst ei
      rw [List.getElem?_append_right (Nat.le_refl _), Nat.sub_self] at e1
      rw [h.len, List.getElem?_append_right (Nat.le_refl _), Nat.sub_self] at e2
      cases e1
      cases e2
      exact a
  · rcases List.mem_append.mp hm with hm | hm
    · exact h.ok m' hm
    · rw [List.mem_singleton.mp hm]
      exact o
theorem Mts.dp {K : PySem.W.Frag} {B H : Hp} : ∀ {ts : List Addr} {ms : List Meet}, ts.length = ms.length → (∀ (i : Nat) (t : Addr) (m : Meet), ts[i]? = some t → ms[i]? = some m → MeetAt B H t m) → DpAll K H (ts.map V.ref) (ms.map dMt)
  | [], [], _, _ => .nil
  | [], _ :: _, h, _ => by simp at h
  | _ :: _, [], h, _ => by simp at h
  | t :: ts, m :: ms, h, hd => .cons (dp_meet (hd 0 t m rfl rfl)) (Mts.dp (by simpa using h) fun i t' m' x y => hd (i + 1) t' m' x y)
theorem But.free {a x : Addr} {o : HO} {H H' : Hp} (b : But a H H') (ha : H' a = some o) (n : H' x = none) : H x = none := by
  cases e : H x with
  | none => rfl
  | some u =>
    have ne : x ≠ a := fun z => by rw [z, ha] at n; cases n
    have := b x u ne e
    rw [n] at this
    cases this
/-- pairs before (f, s) -/
def Bef2 (f s i j : Nat) : Prop := i < f ∨ (i = f ∧ j < s)
end K5

namespace K5
open PySem PySem.Spec PyProof.Rows L2
open PySem.W (dataLt minD dataLt_tuple dataLt_cons dataLt_int alike)
/-! the meeting that min finds has the shortest way -/
theorem mt_lt (a b : Meet) : (dataLt (dMt a) (dMt b) = true → a.w.length ≤ b.w.length) ∧ (a.w.length < b.w.length → dataLt (dMt a) (dMt b) = true) := by
  unfold dMt
  rw [dataLt_tuple, dataLt_cons (by simp [alike]), dataLt_int]
  by_cases c : (a.w.length : Int) = (b.w.length : Int)
  · rw [if_pos (by simp only [PyData.eqv]; exact beq_iff_eq.mpr c)]
    exact ⟨fun _ => by omega, fun h => by omega⟩
  · rw [if_neg (by simp only [PyData.eqv]; exact fun z => c (beq_iff_eq.mp z))]
    exact ⟨fun h => by have := of_decide_eq_true h; omega, fun h => decide_eq_true (by omega)⟩
theorem min_least : ∀ (r : List Meet) (m0 : Meet), ∃ m, m ∈ m0 :: r ∧ minD (dMt m0) (r.map dMt) = dMt m ∧ ∀ y ∈ m0 :: r, m.w.length ≤ y.w.length
  | [], m0 => ⟨m0, List.mem_cons_self, rfl, fun y hy => by rw [List.mem_singleton.mp hy]; exact Nat.le_refl _⟩
  | b :: r, m0 => by
    have e : minD (dMt m0) ((b :: r).map dMt) = minD (if dataLt (dMt b) (dMt m0) then dMt b else dMt m0) (r.map dMt) := rfl
    obtain ⟨h1, h2⟩ := mt_lt b m0
    by_cases c : dataLt (dMt b) (dMt m0) = true
    · rw [if_pos c] at e
      obtain ⟨m, hm, em, all⟩ := min_least r b
      refine ⟨m, List.mem_cons_of_mem _ hm, e.trans em, fun y hy => ?_⟩
      rcases List.mem_cons.mp hy with rfl | hy
      · exact Nat.le_trans (all b List.mem_cons_self) (h1 c)
      · exact all y hy
    · rw [if_neg c] at e
      obtain ⟨m, hm, em, all⟩ := min_least r m0
      refine ⟨m, ?_, e.trans em, fun y hy => ?_⟩
      · rcases List.mem_cons.mp hm with rfl | hm
        · exact List.mem_cons_self
        · exact List.mem_cons_of_mem _ (List.mem_cons_of_mem _ hm)
      · rcases List.mem_cons.mp hy with rfl | hy
        · exact all y List.mem_cons_self
        · rcases List.mem_cons.mp hy with rfl | hy
          · have := all m0 List.mem_cons_self
            have : m0.w.length ≤ y.w.length := Nat.le_of_not_lt fun z => c (h2 z)
            omega
          · exact all y (List.mem_cons_of_mem _ hy)
theorem SoonR.least {ds : List (Nat × Nat)} {S : S2} {m : Meet} (h : SoonR ds S m) : ∀ y ∈ meetsF ds S S.1.length, m.w.length ≤ y.w.length := by
  obtain ⟨hm, m0, r, e1, e2⟩ := h
  obtain ⟨m', hm', em, all⟩ := min_least r m0
  have e3 : dMt m = dMt m' := e2.trans em
  have : m.w.length = m'.w.length := by
    unfold dMt at e3
    have e3 := PyData.tuple.inj e3
    simp only [List.cons.injEq, PyData.int.injEq] at e3
    omega
  rw [e1, this]
  exact all
/-- every pair that can meet is among the meetings -/
theorem meets_all {n : Nat} {ds : List (Nat × Nat)} (T : Tree n ds) {S : S2} (o : StOk n ds S) {i j r x y : Nat} {w : List Nat} (ij : i < j) (hx : S.1[i]? = some x) (hy : S.1[j]? = some y) (ri : Rg ds S i r) (rj : Rg ds S j r) (W : Walk ds x w y) (nd : w.Nodup) :
    ∃ m ∈ meetsF ds S S.1.length, m.w = w := by
  have key : ∃ k, k ≤ w.length ∧ (∀ e ∈ w.take k, S.2[e]? ≠ some i) ∧ ∀ e, w[k]? = some e → S.2[e]? = some i := by
    have gen : ∀ w : List Nat, ∃ k, k ≤ w.length ∧ (∀ e ∈ w.take k, S.2[e]? ≠ some i) ∧ ∀ e, w[k]? = some e → S.2[e]? = some i := by
      intro w
      induction w with
      | nil => exact ⟨0, Nat.le_refl _, fun e h => absurd h (by simp), fun e h => by simp at h⟩
      | cons a w ih =>
        by_cases c : S.2[a]? = some i
        · exact ⟨0, Nat.zero_le _, fun e h => absurd h (by simp), fun e h => by
            have : a = e := by simpa using h
            rw [← this]
            exact c⟩
        · obtain ⟨k, h1, h2, h3⟩ := ih
          refine ⟨k + 1, by simpa using h1, fun e he => ?_, fun e he => h3 e (by simpa using he)⟩
          rw [List.take_succ_cons] at he
          rcases List.mem_cons.mp he with rfl | he
          · exact c
          · exact h2 e he
    exact gen w
  obtain ⟨k, k1, k2, k3⟩ := key
  have ok := split_ok T (by omega) ri rj hx hy W nd k3
  have hm := meet_yes T hx hy W nd (split_len k1 k2 k3) ok
  refine ⟨⟨i, j, w, k⟩, ?_, rfl⟩
  have jl := get_lt hy
  unfold meetsF
  refine List.mem_flatMap.mpr ⟨i, List.mem_range.mpr (by omega), ?_⟩
  unfold rowF
  refine List.mem_filterMap.mpr ⟨j, ?_, hm⟩
  rw [List.mem_range'_1]
  omega
end K5

namespace L2
open PySem PySem.Spec PyProof.Rows PySem.W
/-! own rule: min(l, key=f): the first item whose key is the least -/
section
variable {X : Cx} {pins : List (Addr ×
      Obj)} {σ : St} {H : Hp} {s : Shared}
theorem Inv.turned2 {h' : Heap} {t' : Nat} {i1 i2 : Addr} (I : Inv X pins σ H s) (k : ∀ b o, b ≠ i1 → b ≠ i2 → s.heap.get? b = some o → h'.get? b = some o) (f1 : FpOk X pins H i1) (f2 : FpOk X pins H i2) : Inv X pins σ H { s with heap := h', toks := t' } := by
  obtain ⟨n1, a1, _, a2, a3, a4⟩ := f1
  obtain ⟨n2, c1, _, c2, c3, c4⟩ := f2
  have nit : ∀ b u, H b = some u → b ≠ i1 ∧ b ≠ i2 := fun b u e => ⟨fun z => (by rw [z, n1] at e; cases e), fun z => (by rw [z, n2] at e; cases e)⟩
  have off : ∀ b, b ∉ [i1, i2] → b ≠ i1 ∧ b ≠ i2 := fun b z => by simpa using z
  refine I.step (g' := s.gens) (d' := s.drawn) (ch := [i1, i2]) (fun b hb => ?_) (fun b o _ _ hc e _ => k b o (off b hc).1 (off b hc).2 e) (fun b o _ _ hc e _ => ⟨o.slots, k b o (off b hc).1 (off b hc).2 e⟩) (fun _ _ _ _ n => n)
    (fun b o hc e => ⟨o, k b o (off b hc).1 (off b hc).2 e⟩) (fun _ _ e => e) (fun _ _ _ e => e) (fun b ps e => ⟨#[], by rw [e]; simp⟩) (fun m hm => ?_) (fun b u e => ?_) I.bare
  · simp only [List.mem_cons, List.not_mem_nil, or_false] at hb
    rcases hb with rfl | rfl
    · exact ⟨a2, a1, a3, a4⟩
    · exact ⟨c2, c1, c3, c4⟩
  · obtain ⟨o, es, ep, ho, r⟩ := hm
    exact ⟨o, es, ep, k _ o (Ne.symm a1) (Ne.symm c1) ho, r⟩
  · refine (I.hok b u e).stay (fun c v hc q => ?_) (fun _ q => q) fun _ _ q => q
    rcases hc with z | z
    · rw [z] at q ⊢
      exact k b v (nit b u e).1 (nit b u e).2 q
    · exact k c v (nit c _ z).1 (nit c _ z).2 q
end
theorem argBest_fst18 (kf : Nat → Int) : ∀ n, (∀ j, j ≤ n → kf (argBest (fun i j => decide (kf i < kf j)) n) ≤ kf j ∧ (j < argBest (fun i j => decide (kf i < kf j)) n → kf (argBest (fun i j => decide (kf i < kf j)) n) < kf j)) ∧ argBest (fun i j => decide (kf i < kf j)) n ≤ n
  | 0 => ⟨fun j hj => by
      have e : j = 0 := by omega
      subst e
      exact ⟨Int.le_refl _, fun h => absurd h (Nat.not_lt_zero _)⟩, Nat.le_refl _⟩
  | n + 1 => by
    obtain ⟨ih, le⟩ := argBest_fst18 kf n
    rw [argBest]
    by_cases c : kf (n + 1) < kf (argBest (fun i j => decide (kf i < kf j)) n)
    · rw [if_pos (decide_eq_true c)]
      refine ⟨fun j hj => ?_, Nat.le_refl _⟩
      by_cases e : j = n + 1
      · subst e
        exact ⟨Int.le_refl _, fun h => absurd h (Nat.lt_irrefl _)⟩
      · have := (ih j (by omega)).1
        exact ⟨by omega, fun _ => by omega⟩
    · rw [if_neg (by simpa using c)]
      refine ⟨fun j hj => ?_, by omega⟩
      by_cases e : j = n + 1
      · subst e
        exact ⟨by omega, fun _ => by omega⟩
      · exact ih j (by omega)
def rLeastBy (K : PySem.W.Frag) (f : Addr) (sp : Sp) : List V → List V → Hp → VK → Prop := fun vs zs H Q => ∃ (a : Addr) (xs : List V) (kf : Nat → Int), vs = [V.ref a] ∧ zs = [V.ref f] ∧ SqL K H a xs ∧ 0 < xs.length ∧
  (∀ (i : Nat) (x : V), xs[i]? = some x → sp [x] H (fun v H' => v = V.int (kf i) ∧ H' = H) (fun _ _ _ => False)) ∧
  ∀ (i : Nat) (x : V), xs[i]? = some x → (∀ j, j < xs.length → kf i ≤ kf j ∧ (j < i → kf i < kf j)) → Q x H
theorem cr_minKey {X : Cx} {k : Nat} {f : Addr} {fd : FuncData} {p : Str} {sp : Sp} (F : FnOk X.prog X.w X.K X.mg X.base CX0 k f fd [p] sp) (hr : Room (k + 1) X.A) (hb : Binds X.K fd [p] []) (hc : X.calm = true) : CallRK X (.builtin "min") [Str.ofString "key"] (rLeastBy X.K f sp) := by
  rintro pins s σ H vs zs us ws Q I r rz ⟨a, xs, kf, rfl, rfl, hs, hpos, hk, q⟩
  rw [Vals.ref1 r, Vals.ref1 rz]
  have hh : X.A.handled = none := I.ok.hd hc
  obtain ⟨its0, rv0, hl0, few⟩ := I.list hs
  refine call_min_walkK (iter_listW (A := X.A.in1) hh hl0.isList fun s₂ e W0 st0 hfp hw hkp => ?_)
  subst e
  have hne : a ≠ s.heap.objs.size := fun z => by
    obtain ⟨o, e, _⟩ := hl0.isList
    exact absurd z (Nat.ne_of_lt (Heap.lt_size e))
  have I2 : Inv X pins σ H { s with heap := s.heap.push { cls := .type "list_iterator", data := .fields #[.ref a, .int 0 0] } } := I.kept hkp
  have szS : (s.heap.push { cls := .type "list_iterator", data := .fields #[.ref a, .int 0 0] }).objs.size = s.heap.objs.size + 1 := Heap.size_push _ _
  have fI : FpOk X pins H s.heap.objs.size := I.fpOk (Nat.le_refl _) (I.hok.fresh (Nat.le_refl _))
  have fS : FpOk X pins H (s.heap.objs.size + 1) := I.fpOk (Nat.le_succ _) (I.hok.fresh (Nat.le_succ _))
  generalize hit : s.heap.objs.size = it at W0 st0 hfp hw hne szS fI fS ⊢
  have lenI : its0.toArray.size = xs.length := by rw [List.size_toArray, rv0.length]
  have Wi : ∀ its : List Value, WalksS X.prog X.w X.A.in1 it [it, a] [it] (fun a b => b = a) its.toArray.size (fun i v => its.toArray[i]? = some v) (fun i s' => s'.heap.IsListIter it a i ∧ s'.heap.IsList a its.toArray) := fun its => (Walks.list (A := X.A.in1) hh it a hne its.toArray).toS
  have W : WalksS X.prog X.w X.A.in1 it [it, a] [it] (fun a b => b = a) xs.length (fun i v => ∃ x, xs[i]? = some x ∧ RelV x v) (fun i s' => s'.heap.IsListIter it a i ∧ ∃ its, Vals xs its ∧ s'.heap.IsList a its.toArray) := by
    refine ⟨W0.sub, W0.grefl, W0.gtrans, ?_, ?_, ?_, ?_⟩
    · rintro i s1 h' tk ⟨st, its, rv, hl⟩ le keep
      obtain ⟨x1, x2⟩ := (Wi its).frame i s1 h' tk ⟨st, hl⟩ le keep
      exact ⟨x1, its, rv, x2⟩
    · rintro i s1 Q1 E1 hi ⟨st, its, rv, hl⟩ hQ
      refine (Wi its).item i s1 Q1 E1 (by rw [List.size_toArray, ← rv.length]; exact hi) ⟨st, hl⟩ fun v s' hv hst hm => ?_
      obtain ⟨u, hu, ru⟩ := rv.get (List.getElem?_eq_getElem hi)
      have hv' : its[i]? = some
            v := by simpa using hv
      rw [hv'] at hu
      cases hu
      exact hQ v s' ⟨_, List.getElem?_eq_getElem hi, ru⟩ ⟨hst.1, its, rv, hst.2⟩ hm
    · rintro s1 Q1 E1 ⟨st, its, rv, hl⟩ hQ
      exact (Wi its).done s1 Q1 E1 (by rw [List.size_toArray, ← rv.length]; exact ⟨st, hl⟩) hQ
    · rintro i s1 Q1 E1 ⟨st, its, rv, hl⟩ hQ
      exact (Wi its).self i s1 Q1 E1 ⟨st, hl⟩ hQ
  have KR : KeyRun X.prog X.w X.A.in1 (.ref f) .Lt (it + 1) [it] (fun a b => b = a) xs.length (fun i v => ∃ x, xs[i]? = some x ∧ RelV x v) (fun i s' => s'.heap.IsListIter it a i ∧ ∃ its, Vals xs its ∧ s'.heap.IsList a its.toArray) (fun s' => Inv X pins σ H s') (fun i v _ => ∃ t, v = .int (kf i) t) (fun i j => decide (kf i < kf j)) := by
    refine ⟨fun s1 s2 J m => ?_, fun i k s1 s2 v m => v, ?_, ?_⟩
    · obtain ⟨h2, g2, d2, t2, o2⟩ := s2
      obtain ⟨m1, m2, m3, m4, _⟩ := m
      simp only at m1 m2 m3 m4
      subst m2 m3 m4
      exact J.turned2 (fun b o n1 n2 e => m1 b o (by simp only [List.mem_cons, List.not_mem_nil, or_false]; rintro (z | z); exact n2 z; exact n1 z) e) fI fS
    · rintro i v s1 o Q1 E1 hi ⟨x, hx, rx⟩ J ⟨st, its, rv, hl⟩ hS cont
      have e0 := J.env0
      have env : Env0 X.prog X.w X.K X.mg X.base X.A.in1 X.stack s1 H := ⟨e0.frames, e0.mod, e0.bs, e0.bsz, e0.funs, e0.frf, e0.hok, e0.bare⟩
      have rm : Room k X.A.in1 := ⟨hr.hd, by have := hr.dp; show X.A.depth + 3 * k + 5 < _; omega, by have := hr.un; show X.A.units + 1 + 16 * k + 200 < _; omega⟩
      refine wpAny_call (codeAny_mono (F.run X.A.in1 X.stack s1 H ⟨[v], []⟩ [v] [x] _ _ rm env (hb s1 [v] J.kIn rfl) (.cons rx .nil) (hk i x hx)) fun r s' hq => ?_)
      cases r with
      | error e => exact False.elim hq
      | ok fl =>
        cases fl with
        | next => exact False.elim hq
        | brk => exact False.elim hq
        | cont => exact False.elim hq
        | ret u =>
          obtain ⟨v', H', os, bare, un, hok, ru, ev, eH⟩ := id hq
          have aft := J.after hq
          obtain ⟨v2, H2, J2, ru2, ev2, eH2⟩ := aft
          subst ev2 eH2
          subst ev eH
          obtain ⟨t, rfl⟩ := ru2
          obtain ⟨its', rv', hl', _⟩ := J2.list hs
          refine cont _ s' J2 ⟨?_, its', rv', hl'.isList⟩ (un.keep _ _ hS fS.1 (fun hb => (List.mem_cons.mp (J2.stkSub _ hb)).elim fS.2.1 fS.2.2.1) (by simp)) ⟨t, rfl⟩ fun j k' z => z
          obtain ⟨oi, ei, ec, ed⟩ := id st
          exact ⟨oi, un.keep _ _ ei fI.1 (fun hb => (List.mem_cons.mp (J2.stkSub _ hb)).elim fI.2.1 fI.2.2.1) (by simp), ec, ed⟩
    · rintro i j ki kj s1 Q1 E1 J ⟨t1, rfl⟩ ⟨t2, rfl⟩ hQ
      exact CmpOf.ints_lt (prog := X.prog) (w := X.w) (A := X.A.in1) (P := fun i v => ∃ t, v = .int (kf i) t) kf (fun i v h => h) i j _ _ _ _ _ ⟨t1, rfl⟩ ⟨t2, rfl⟩ hQ
  refine ⟨it, [it, a], [it], _, xs.length, _, _, _, _, _, rfl, W, ⟨st0.1, its0, rv0, st0.2⟩, hfp, hpos, by rw [szS]; exact KR, I2, fun v s' hP J => ?_⟩
  obtain ⟨x, hx, rx⟩ := hP
  obtain ⟨bf, bl⟩ := argBest_fst18 kf (xs.length - 1)
  exact ⟨x, H, J, rx, q _ x hx fun j hj => bf j (by omega)⟩
end L2

namespace K5
open PySem PySem.Spec PyProof.Rows L2
theorem Trl.unique {n : Nat} {ds : List (Nat × Nat)} (T : Tree n ds) : ∀ {r r' : List Mv} {a b b' : Nat}, Trl ds a r b → Trl ds a r' b' → r.map Prod.fst = r'.map Prod.fst → r = r'
  | [], [], _, _, _, _, _, _ => rfl
  | [], _ :: _, _, _, _, _, _, e => by simp at e
  | _ :: _, [], _, _, _, _, _, e => by simp at e
  | (d, x, y) :: r, (d', x', y') :: r', a, b, b', h, h', e => by
    obtain ⟨h1, h2, h3⟩ := h
    obtain ⟨g1, g2, g3⟩ := h'
    simp only [List.map_cons, List.cons.injEq] at e h1 h2 h3 g1 g2 g3
    obtain ⟨e1, e2⟩ := e
    subst h1 g1 e1
    have ey : y = y' := (far_is h2).symm.trans (far_is g2)
    subst ey
    rw [Trl.unique T h3 g3 e2]
/-- the steps on the way between two rooms: the door, from, to -/
def spStepsBT (K : PySem.W.Frag) : Sp := fun vs H Q _ => ∃ (a : Addr) (ds : List (Nat × Nat)) (n x y : Nat), vs = [.ref a, .int (x : Int), .int (y : Int)] ∧ HouseAt K H a ds ∧ Tree n ds ∧ n ≤ 1000 ∧ x < n ∧ y < n ∧
  ∀ (H' : Hp) (q : Addr) (tr : List Mv), Same H H' → H q = none → TrisAt H' q tr → Trl ds x tr y → (tr.map Prod.fst).Nodup → tr.length ≤ 1000 → Q (.ref q) H'
section
variable {P : Program} {w : World} {K : PySem.W.Frag}
      {mg : Str → Option Value} {base : Heap}
theorem ok_steps_along__t (T : Bl mg) (D : Def K mg "steps_along" s_steps_along) : Cal P w K mg base "steps_along" ["ways", "room"] 1 (spStepsT K) := by
  refine D.ok sc_steps_along (fun _ _ _ _ _ _ us hl => match us, hl with | [_, _], _ => rfl) (fun vs H Q E h => ?_) (fun f cdv A outer s H vs Q E hr h => ?_)
  · obtain ⟨p, a, n, room, ds, shut, kvs, ks, rfl, _⟩ := h
    rfl
  obtain ⟨p, a, n, room, ds, shut, kvs, ks, rfl, hp, r, pt, tree, hks, ha, q⟩ := h
  refine ⟨_, (pss_cons (ps_set (i := 2) sc_steps_along.nd rfl (.inl rfl) (pe_lst pa_nil))
    (pss_cons (ps_set (i := 3) sc_steps_along.nd rfl (.inl rfl) (pv 1))
    (pss_cons (ps_while PassesOwn.never (pt_cmpR op_notN (pe_dget (hu_of hr) (pv 0) (pv 3) (fun _ _ => rfl)) pe_non (nomark _)) (pss_cons (ps_asg (pe_dget (hu_of hr) (pv 0) (pv 3) (fun _ _ => rfl)) (pg_tup (n := 2) rfl (pgs_cons (pg_name (i := 4) sc_steps_along.nd rfl (.inl rfl)) (pgs_cons (pg_name (i := 5) sc_steps_along.nd rfl (.inl rfl)) pgs_nil))))
    (pss_cons (ps_expr (pe_bm PySem.F.plainAttrs_list PySem.F.slot_list_append PySem.F.type_list_append mt_append (pv 2) (pa_cons (pe_tup (pa_cons (pv 4) (pa_cons (pv 3) (pa_cons (pv 5) pa_nil)))) pa_nil)))
    (pss_one (ps_set (i := 3) sc_steps_along.nd rfl (.inl rfl) (pv 5))))))
    (pss_one (ps_ret (pv 2)))))), ?_⟩
  refine ⟨Nat.zero_le _, fun q0 nq => ?_⟩
  refine ⟨_, rfl, ?_⟩
  refine ⟨fun m σ H1 => ∃ here tr y4 y5, m = (ks.map Prod.fst).idxOf here ∧ σ = [some (.ref p), some (.int (a : Int)), some (.ref q0), some (.int (here : Nat)), y4, y5] ∧ Same H H1 ∧ TrisAt H1 q0 tr ∧ Trl ds a tr here ∧ (∀ m ∈ tr, m.1 ∉ shut) ∧
      Made ds (ks.map Prod.fst) a (tr.map Prod.fst) here ∧ here ∈ ks.map Prod.fst ∧ tr.length + (ks.map Prod.fst).idxOf here ≤ ks.length,
    ⟨_, a, [], _, _, rfl, rfl, Same.upd nq, ⟨[], upd_same, TL.nil⟩, rfl, fun m hm => (List.not_mem_nil hm).elim, Made.start, ha, ?_⟩, fun m σ H1 hW => ?_⟩
  · have := List.idxOf_lt_length_iff.mpr ha
    rw [List.length_map] at this
    simp
    omega
  obtain ⟨here, tr, y4, y5, rfl, rfl, sm, ⟨ts, hq, tl⟩, trl, nsh, md, hh, hle⟩ := hW
  obtain ⟨v, o, hv, hko, hw⟩ := r.val hh
  have hk1 := sm _ _ hp
  have hg : DGet H1 p (.int (here : Int)) (some v) := by
    rw [← hv]
    exact DGet.k (k := Sum.inl (here : Int)) hk1
  refine ⟨_, rfl, _, rfl, p, v, rfl, hg, rfl, _, rfl, ?_⟩
  cases o with
  | none =>
    have hw : v = .non := hw
    subst hw
    refine iteF ⟨_, rfl, q H1 q0 tr sm nq ⟨ts, hq, tl⟩ ?_ md.nd nsh (by omega)⟩
    rw [← pt.fin _ hko]
    exact trl
  | some e =>
    obtain ⟨t, rfl, ht⟩ := hw
    obtain ⟨j, ns, hy, lt⟩ := pt.st here e.1 e.2 hko
    have ht1 := sm _ _ ht
    refine iteT ⟨fun σ' H' => ∃ here' tr y4 y5, (ks.map Prod.fst).idxOf here' < (ks.map Prod.fst).idxOf here ∧ σ' = [some (.ref p), some (.int (a : Int)), some (.ref q0), some (.int (here' : Nat)), y4, y5] ∧ Same H H' ∧ TrisAt H' q0 tr ∧ Trl ds a tr here' ∧ (∀ m ∈ tr, m.1 ∉ shut) ∧
      Made ds (ks.map Prod.fst) a (tr.map Prod.fst) here' ∧ here' ∈ ks.map Prod.fst ∧ tr.length + (ks.map Prod.fst).idxOf here' ≤ ks.length, fun σ' H' ⟨h', p', z4, z5, g1, g2⟩ => ⟨_, g1, h', p', z4, z5, rfl, g2⟩, ?_⟩
    refine ⟨_, rfl, _, rfl, p, V.ref t, rfl, hg, t, _, rfl, SqT.of ht1, rfl, _, _, rfl, _, _, rfl, rfl, ?_⟩
    refine ⟨_, rfl, .inl ⟨rfl, _, SqL.of hq⟩, _, rfl, _, rfl, _, rfl, by show 3 ≤ sizeLine; decide, fun t2 nt2 => ⟨q0, _, _, rfl, rfl, by rw [upd_ne (ne_of_none hq nt2)]; exact hq, by rw [List.length_map, tl.1]; exact small1000 (by omega), ?_⟩⟩
    refine ⟨_, rfl, ?_⟩
    have n2q : t2 ≠ q0 := (ne_of_none hq nt2).symm
    refine ⟨e.2, tr ++ [(e.1, here, e.2)], _, _, lt, rfl, (sm.trans (Same.upd nt2)).at nq, ⟨ts ++ [t2], by rw [upd_same, List.map_append]; rfl, TL.append ⟨tl.1, fun i t' m' g1 g2 => ?_⟩ (TL.one (by rw [upd_ne n2q, upd_same]; rfl))⟩, trl.snoc j, fun m hm => ?_, by rw [List.map_append]; exact md.step ⟨n, tree⟩ pt hko, hy, ?_⟩
    · have z := tl.2 i t' m' g1 g2
      rw [upd_ne (ne_lt hq z), upd_ne (ne_of_none z nt2)]
      exact z
    · rcases List.mem_append.mp hm with hm | hm
      · exact nsh m hm
      · rw [List.mem_singleton] at hm
        rw [hm]
        exact ns
    · rw [List.length_append, List.length_singleton]
      omega
theorem ok_steps_between__t (T : Bl mg) (D : Def K mg "steps_between" s_steps_between) (C_steps_along : Cal P w K mg base "steps_along" ["ways", "room"] 1 (spStepsT K))
    (C_ways_from : Cal P w K mg base "ways_from" ["house", "room", "shut"] 2 (spWays K)) : Cal P w K mg base "steps_between" ["house", "a", "b"] 3 (spStepsBT K) := by
  refine D.ok sc_steps_between (fun _ _ _ _ _ _ us hl => match us, hl with | [_, _, _], _ => rfl) (fun vs H Q E h => ?_) (fun f cdv A outer s H vs Q E hr h => ?_)
  · obtain ⟨a, ds, n, x, y, rfl, _⟩ := h
    rfl
  obtain ⟨a, ds, n, x, y, rfl, hH, tree, hn, hx, hy, q⟩ := h
  have hdn := tree.len
  obtain ⟨f_steps_along, fd_steps_along, g_steps_along, k_steps_along, b_steps_along, G_steps_along⟩ := C_steps_along
  obtain ⟨f_ways_from, fd_ways_from, g_ways_from, k_ways_from, b_ways_from, G_ways_from⟩ := C_ways_from
  refine ⟨_, (pss_one (ps_ret (pe_call G_steps_along (hr.mono (by decide)) (by rfl) g_steps_along k_steps_along b_steps_along .nil pass0 (pa_cons (pe_call G_ways_from (hr.mono (by decide)) (by rfl) g_ways_from k_ways_from b_ways_from .nil pass0 (pa_cons (pv 0) (pa_cons (pv 2) (pa_cons (pe_lst pa_nil) pa_nil)))) (pa_cons (pv 1) pa_nil))))), ?_⟩
  refine ⟨_, rfl, _, rfl, Nat.zero_le _, fun sh nsh => ?_⟩
  have sm2 := Same.upd (o := .lst []) nsh
  have hsh : (upd H sh (.lst [])) sh = some (.lst []) := upd_same
  generalize upd H sh (.lst []) = H2 at sm2 hsh
  refine ⟨a, sh, ds, n, y, [], rfl, hH.same sm2, tree, hn, hy, SqL.of hsh, Nat.zero_le _, fun H3 pw kvs ks sm3 npw hpw r df pt hrm => ?_⟩
  have hle := df.le
  rw [List.length_map] at hle
  refine ⟨_, rfl, pw, x, n, y, ds, [], kvs, ks, rfl, hpw, r, pt, tree, by omega, df.all tree hrm x hx, fun H4 ps tr sm4 nps hps st nd _ hpl => ?_⟩
  have sm5 := (sm2.trans sm3).trans sm4
  exact q H4 ps tr sm5 ((sm2.trans sm3).free nps) hps st nd hpl
end
end K5

namespace K5
open PySem PySem.Spec PyProof.Rows L2 PySem.W
theorem take_succ_get {α : Type} {L : List α} {i : Nat} {x : α} (h : L[i]? = some x) : L.take (i + 1) = L.take i ++ [x] := by
  rw [List.take_add_one, h]
  rfl
theorem TrisAt.butg {g q : Addr} {H H' : Hp} {l : List Mv} {xs : List V} (h : TrisAt H q l) (hg : H g = some (.lst xs)) (ne : q ≠ g) (s : But g H H') : TrisAt H' q l := by
  obtain ⟨ts, h1, h2⟩ := h
  exact ⟨ts, s _ _ ne h1, h2.1, fun i t m a b => s _ _ (ne_lt hg (h2.2 i t m a b)) (h2.2 i t m a b)⟩
theorem TrisAt.away {H : Hp} {q p : Addr} {l : List Mv} {xs : List V} {o : HO} (h : TrisAt H q l) (hp : H p = some (.lst xs)) (ne : q ≠ p) : TrisAt (upd H p o) q l := by
  obtain ⟨ts, h1, h2, h3⟩ := h
  exact ⟨ts, by rw [upd_ne ne]; exact h1, h2, fun i t m a b => by
    have z := h3 i t m a b
    rw [upd_ne (ne_lt hp z)]
    exact z⟩
/-- a list of pairs at its place -/
def PL2 (H : Hp) (ts : List Addr) (l : List (Nat × Nat)) : Prop := ts.length = l.length ∧ ∀ (i : Nat) (t : Addr) (e : Nat × Nat), ts[i]? = some t → l[i]? = some e → H t = some (.tup [.int (e.1 : Int), .int (e.2 : Int)])
theorem PL2.same {H H' : Hp} {ts : List Addr} {l : List (Nat × Nat)} (h : PL2 H ts l) (s : Same H H') : PL2 H' ts l := ⟨h.1, fun i t e a b => s _ _ (h.2 i t e a b)⟩
theorem PL2.snoc {H : Hp} {ts : List Addr} {l : List (Nat × Nat)} {t : Addr} {e : Nat × Nat} (h : PL2 H ts l) (he : H t = some (.tup [.int (e.1 : Int), .int (e.2 : Int)])) : PL2 H (ts ++ [t]) (l ++ [e]) := by
  refine ⟨by rw [List.length_append, List.length_append, h.1]; rfl, fun i a b e1 e2 => ?_⟩
  by_cases hi : i < ts.length
  · rw [List.getElem?_append_left hi] at e1
    rw [List.getElem?_append_left (by rw [← h.1]; exact hi)] at e2
    exact h.2 i a b e1 e2
  · rw [List.getElem?_append_right (by omega)] at e1
    rw [List.getElem?_append_right (by rw [← h.1]; omega), ← h.1] at e2
    generalize i - ts.length = j at e1 e2
    match j with
    | 0 => cases e1; cases e2; exact he
    | j + 1 => simp at e1
theorem PL2.app {H : Hp} {ts ts' : List Addr} {l l' : List (Nat × Nat)} (h : PL2 H ts l) (h' : PL2 H ts' l') : PL2 H (ts ++ ts') (l ++ l') := by
  refine ⟨by rw [List.length_append, List.length_append, h.1, h'.1], fun i a b e1 e2 => ?_⟩
  by_cases hi : i < ts.length
  · rw [List.getElem?_append_left hi] at e1
    rw [List.getElem?_append_left (by rw [← h.1]; exact hi)] at e2
    exact h.2 i a b e1 e2
  · rw [List.getElem?_append_right (by omega)] at e1
    rw [List.getElem?_append_right (by rw [← h.1]; omega), ← h.1] at e2
    exact h'.2 _ _ _ e1 e2
theorem PL2.nil {H : Hp} : PL2 H [] [] := ⟨rfl, fun i t e x => by simp at x⟩
theorem PL2.away {H : Hp} {p : Addr} {ts : List Addr} {l : List (Nat × Nat)} {xs : List V} {o : HO} (h : PL2 H ts l) (hp : H p = some (.lst xs)) : PL2 (upd H p o) ts l := ⟨h.1, fun i t e a b => by
  have z := h.2 i t e a b
  rw [upd_ne (ne_lt hp z)]
  exact z⟩
def dP2 (e : Nat × Nat) : PyData := .tuple [.int (e.1 : Int), .int (e.2 : Int)]
theorem dp_PL2 {K : PySem.W.Frag} {H : Hp} : ∀ {ts : List Addr} {l : List (Nat × Nat)}, PL2 H ts l → DpAll K H (ts.map V.ref) (l.map dP2)
  | [], [], _ => .nil
  | [], _ :: _, h => by have := h.1; simp at this
  | _ :: _, [], h => by have := h.1; simp at this
  | t :: ts, e :: l, h => .cons (.tup (SqT.of (h.2 0 t e rfl rfl)) (.cons (.int _) (.cons (.int _) .nil))) (dp_PL2 ⟨by have := h.1; simpa using this, fun i t' e' x y => h.2 (i + 1) t' e' x y⟩)
theorem alike_p2 (x y : Nat × Nat) : PySem.W.alike (dP2 x) (dP2 y) = true := by simp only [dP2, PySem.W.alike, PySem.W.alikeAll, Bool.and_self]
theorem dP2_depth60 (e : Nat × Nat) : (dP2 e).depth ≤ 60 := by
  simp only [dP2, PyData.depth, PyData.depthAll]
  omega
/-- one order only, of alike data whose signs tell them apart -/
theorem sorted_unique {β : Type} (k : β → PyData) (inj : ∀ x y, keyToks (k x) = keyToks (k y) → x = y) : ∀ {l m : List β}, l.Perm m → (l.Pairwise fun x y => dataLe false k x y = true) → (m.Pairwise fun x y => dataLe false k x y = true) → l = m
  | [], m, p, _, _ => p.symm.eq_nil.symm
  | a :: r, [], p, _, _ => by have := p.eq_nil; cases this
  | a :: r, b :: s, p, h1, h2 => by
    obtain ⟨h1a, h1b⟩ := List.pairwise_cons.mp h1
    obtain ⟨h2a, h2b⟩ := List.pairwise_cons.mp h2
    have anti : ∀ {x y : β}, dataLe false k x y = true → dataLe false k y x = true → x = y := fun {x y} h1 h2 => by
      refine inj _ _ ((listOrd itemOrd).total _ _ ?_ ?_)
      · have h2 : (!(listOrd itemOrd).blt (keyToks (k x)) (keyToks (k y))) = true := h2
        simpa using h2
      · have h1 : (!(listOrd itemOrd).blt (keyToks (k y)) (keyToks (k x))) = true := h1
        simpa using h1
    have e : a = b := by
      rcases List.mem_cons.mp (p.mem_iff.mp List.mem_cons_self) with e | q
      · exact e
      · rcases List.mem_cons.mp (p.symm.mem_iff.mp List.mem_cons_self) with e | q2
        · exact e.symm
        · exact anti (h1a b q2) (h2a a q)
    subst e
    rw [sorted_unique k inj ((List.perm_cons a).mp p) h1b h2b]
theorem toks_P2 {a b : Nat × Nat} (h : keyToks (dP2 a) = keyToks (dP2 b)) : a = b := by
  obtain ⟨x, y⟩ := a
  obtain ⟨x', y'⟩ := b
  simp only [dP2, keyToks, keyToksAll, List.cons_append, List.nil_append, List.cons.injEq, Sum.inl.injEq, true_and, and_true] at h
  obtain ⟨h1, h2⟩ := h
  rw [show x = x' by omega, show y = y' by omega]
noncomputable def srtP (l : List (Nat × Nat)) : List (Nat × Nat) := l.mergeSort (dataLe false dP2)
theorem srtP_sorted (l : List (Nat × Nat)) : (srtP l).Pairwise fun a b => dataLe false dP2 a b = true := sort_pairwise (sortLe_total (listOrd itemOrd) false fun m : Nat × Nat => keyToks (dP2 m)) l
theorem srtP_perm (l : List (Nat × Nat)) : (srtP l).Perm l := List.mergeSort_perm _ _
/-- the sorted list of the pairs at their places -/
theorem sorted_pl2 {H : Hp} {ts : List Addr} {l : List (Nat × Nat)} (h : PL2 H ts l) : ∃ ts', (((ts.map V.ref).zip (l.map dP2)).mergeSort (dataLe false Prod.snd)).map Prod.fst = ts'.map V.ref ∧ PL2 H ts' (srtP l) := by
  rw [List.zip_map]
  obtain ⟨zl, ez, pz⟩ := perm_of_map _ _ _ (List.mergeSort_perm (List.map (Prod.map V.ref dP2) (ts.zip l)) (dataLe false Prod.snd))
  have pw := sort_pairwise (sortLe_total (listOrd itemOrd) false fun b : V × PyData => keyToks b.2) (List.map (Prod.map V.ref dP2) (ts.zip l))
  have pw2 : ((List.map (Prod.map V.ref dP2) (ts.zip l)).mergeSort (dataLe false Prod.snd)).Pairwise fun a b => dataLe false Prod.snd a b = true := pw
  rw [ez] at pw2 ⊢
  rw [List.pairwise_map] at pw2
  have lz := h.1
  have el : zl.map Prod.snd = srtP l := by
    refine sorted_unique dP2 (fun _ _ h => toks_P2 h) ?_ ?_ (srtP_sorted l)
    · have := pz.map Prod.snd
      rw [List.map_snd_zip (by rw [lz]; exact Nat.le_refl _)] at this
      exact this.trans (srtP_perm l).symm
    · rw [List.pairwise_map]
      exact pw2
  refine ⟨zl.map Prod.fst, by rw [List.map_map, List.map_map]; rfl, ?_⟩
  rw [← el]
  refine ⟨by rw [List.length_map, List.length_map], fun i t x e1 e2 => ?_⟩
  rw [List.getElem?_map] at e1 e2
  cases ei : zl[i]? with
  | none => rw [ei] at e1; cases e1
  | some z =>
    rw [ei] at e1 e2
    cases e1
    cases e2
    obtain ⟨j, hj⟩ := List.mem_iff_getElem?.mp (pz.mem_iff.mp (List.mem_of_getElem? ei))
    obtain ⟨j1, j2⟩ := List.getElem?_zip_eq_some.mp hj
    exact h.2 j z.1 z.2 j1 j2
/-- the doors that bar on the way of i to j and on j's way to i; each with whom it is to bar instead -/
def clsF (S : S2) (i j : Nat) (A B : List Mv) : List (Nat × Nat) := ((A.filter fun m => decide (S.2[m.1]? = some i)).map fun m => (m.1, j)) ++ (B.filter fun m => decide (S.2[m.1]? = some j)).map fun m => (m.1, i)
/-- an encounter's object -/
def EnAt (C : Addr) (B0 H : Hp) (e : Addr) (S : S2) (i j : Nat) (A B : List Mv) : Prop := ∃ (dx p s c a b : Addr) (cts : List Addr) (l : List (Nat × Nat)), H e = some (.ins C dx [("people", .ref p), ("steps", .ref s), ("changes", .ref c)]) ∧ H p = some (.tup [.int (i : Int), .int (j : Int)]) ∧ H s = some (.tup [.ref a, .ref b]) ∧
  TrisAt H a A ∧ TrisAt H b B ∧ H c = some (.lst (cts.map V.ref)) ∧ PL2 H cts l ∧ l = srtP (clsF S i j A B) ∧ B0 a = none ∧ B0 b = none ∧ B0 c = none
theorem EnAt.same {C e : Addr} {B0 H H' : Hp} {S : S2} {i j : Nat} {A B : List Mv} (h : EnAt C B0 H e S i j A B) (s : Same H H') : EnAt C B0 H' e S i j A B := by
  obtain ⟨dx, p, st, c, a, b, cts, l, h1, h2, h3, h4, h5, h6, h7, h8⟩ := h
  exact ⟨dx, p, st, c, a, b, cts, l, s _ _ h1, s _ _ h2, s _ _ h3, h4.same s, h5.same s, s _ _ h6, h7.same s, h8⟩
theorem EnAt.base {C e : Addr} {B1 B0 H : Hp} {S : S2} {i j : Nat} {A B : List Mv} (h : EnAt C B0 H e S i j A B) (s : Same B1 B0) : EnAt C B1 H e S i j A B := by
  obtain ⟨dx, p, st, c, a, b, cts, l, h1, h2, h3, h4, h5, h6, h7, h8, n1, n2, n3⟩ := h
  exact ⟨dx, p, st, c, a, b, cts, l, h1, h2, h3, h4, h5, h6, h7, h8, s.free n1, s.free n2, s.free n3⟩
theorem EnAt.away {C e pd : Addr} {B0 H : Hp} {S : S2} {i j : Nat} {A B : List Mv} {xs : List V} {o u : HO} (h : EnAt C B0 H e S i j A B) (hp : H pd = some (.lst xs)) (hb : B0 pd = some u) : EnAt C B0 (upd H pd o) e S i j A B := by
  obtain ⟨dx, p, st, c, a, b, cts, l, h1, h2, h3, h4, h5, h6, h7, h8, n1, n2, n3⟩ := h
  have na : a ≠ pd := (ne_of_none hb n1).symm
  have nb : b ≠ pd := (ne_of_none hb n2).symm
  have nc : c ≠ pd := (ne_of_none hb n3).symm
  exact ⟨dx, p, st, c, a, b, cts, l, by rw [upd_ne (fun z => by rw [z, hp] at h1; cases h1)]; exact h1, by rw [upd_ne (ne_lt hp h2)]; exact h2, by rw [upd_ne (ne_lt hp h3)]; exact h3, h4.away hp na, h5.away hp nb, by rw [upd_ne nc]; exact h6, h7.away hp, h8, n1, n2, n3⟩
theorem EnAt.but {C e pd : Addr} {B0 H H' : Hp} {S : S2} {i j : Nat} {A B : List Mv} {xs : List V} {u : HO} (h : EnAt C B0 H e S i j A B) (hp : H pd = some (.lst xs)) (hb : B0 pd = some u) (s : But pd H H') : EnAt C B0 H' e S i j A B := by
  obtain ⟨dx, p, st, c, a, b, cts, l, h1, h2, h3, h4, h5, h6, h7, h8, n1, n2, n3⟩ := h
  have na : a ≠ pd := (ne_of_none hb n1).symm
  have nb : b ≠ pd := (ne_of_none hb n2).symm
  have nc : c ≠ pd := (ne_of_none hb n3).symm
  exact ⟨dx, p, st, c, a, b, cts, l, s _ _ (fun z => by rw [z, hp] at h1; cases h1) h1, s _ _ (ne_lt hp h2) h2, s _ _ (ne_lt hp h3) h3, h4.butg hp na s, h5.butg hp nb s, s _ _ nc h6, ⟨h7.1, fun i t e x y => s _ _ (ne_lt hp (h7.2 i t e x y)) (h7.2 i t e x y)⟩, h8, n1, n2, n3⟩
def spEnI (K : PySem.W.Frag) (C : Addr) : Sp := fun vs H Q _ => ∃ (x b p s dx a b' : Addr) (i j : Nat) (S : S2) (A D : List Mv) (B0 B : Hp), vs = [.ref x, .ref b, .ref p, .ref s] ∧ (∀ z, B z = none → B0 z = none) ∧ B0 a = none ∧ B0 b' = none ∧ H x = some (.ins C dx []) ∧ Same B H ∧ B x = none ∧ SqT K B b (nv S.2) ∧ B p = some (.tup [.int (i : Int), .int (j : Int)]) ∧ B s = some (.tup [.ref a, .ref b']) ∧
  TrisAt B a A ∧ TrisAt B b' D ∧ (∀ m ∈ A, m.1 < S.2.length) ∧ (∀ m ∈ D, m.1 < S.2.length) ∧ A.length ≤ 400 ∧ D.length ≤ 400 ∧ ∀ H', Same B H' → EnAt C B0 H' x S i j A D → Q .non H'
section
variable {P : Program} {w : World} {K : PySem.W.Frag} {mg : Str → Option Value} {base : Heap} {C_Encounter : Addr}
theorem ok_Encounter_init (T : Bl mg) (cl_Encounter : ClsD K mg "Encounter" C_Encounter ["people", "steps", "changes"]) (D : IniD K C_Encounter "Encounter.__init__" s_Encounter_init) :
    CalI P w K mg base C_Encounter ["self", "barred", "people", "steps"] 1 (spEnI K C_Encounter) := by
  refine D.ok sc_Encounter_init (fun _ _ _ _ _ _ us hl => match us, hl with | [_, _, _, _], _ => rfl) (fun vs H Q E h => ?_) (fun f cdv A0 outer s0 H vs Q E hr h => ?_)
  · obtain ⟨x, b, p, s, dx, a, b', i, j, S, A, D, B0, B, rfl, _⟩ := h
    rfl
  obtain ⟨x, b, p, s, dx, a, b', i, j, S, A, D, B0, B, rfl, s00, na0, nb0, hx, sB, nx, hb, hp, hs, hA, hD, lA, lD, fA, fD, q⟩ := h
  have cls := cl_Encounter.cl
  have no := cl_Encounter.no
  skip
  refine ⟨_, (pss_cons (ps_asg (pv 2) (pg_tup (n := 2) rfl (pgs_cons (pg_name (i := 4) sc_Encounter_init.nd rfl (.inr rfl)) (pgs_cons (pg_name (i := 5) sc_Encounter_init.nd rfl (.inr rfl)) pgs_nil))))
    (pss_cons (ps_fld (pv 0) (pv 2) (by rfl))
    (pss_cons (ps_fld (pv 0) (pv 3) (by rfl))
    (pss_cons (ps_setLc (i := 6) (own := [("door", 7), ("start", 8), ("end", 9)]) (g := gTup K 3 (gCons (gName 7) (gCons (gName 8) (gCons (gName 9) gNil))))  (tt := (tTest (tOp rEq (tOp (rIxT K) (tVar 1) (tVar 7)) (tVar 4)))) rfl sc_Encounter_init.nd rfl rfl (sw_true rfl rfl rfl (by decide +kernel)) (pi_list (pe_ix ix_tup (pv 3) pe_int (fun _ _ => rfl))) (blkOk_by (N := N_Encounter_init) (sc := defScope s_Encounter_init) (own := [("door", 7), ("start", 8), ("end", 9)]) (by decide +kernel)) (fun _ _ _ _ _ => (pg_tup (n := 3) rfl (pgs_cons (pg_name (i := 7) sc_Encounter_init.nd rfl (.inl rfl) (.inr rfl)) (pgs_cons (pg_name (i := 8) sc_Encounter_init.nd rfl (.inl rfl) (.inr rfl)) (pgs_cons (pg_name (i := 9) sc_Encounter_init.nd rfl (.inl rfl) (.inr rfl)) pgs_nil))))) (fun _ _ _ _ _ => (pts_one (pt_cmpR op_eq (pe_ix ix_tup (pv 1) (pv 7) (fun _ _ => rfl)) (pv 4) (nomark _)))) (fun _ _ _ _ _ => (pe_tup (pa_cons (pv 7) (pa_cons (pv 5) pa_nil)))))
    (pss_cons (ps_expr (pe_bm PySem.F.plainAttrs_list PySem.F.slot_list_extend PySem.F.type_list_extend mt_extend (pv 6) (pa_cons (pe_lc (own := [("door", 7), ("start", 8), ("end", 9)]) (g := gTup K 3 (gCons (gName 7) (gCons (gName 8) (gCons (gName 9) gNil))))  (tt := (tTest (tOp rEq (tOp (rIxT K) (tVar 1) (tVar 7)) (tVar 5)))) rfl sc_Encounter_init.nd (pi_list (pe_ix ix_tup (pv 3) pe_int (fun _ _ => rfl))) (blkOk_by (N := N_Encounter_init) (sc := defScope s_Encounter_init) (own := [("door", 7), ("start", 8), ("end", 9)]) (by decide +kernel)) (fun _ _ _ _ _ => (pg_tup (n := 3) rfl (pgs_cons (pg_name (i := 7) sc_Encounter_init.nd rfl (.inl rfl) (.inr rfl)) (pgs_cons (pg_name (i := 8) sc_Encounter_init.nd rfl (.inl rfl) (.inr rfl)) (pgs_cons (pg_name (i := 9) sc_Encounter_init.nd rfl (.inl rfl) (.inr rfl)) pgs_nil))))) (fun _ _ _ _ _ => (pts_one (pt_cmpR op_eq (pe_ix ix_tup (pv 1) (pv 7) (fun _ _ => rfl)) (pv 5) (nomark _)))) (fun _ _ _ _ _ => (pe_tup (pa_cons (pv 7) (pa_cons (pv 4) pa_nil))))) pa_nil)))
    (pss_one (ps_fld (pv 0) (pe_callB (cr_sortedD hr.units) (by rfl) T.sorted (by decide +kernel) (pa_cons (pv 6) pa_nil)) (by rfl)))))))), ?_⟩
  refine ⟨_, rfl, p, _, rfl, SqT.of (sB _ _ hp), rfl, _, _, rfl, _, _, rfl, rfl, ?_⟩
  refine ⟨_, rfl, _, rfl, x, C_Encounter, dx, [], rfl, hx, cls, no _ (by decide), by decide, ?_⟩
  have s2 : Same B (upd H x (.ins C_Encounter dx [("people", .ref p)])) := sB.at nx
  have hx2 : (upd H x (.ins C_Encounter dx [("people", .ref p)])) x = some (.ins C_Encounter dx [("people", .ref p)]) := upd_same
  rw [show putF "people" (V.ref p) [] = ([("people", V.ref p)] : List (Str × V)) from rfl]
  generalize upd H x (.ins C_Encounter dx [("people", .ref p)]) = H2 at s2 hx2
  refine ⟨_, rfl, _, rfl, x, C_Encounter, dx, _, rfl, hx2, cls, no _ (by decide), by show 1 < 1000; decide, ?_⟩
  rw [show putF "steps" (V.ref s) ([("people", V.ref p)] : List (Str × V)) = ([("people", V.ref p), ("steps", V.ref s)] : List (Str × V)) from rfl]
  have s3 : Same B (upd H2 x (.ins C_Encounter dx [("people", .ref p), ("steps", .ref s)])) := s2.at nx
  have hx3 : (upd H2 x (.ins C_Encounter dx [("people", .ref p), ("steps", .ref s)])) x = some (.ins C_Encounter dx [("people", .ref p), ("steps", .ref s)]) := upd_same
  generalize upd H2 x (.ins C_Encounter dx [("people", .ref p), ("steps", .ref s)]) = H3 at s3 hx3
  obtain ⟨at1, ha1, tlA⟩ := id hA
  obtain ⟨at2, ha2, tlD⟩ := id hD
  refine ⟨_, rfl, s, _, _, V.ref a, rfl, rfl, SqT.of (s3 _ _ hs), atI_nat (j := 0) rfl, a, rfl, ⟨_, SqL.of (s3 _ _ ha1)⟩, fun pd npd => ?_⟩
  have npdx : pd ≠ x := (ne_of_none hx3 npd).symm
  refine lc_list (xs := at1.map V.ref) (fun k H4 => ∃ cts : List Addr, Same H3 H4 ∧ H4 pd = some (.lst (cts.map V.ref)) ∧ PL2 H4 cts (((A.take k).filter fun m => decide (S.2[m.1]? = some i)).map fun m => (m.1, j)))
    ⟨[], Same.upd npd, upd_same, PL2.nil⟩ (fun k H4 _ ⟨_, h, _⟩ => SqL.of (h _ _ (s3 _ _ ha1))) ?_ ?_
  · rintro k v H4 ex ⟨cts, s4, hpd, pl⟩
    obtain ⟨t1, ht1, rfl⟩ : ∃ t, at1[k]? = some t ∧ v = V.ref t := by
      rw [List.getElem?_map] at ex
      cases e : at1[k]? with
      | none => rw [e] at ex; cases ex
      | some t => rw [e] at ex; exact ⟨t, rfl, (Option.some.inj ex).symm⟩
    have hk := get_lt ht1
    obtain ⟨m, hm⟩ : ∃ m, A[k]? = some m := get_of tlA.1.symm hk
    have htm := s4 _ _ (s3 _ _ (tlA.2 k t1 m ht1 hm))
    obtain ⟨y, hy⟩ : ∃ y, S.2[m.1]? = some y := get_of rfl (lA m (List.mem_of_getElem? hm))
    refine ⟨t1, _, rfl, SqT.of htm, rfl, _, _, rfl, _, _, rfl, _, _, rfl, rfl, rfl, ?_⟩
    have hb4 := (s3.trans s4).tup hb
    have efil : ((A.take (k + 1)).filter fun m => decide (S.2[m.1]? = some i)).map (fun m => (m.1, j)) = (((A.take k).filter fun m => decide (S.2[m.1]? = some i)).map fun m => (m.1, j)) ++ if y = i then [(m.1, j)] else [] := by
      rw [take_succ_get hm, List.filter_append, List.map_append]
      congr 1
      by_cases c : y = i
      · rw [if_pos c, List.filter_cons_of_pos (by simp [hy, c])]
        rfl
      · rw [if_neg c, List.filter_cons_of_neg (by simp [hy, c])]
        rfl
    refine ⟨_, rfl, _, rfl, b, _, _, V.int (y : Int), rfl, rfl, hb4, nv_at hy, _, rfl, rfl, _, rfl, ?_⟩
    by_cases c : y = i
    · refine iteT' (decide_eq_true (by rw [c])) ?_
      rw [if_pos c] at efil
      refine ⟨_, rfl, _, rfl, by show 2 ≤ sizeLine; decide, fun t2 nt2 => ?_⟩
      have s5 := Same.upd (o := .tup [V.int (m.1 : Int), V.int (j : Int)]) nt2
      have hpd5 := s5 _ _ hpd
      have lc : cts.length ≤ 400 := by
        have z := pl.1
        rw [List.length_map] at z
        have z2 := List.length_filter_le (fun m : Mv => decide (S.2[m.1]? = some i)) (A.take k)
        rw [List.length_take] at z2
        omega
      refine ⟨_, hpd5, by rw [List.length_map]; exact small1000 (by omega), cts ++ [t2], (s4.trans s5).at npd, by rw [upd_same, List.map_append]; rfl, ?_⟩
      rw [efil]
      exact ((pl.same s5).away hpd5).snoc (by rw [upd_ne (ne_of_none hpd nt2).symm]; exact upd_same)
    · refine iteF' (decide_eq_false fun z => c (by have := V.int.inj z; omega)) ?_
      rw [if_neg c, List.append_nil] at efil
      exact ⟨cts, s4, hpd, by rw [efil]; exact pl⟩
  rintro H4 ⟨cts, s4, hpd, pl⟩
  rw [List.length_map, tlA.1, List.take_length] at pl
  have s04 := s3.trans s4
  have hx4 := s4 _ _ hx3
  refine ⟨_, rfl, .inl ⟨rfl, _, SqL.of hpd⟩, ?_⟩
  refine ⟨_, rfl, s, _, _, V.ref b', rfl, rfl, SqT.of (s04 _ _ hs), atI_nat (j := 1) rfl, b', rfl, ⟨_, SqL.of (s04 _ _ ha2)⟩, fun pe npe => ?_⟩
  have nde : pd ≠ pe := ne_of_none hpd npe
  refine lc_list (xs := at2.map V.ref) (fun k H5 => ∃ cts : List Addr, Same H4 H5 ∧ H5 pe = some (.lst (cts.map V.ref)) ∧ PL2 H5 cts (((D.take k).filter fun m => decide (S.2[m.1]? = some j)).map fun m => (m.1, i)))
    ⟨[], Same.upd npe, upd_same, PL2.nil⟩ (fun k H5 _ ⟨_, h, _⟩ => SqL.of (h _ _ (s04 _ _ ha2))) ?_ ?_
  · rintro k v H5 ex ⟨cts, s4, hpd, pl⟩
    obtain ⟨t1, ht1, rfl⟩ : ∃ t, at2[k]? = some t ∧ v = V.ref t := by
      rw [List.getElem?_map] at ex
      cases e : at2[k]? with
      | none => rw [e] at ex; cases ex
      | some t => rw [e] at ex; exact ⟨t, rfl, (Option.some.inj ex).symm⟩
    have hk := get_lt ht1
    obtain ⟨m, hm⟩ : ∃ m, D[k]? = some m := get_of tlD.1.symm hk
    have htm := s4 _ _ (s04 _ _ (tlD.2 k t1 m ht1 hm))
    obtain ⟨y, hy⟩ : ∃ y, S.2[m.1]? = some y := get_of rfl (lD m (List.mem_of_getElem? hm))
    refine ⟨t1, _, rfl, SqT.of htm, rfl, _, _, rfl, _, _, rfl, _, _, rfl, rfl, rfl, ?_⟩
    have hb4 := (s04.trans s4).tup hb
    have efil : ((D.take (k + 1)).filter fun m => decide (S.2[m.1]? = some j)).map (fun m => (m.1, i)) = (((D.take k).filter fun m => decide (S.2[m.1]? = some j)).map fun m => (m.1, i)) ++ if y = j then [(m.1, i)] else [] := by
      rw [take_succ_get hm, List.filter_append, List.map_append]
      congr 1
      by_cases c : y = j
      · rw [if_pos c, List.filter_cons_of_pos (by simp [hy, c])]
        rfl
      · rw [if_neg c, List.filter_cons_of_neg (by simp [hy, c])]
        rfl
    refine ⟨_, rfl, _, rfl, b, _, _, V.int (y : Int), rfl, rfl, hb4, nv_at hy, _, rfl, rfl, _, rfl, ?_⟩
    by_cases c : y = j
    · refine iteT' (decide_eq_true (by rw [c])) ?_
      rw [if_pos c] at efil
      refine ⟨_, rfl, _, rfl, by show 2 ≤ sizeLine; decide, fun t2 nt2 => ?_⟩
      have s5 := Same.upd (o := .tup [V.int (m.1 : Int), V.int (i : Int)]) nt2
      have hpd5 := s5 _ _ hpd
      have lc : cts.length ≤ 400 := by
        have z := pl.1
        rw [List.length_map] at z
        have z2 := List.length_filter_le (fun m : Mv => decide (S.2[m.1]? = some j)) (D.take k)
        rw [List.length_take] at z2
        omega
      refine ⟨_, hpd5, by rw [List.length_map]; exact small1000 (by omega), cts ++ [t2], (s4.trans s5).at npe, by rw [upd_same, List.map_append]; rfl, ?_⟩
      rw [efil]
      exact ((pl.same s5).away hpd5).snoc (by rw [upd_ne (ne_of_none hpd nt2).symm]; exact upd_same)
    · refine iteF' (decide_eq_false fun z => c (by have := V.int.inj z; omega)) ?_
      rw [if_neg c, List.append_nil] at efil
      exact ⟨cts, s4, hpd, by rw [efil]; exact pl⟩
  rintro H5 ⟨cts2, s5, hpe, pl2⟩
  rw [List.length_map, tlD.1, List.take_length] at pl2
  have s45 := s04.trans s5
  have hpd5 := s5 _ _ hpd
  have lc1 : cts.length ≤ 400 := by
    have z := pl.1
    rw [List.length_map] at z
    have z2 := List.length_filter_le (fun m : Mv => decide (S.2[m.1]? = some i)) A
    omega
  have lc2 : cts2.length ≤ 400 := by
    have z := pl2.1
    rw [List.length_map] at z
    have z2 := List.length_filter_le (fun m : Mv => decide (S.2[m.1]? = some j)) D
    omega
  have big : (1000 : Nat) ≤ sizeLine := by decide
  refine ⟨pd, pe, _, _, rfl, rfl, hpd5, hpe, by rw [List.length_map, List.length_map]; omega, ?_⟩
  have s06 : Same B (upd H5 pd (.lst (cts.map V.ref ++ cts2.map V.ref))) := s45.at (s3.free npd)
  have pl6 : PL2 (upd H5 pd (.lst (cts.map V.ref ++ cts2.map V.ref))) (cts ++ cts2) (clsF S i j A D) := ((pl.same s5).away hpd5).app (pl2.away hpd5)
  have hpd6 : (upd H5 pd (.lst (cts.map V.ref ++ cts2.map V.ref))) pd = some (.lst ((cts ++ cts2).map V.ref)) := by rw [upd_same, List.map_append]
  have hx6 : (upd H5 pd (.lst (cts.map V.ref ++ cts2.map V.ref))) x = some (.ins C_Encounter dx [("people", .ref p), ("steps", .ref s)]) := by rw [upd_ne npdx.symm]; exact s5 _ _ hx4
  generalize upd H5 pd (.lst (cts.map V.ref ++ cts2.map V.ref)) = H6 at s06 pl6 hpd6 hx6
  refine ⟨_, rfl, pd, (cts ++ cts2).map V.ref, (clsF S i j A D).map dP2, rfl, SqL.of hpd6, dp_PL2 pl6, ?_, .inl ?_, ?_, fun c nc => ?_⟩
  · intro d hd d' hd'
    obtain ⟨x, _, rfl⟩ := List.mem_map.mp hd
    obtain ⟨y, _, rfl⟩ := List.mem_map.mp hd'
    exact alike_p2 x y
  · intro d hd
    obtain ⟨x, _, rfl⟩ := List.mem_map.mp hd
    exact ⟨_, _, rfl⟩
  · intro d hd
    obtain ⟨x, _, rfl⟩ := List.mem_map.mp hd
    exact dP2_depth60 x
  obtain ⟨ts', e', pl'⟩ := sorted_pl2 pl6
  rw [e']
  have s7 := Same.upd (o := .lst (ts'.map V.ref)) nc
  have hc : (upd H6 c (.lst (ts'.map V.ref))) c = some (.lst (ts'.map V.ref)) := upd_same
  have ncx : c ≠ x := (ne_of_none hx6 nc).symm
  have hx7 := s7 _ _ hx6
  have s07 := s06.trans s7
  have pl7 := pl'.same s7
  generalize upd H6 c (.lst (ts'.map V.ref)) = H7 at s7 hc hx7 s07 pl7
  refine ⟨_, rfl, x, C_Encounter, dx, _, rfl, hx7, cls, no _ (by decide), by show 2 < 1000; decide, ?_⟩
  rw [show putF "changes" (V.ref c) ([("people", V.ref p), ("steps", V.ref s)] : List (Str × V)) = ([("people", V.ref p), ("steps", V.ref s), ("changes", V.ref c)] : List (Str × V)) from rfl]
  have s08 : Same B (upd H7 x (.ins C_Encounter dx [("people", .ref p), ("steps", .ref s), ("changes", .ref c)])) := s07.at nx
  refine q _ s08 ⟨dx, p, s, c, a, b', ts', _, upd_same, s08 _ _ hp, s08 _ _ hs, hA.same s08, hD.same s08, by rw [upd_ne ncx]; exact hc, ?_, rfl, na0, nb0, s00 _ (s06.free nc)⟩
  refine ⟨pl7.1, fun i t e a b => ?_⟩
  have z := pl7.2 i t e a b
  rw [upd_ne (fun w => by rw [w, hx7] at z; cases z)]
  exact z
end
end K5

namespace K5
open PySem PySem.Spec PyProof.Rows L2
structure Enc where
  i : Nat
  j : Nat
  A : List Mv
  B : List Mv
/-- the steps on the way between two rooms -/
noncomputable def trF (ds : List (Nat × Nat)) (x y : Nat) : List Mv := open Classical in if h : ∃ tr, Trl ds x tr y ∧ (tr.map Prod.fst).Nodup then h.choose else []
theorem trF_is {n : Nat} {ds : List (Nat × Nat)} (T : Tree n ds) {x y : Nat} {tr : List Mv} (t : Trl ds x tr y) (nd : (tr.map Prod.fst).Nodup) : trF ds x y = tr := by
  have h : ∃ tr, Trl ds x tr y ∧ (tr.map Prod.fst).Nodup := ⟨tr, t, nd⟩
  unfold trF
  rw [dif_pos h]
  obtain ⟨t2, nd2⟩ := h.choose_spec
  exact Trl.unique T t2 t (way_unique T t2.walk t.walk nd2 nd)
theorem trl_len {n : Nat} {ds : List (Nat × Nat)} (T : Tree n ds) {x y : Nat} {tr tr' : List Mv} (t : Trl ds x tr y) (nd : (tr.map Prod.fst).Nodup) (t' : Trl ds y tr' x) (nd' : (tr'.map Prod.fst).Nodup) : tr'.length = tr.length := by
  have e := way_unique T t'.walk t.walk.rev nd' (List.pairwise_reverse.mpr (nd.imp Ne.symm))
  have := congrArg List.length e
  rw [List.length_reverse, List.length_map, List.length_map] at this
  exact this
theorem trl_door {ds : List (Nat × Nat)} : ∀ {tr : List Mv} {x y : Nat}, Trl ds x tr y → ∀ m ∈ tr, Joins ds m.1 m.2.1 m.2.2
  | [], _, _, _, m, h => (List.not_mem_nil h).elim
  | a :: r, x, y, t, m, h => by
    obtain ⟨t1, t2, t3⟩ := t
    rcases List.mem_cons.mp h with e | e
    · rw [e]; exact t2
    · exact trl_door t3 m e
noncomputable def encOf (ds : List (Nat × Nat)) (S : S2) (i j k : Nat) : Enc := ⟨i, j, (trF ds (S.1.getD i 0) (S.1.getD j 0)).take k, (trF ds (S.1.getD j 0) (S.1.getD i 0)).take ((trF ds (S.1.getD i 0) (S.1.getD j 0)).length - k)⟩
noncomputable def encPair (ds : List (Nat × Nat)) (S : S2) (i j : Nat) : List Enc := (List.range ((trF ds (S.1.getD i 0) (S.1.getD j 0)).length + 1)).map (encOf ds S i j)
noncomputable def encRow (ds : List (Nat × Nat)) (S : S2) (i : Nat) : List Enc := (List.range' (i + 1) (S.1.length - (i + 1))).flatMap (encPair ds S i)
noncomputable def encs (ds : List (Nat × Nat)) (S : S2) (f : Nat) : List Enc := (List.range f).flatMap (encRow ds S)
/-- a list of encounters' objects -/
def EL (C : Addr) (B0 H : Hp) (S : S2) (es : List Addr) (l : List Enc) : Prop := es.length = l.length ∧ ∀ (k : Nat) (e : Addr) (c : Enc), es[k]? = some e → l[k]? = some c → EnAt C B0 H e S c.i c.j c.A c.B
theorem EL.same {C : Addr} {B0 H H' : Hp} {S : S2} {es : List Addr} {l : List Enc} (h : EL C B0 H S es l) (s : Same H H') : EL C B0 H' S es l := ⟨h.1, fun i e c a b => (h.2 i e c a b).same s⟩
theorem EL.snoc {C : Addr} {B0 H : Hp} {S : S2} {es : List Addr} {l : List Enc} {e : Addr} {c : Enc} (h : EL C B0 H S es l) (he : EnAt C B0 H e S c.i c.j c.A c.B) : EL C B0 H S (es ++ [e]) (l ++ [c]) := by
  refine ⟨by rw [List.length_append, List.length_append, h.1]; rfl, fun i a b e1 e2 => ?_⟩
  by_cases hi : i < es.length
  · rw [List.getElem?_append_left hi] at e1
    rw [List.getElem?_append_left (by rw [← h.1]; exact hi)] at e2
    exact h.2 i a b e1 e2
  · rw [List.getElem?_append_right (by omega)] at e1
    rw [List.getElem?_append_right (by rw [← h.1]; omega), ← h.1] at e2
    generalize i - es.length = j at e1 e2
    match j with
    | 0 => cases e1; cases e2; exact he
    | j + 1 => simp at e1
def spAllEn (K : PySem.W.Frag) (C : Addr) : Sp := fun vs H Q _ => ∃ (a s : Addr) (n : Nat) (ds : List (Nat × Nat)) (S : S2), vs = [.ref a, .ref s] ∧ HouseAt K H a ds ∧ Tree n ds ∧ n ≤ 60 ∧ StateAt K H s S ∧ StOk n ds S ∧
  ∀ (H' : Hp) (q : Addr) (es : List Addr), Same H H' → H q = none → H' q = some (.lst (es.map V.ref)) → EL C H H' S es (encs ds S S.1.length) → es.length ≤ 10000 → Q (.ref q) H'
section
variable {P : Program} {w : World} {K : PySem.W.Frag} {mg : Str → Option Value} {base : Heap} {C_Encounter : Addr}
theorem ok_all_encounters (T : Bl mg) (cl_Encounter : ClsD K mg "Encounter" C_Encounter ["people", "steps", "changes"]) (D : Def K mg "all_encounters" s_all_encounters) (C_steps_between : Cal P w K mg base "steps_between" ["house", "a", "b"] 3 (spStepsBT K))
    (C_Encounter_init : CalI P w K mg base C_Encounter ["self", "barred", "people", "steps"] 1 (spEnI K C_Encounter)) : Cal P w K mg base "all_encounters" ["house", "state"] 4 (spAllEn K C_Encounter) := by
  refine D.ok sc_all_encounters (fun _ _ _ _ _ _ us hl => match us, hl with | [_, _], _ => rfl) (fun vs H Q E h => ?_) (fun f cdv A0 outer s0 H vs Q E hr h => ?_)
  · obtain ⟨a, s, n, ds, S, rfl, _⟩ := h
    rfl
  obtain ⟨a, s, n, ds, S, rfl, hH, tree, hn, st, ok, q⟩ := h
  obtain ⟨r, b, h1, h2, h3⟩ := id st
  have few := ok.few
  have hdn := tree.len
  obtain ⟨f_steps_between, fd_steps_between, g_steps_between, k_steps_between, b_steps_between, G_steps_between⟩ := C_steps_between
  obtain ⟨f_Encounter_init, fd_Encounter_init, M_Encounter_init, b_Encounter_init, G_Encounter_init⟩ := C_Encounter_init
  refine ⟨_, (pss_cons (ps_asg (pv 1) (pg_tup (n := 2) rfl (pgs_cons (pg_name (i := 2) sc_all_encounters.nd rfl (.inl rfl)) (pgs_cons (pg_name (i := 3) sc_all_encounters.nd rfl (.inl rfl)) pgs_nil))))
    (pss_cons (ps_set (i := 4) sc_all_encounters.nd rfl (.inl rfl) (pe_lst pa_nil))
    (pss_cons (ps_for PassesOwn.never rfl (pi_range1 rfl T.range (pa_cons (pe_callB call_len_seq (by rfl) T.len PySem.boot_len (pa_cons (pv 2) pa_nil)) pa_nil)) (pg_name (i := 5) sc_all_encounters.nd rfl (.inl rfl))
    (pss_one (ps_for PassesOwn.never rfl (pi_range2 rfl T.range (pa_cons (pe_op op_add (pv 5) pe_int) (pa_cons (pe_callB call_len_seq (by rfl) T.len PySem.boot_len (pa_cons (pv 2) pa_nil)) pa_nil))) (pg_name (i := 6) sc_all_encounters.nd rfl (.inl rfl))
    (pss_cons (ps_set (i := 7) sc_all_encounters.nd rfl (.inl rfl) (pe_call G_steps_between (hr.mono (by decide)) (by rfl) g_steps_between k_steps_between b_steps_between .nil pass0 (pa_cons (pv 0) (pa_cons (pe_ix ix_tup (pv 2) (pv 5) (fun _ _ => rfl)) (pa_cons (pe_ix ix_tup (pv 2) (pv 6) (fun _ _ => rfl)) pa_nil)))))
    (pss_cons (ps_set (i := 8) sc_all_encounters.nd rfl (.inl rfl) (pe_call G_steps_between (hr.mono (by decide)) (by rfl) g_steps_between k_steps_between b_steps_between .nil pass0 (pa_cons (pv 0) (pa_cons (pe_ix ix_tup (pv 2) (pv 6) (fun _ _ => rfl)) (pa_cons (pe_ix ix_tup (pv 2) (pv 5) (fun _ _ => rfl)) pa_nil)))))
    (pss_one (ps_for PassesOwn.never rfl (pi_range1 rfl T.range (pa_cons (pe_op op_add (pe_callB call_len_seq (by rfl) T.len PySem.boot_len (pa_cons (pv 7) pa_nil)) pe_int) pa_nil)) (pg_name (i := 9) sc_all_encounters.nd rfl (.inl rfl))
    (pss_cons (ps_set (i := 10) sc_all_encounters.nd rfl (.inl rfl) (pe_tup (pa_cons (pe_slice sl_list (pv 7) po_none (po_some (pv 9))) (pa_cons (pe_slice sl_list (pv 8) po_none (po_some (pe_op op_sub (pe_callB call_len_seq (by rfl) T.len PySem.boot_len (pa_cons (pv 7) pa_nil)) (pv 9)))) pa_nil))))
    (pss_one (ps_expr (pe_bm PySem.F.plainAttrs_list PySem.F.slot_list_append PySem.F.type_list_append mt_append (pv 4) (pa_cons (pe_make M_Encounter_init G_Encounter_init (hr.mono (by decide)) (by rfl) cl_Encounter.g b_Encounter_init .nil pass0 (pa_cons (pv 3) (pa_cons (pe_tup (pa_cons (pv 5) (pa_cons (pv 6) pa_nil))) (pa_cons (pv 10) pa_nil)))) pa_nil))))))))))))
    (pss_one (ps_ret (pv 4)))))), ?_⟩
  refine ⟨_, rfl, s, _, rfl, h1, rfl, _, _, rfl, _, _, rfl, rfl, ?_⟩
  refine ⟨Nat.zero_le _, fun pd npd => ?_⟩
  have sp := Same.upd (o := .lst []) npd
  have hp0 : upd H pd (.lst []) pd = some (.lst []) := upd_same
  generalize upd H pd (.lst []) = H1 at sp hp0 ⊢
  refine ⟨_, rfl, _, _, rfl, .inr (sp.tup h2), (S.1.length : Int), congrArg (fun z : Nat => [V.int (z : Int)]) (nv_len _), by omega, by omega, ?_⟩
  refine for_range (lo := 0) (n := S.1.length) (fun f σ H2 => ∃ (es : List Addr) (y5 y6 y7 y8 y9 y10 : Option V), σ = [some (.ref a), some (.ref s), some (.ref r), some (.ref b), some (.ref pd), y5, y6, y7, y8, y9, y10] ∧ But pd H1 H2 ∧ H2 pd = some (.lst (es.map V.ref)) ∧ EL C_Encounter H1 H2 S es (encs ds S f) ∧ es.length ≤ 1000 * f)
    ⟨[], _, _, _, _, _, _, rfl, fun _ _ _ e => e, hp0, ⟨rfl, fun i t m h => by simp at h⟩, Nat.zero_le _⟩ ?_ ?_
  rotate_left
  · rintro σ H2 ⟨es, y5, y6, y7, y8, y9, y10, rfl, bt, hp, el, le⟩
    exact ⟨_, rfl, q H2 pd es (But.same sp npd bt) npd hp ⟨el.1, fun k e c x y => (el.2 k e c x y).base sp⟩ (by omega)⟩
  rintro i σ H2 hi ⟨es, y5, y6, y7, y8, y9, y10, rfl, bt, hp, el, le⟩
  rw [Int.zero_add]
  have sm := But.same sp npd bt
  obtain ⟨xi, hxi⟩ : ∃ x, S.1[i]? = some x := get_of rfl hi
  have gi : S.1.getD i 0 = xi := getD_of hxi
  refine ⟨_, rfl, _, _, rfl, rfl, _, rfl, _, _, rfl, .inr (sm.tup h2), _, _, rfl, ⟨by omega, by omega, by rw [nv_len]; omega, by rw [nv_len]; omega⟩, ?_⟩
  have en : (((nv S.1).length : Int) - ((i : Int) + 1)).toNat = S.1.length - (i + 1) := by rw [nv_len]; omega
  rw [en]
  refine for_range (lo := (i : Int) + 1) (n := S.1.length - (i + 1)) (fun k σ H2 => ∃ (es : List Addr) (y6 y7 y8 y9 y10 : Option V), σ = [some (.ref a), some (.ref s), some (.ref r), some (.ref b), some (.ref pd), some (.int (i : Int)), y6, y7, y8, y9, y10] ∧ But pd H1 H2 ∧ H2 pd = some (.lst (es.map V.ref)) ∧
      EL C_Encounter H1 H2 S es (encs ds S i ++ (List.range' (i + 1) k).flatMap (encPair ds S i)) ∧ es.length ≤ 1000 * i + 100 * k)
    ⟨es, _, _, _, _, _, rfl, bt, hp, by simpa using el, by omega⟩ ?_ ?_
  rotate_left
  · rintro σ H3 ⟨es, y6, y7, y8, y9, y10, rfl, bt, hp, el, le⟩
    refine ⟨es, _, _, _, _, _, _, rfl, bt, hp, ?_, by omega⟩
    have e : encs ds S (i + 1) = encs ds S i ++ (List.range' (i + 1) (S.1.length - (i + 1))).flatMap (encPair ds S i) := by
      unfold encs
      rw [List.range_succ, List.flatMap_append, List.flatMap_singleton]
      rfl
    rw [e]
    exact el
  clear bt hp el le sm y5 y6 y7 y8 y9 y10 es
  rintro k σ H3 hk ⟨es, y6, y7, y8, y9, y10, rfl, bt, hp, el, le⟩
  have hp3 := hp
  have sm := But.same sp npd bt
  rw [show ((i : Int) + 1 + (k : Nat)) = ((i + 1 + k : Nat) : Int) by omega]
  have jl : i + 1 + k < S.1.length := by omega
  have e0 : (List.range' (i + 1) (k + 1)).flatMap (encPair ds S i) = (List.range' (i + 1) k).flatMap (encPair ds S i) ++ encPair ds S i (i + 1 + k) := by
    rw [List.range'_concat, List.flatMap_append, List.flatMap_singleton, Nat.one_mul]
  generalize hj : i + 1 + k = j at jl e0
  obtain ⟨xj, hxj⟩ : ∃ x, S.1[j]? = some x := get_of rfl jl
  have gj : S.1.getD j 0 = xj := getD_of hxj
  have hxn := ok.rooms xi (List.mem_of_getElem? hxi)
  have hyn := ok.rooms xj (List.mem_of_getElem? hxj)
  refine ⟨_, rfl, _, rfl, _, rfl, r, _, _, V.int (xi : Int), rfl, rfl, sm.tup h2, nv_at hxi, _, rfl, _, rfl, r, _, _, V.int (xj : Int), rfl, rfl, sm.tup h2, nv_at hxj, ?_⟩
  refine ⟨a, ds, n, xi, xj, rfl, hH.same sm, tree, by omega, hxn, hyn, fun H4 q1 tr1 s4 nq1 tr1at trl1 nd1 l1 => ?_⟩
  have sm4 := sm.trans s4
  refine ⟨_, rfl, _, rfl, _, rfl, r, _, _, V.int (xj : Int), rfl, rfl, sm4.tup h2, nv_at hxj, _, rfl, _, rfl, r, _, _, V.int (xi : Int), rfl, rfl, sm4.tup h2, nv_at hxi, ?_⟩
  refine ⟨a, ds, n, xj, xi, rfl, hH.same sm4, tree, by omega, hyn, hxn, fun H5 q2 tr2 s5 nq2 tr2at trl2 nd2 l2 => ?_⟩
  have e12 := trl_len tree trl1 nd1 trl2 nd2
  have lw := walk_short trl1.walk nd1
  rw [List.length_map] at lw
  have F1 : trF ds xi xj = tr1 := trF_is tree trl1 nd1
  have F2 : trF ds xj xi = tr2 := trF_is tree trl2 nd2
  have tr1at5 := tr1at.same s5
  obtain ⟨ts1, hq1, tl1⟩ := id tr1at5
  obtain ⟨ts2, hq2, tl2⟩ := id tr2at
  have sm5 := sm4.trans s5
  refine ⟨_, rfl, q1, _, rfl, .inl (SqL.of hq1), _, _, rfl, rfl, ((tr1.length + 1 : Nat) : Int), congrArg (fun z : Int => [V.int z]) (by rw [List.length_map, tl1.1]; rfl), by omega, by omega, ?_⟩
  refine for_range (lo := 0) (n := tr1.length + 1) (fun t σ H2 => ∃ (es : List Addr) (y9 y10 : Option V), σ = [some (.ref a), some (.ref s), some (.ref r), some (.ref b), some (.ref pd), some (.int (i : Int)), some (.int (j : Nat)), some (.ref q1), some (.ref q2), y9, y10] ∧ But pd H5 H2 ∧ H2 pd = some (.lst (es.map V.ref)) ∧
      EL C_Encounter H1 H2 S es ((encs ds S i ++ (List.range' (i + 1) k).flatMap (encPair ds S i)) ++ (List.range t).map (encOf ds S i j)) ∧ es.length ≤ 1000 * i + 100 * k + t)
    ⟨es, _, _, rfl, fun _ _ _ e => e, s5 _ _ (s4 _ _ hp), by simpa using (el.same s4).same s5, by omega⟩ ?_ ?_
  rotate_left
  · rintro σ H6 ⟨es, y9, y10, rfl, bt6, hp, el, le⟩
    refine ⟨es, _, _, _, _, _, rfl, bt.trans ((s4.trans s5).but.trans bt6), hp, ?_, by omega⟩
    rw [e0, ← List.append_assoc]
    have : encPair ds S i j = (List.range (tr1.length + 1)).map (encOf ds S i j) := by
      unfold encPair
      rw [gi, gj, F1]
    rw [this]
    exact el
  have hp5 := s5 _ _ (s4 _ _ hp)
  have btH := bt.trans (s4.trans s5).but
  clear hp el le
  rintro t σ H6 ht ⟨es, y9, y10, rfl, bt6, hp, el, le⟩
  rw [Int.zero_add]
  have nqd : q1 ≠ pd := fun z => by rw [z] at nq1; obtain ⟨_, h⟩ : ∃ o, H3 pd = some o := ⟨_, hp3⟩; rw [h] at nq1; cases nq1
  have nqd2 : q2 ≠ pd := fun z => by rw [z] at nq2; rw [s4 _ _ hp3] at nq2; cases nq2
  have hq16 := bt6 _ _ nqd hq1
  have hq26 := bt6 _ _ nqd2 hq2
  have h36 := bt6.tup hp5 (sm5.tup h3)
  have tl16 : TL H6 ts1 tr1 := tl1.but hp5 bt6
  have tl26 : TL H6 ts2 tr2 := tl2.but hp5 bt6
  have lt1 := tl1.1
  have lt2 := tl2.1
  refine ⟨_, rfl, _, rfl, _, rfl, q1, _, rfl, SqL.of hq16, fun pc npc => ?_⟩
  rw [cutL_to (by rw [List.length_map]; omega), ← List.map_take]
  have c1 := Same.upd (o := .lst ((ts1.take t).map V.ref)) npc
  have hpc : upd H6 pc (.lst ((ts1.take t).map V.ref)) pc = some (.lst ((ts1.take t).map V.ref)) := upd_same
  generalize upd H6 pc (.lst ((ts1.take t).map V.ref)) = H7 at c1 hpc
  refine ⟨_, rfl, _, rfl, q1, _, rfl, .inl (SqL.of (c1 _ _ hq16)), _, rfl, _, _, rfl, rfl, _, rfl, q2, _, rfl, SqL.of (c1 _ _ hq26), fun pe npe => ?_⟩
  rw [show (((ts1.map V.ref).length : Nat) : Int) - (t : Int) = ((tr1.length - t : Nat) : Int) by rw [List.length_map, lt1]; omega]
  rw [cutL_to (by rw [List.length_map]; omega), ← List.map_take]
  have c2 := Same.upd (o := .lst ((ts2.take (tr1.length - t)).map V.ref)) npe
  have hpe : upd H7 pe (.lst ((ts2.take (tr1.length - t)).map V.ref)) pe = some (.lst ((ts2.take (tr1.length - t)).map V.ref)) := upd_same
  generalize upd H7 pe (.lst ((ts2.take (tr1.length - t)).map V.ref)) = H8 at c2 hpe
  refine ⟨by show 2 ≤ sizeLine; decide, fun pt npt => ?_⟩
  have c3 := Same.upd (o := .tup [V.ref pc, V.ref pe]) npt
  have hpt : upd H8 pt (.tup [V.ref pc, V.ref pe]) pt = some (.tup [V.ref pc, V.ref pe]) := upd_same
  generalize upd H8 pt (.tup [V.ref pc, V.ref pe]) = H9 at c3 hpt
  have c13 := (c1.trans c2).trans c3
  have hp9 := c13 _ _ hp
  refine ⟨_, rfl, .inl ⟨rfl, _, SqL.of hp9⟩, ?_⟩
  refine ⟨_, rfl, _, rfl, _, rfl, by show 2 ≤ sizeLine; decide, fun pp npp => ?_⟩
  have c4 := Same.upd (o := .tup [V.int (i : Int), V.int (j : Int)]) npp
  have hpp : upd H9 pp (.tup [V.int (i : Int), V.int (j : Int)]) pp = some (.tup [V.int (i : Int), V.int (j : Int)]) := upd_same
  generalize upd H9 pp (.tup [V.int (i : Int), V.int (j : Int)]) = H10 at c4 hpp
  have c14 := c13.trans c4
  refine ⟨_, rfl, fun x dx nx nd ne => ?_⟩
  have sB : Same H10 (upd (upd H10 dx (.own x)) x (.ins C_Encounter dx [])) := (Same.upd nd).at nx
  have free1 : ∀ {z : Addr}, H6 z = none → H1 z = none := fun {z} h => But.free (btH.trans bt6) hp h
  have trA : TrisAt H10 pc (tr1.take t) := ⟨ts1.take t, (c2.trans (c3.trans c4)) _ _ hpc, (tl16.take t).same c14⟩
  have trB : TrisAt H10 pe (tr2.take (tr1.length - t)) := ⟨ts2.take (tr1.length - t), (c3.trans c4) _ _ hpe, (tl26.take _).same c14⟩
  have b110 : Same H H10 := (But.same sp npd (btH.trans bt6)).trans c14
  refine ⟨x, b, pp, pt, dx, pc, pe, i, j, S, tr1.take t, tr2.take (tr1.length - t), H1, H10, rfl, fun z hz => free1 (c14.free hz), free1 npc, free1 (c1.free npe), upd_same, sB, nx, c14.tup h36, hpp, c4 _ _ hpt, trA, trB, fun m hm => ?_, fun m hm => ?_, by rw [List.length_take]; omega, by rw [List.length_take]; omega, fun H11 s11 en => ⟨rfl, ?_⟩⟩
  · rw [ok.doors]
    exact joins_lt (trl_door trl1 m (List.mem_of_mem_take hm))
  · rw [ok.doors]
    exact joins_lt (trl_door trl2 m (List.mem_of_mem_take hm))
  have c15 := c14.trans s11
  have hp11 := c15 _ _ hp
  have big : (10000 : Nat) < sizeLine := by decide
  refine ⟨pd, _, _, rfl, rfl, hp11, by rw [List.length_map]; omega, ?_⟩
  have enc : EnAt C_Encounter H1 H11 x S (encOf ds S i j t).i (encOf ds S i j t).j (encOf ds S i j t).A (encOf ds S i j t).B := by
    unfold encOf
    rw [gi, gj, F1, F2]
    exact en
  have elX : EL C_Encounter H1 (upd H11 pd (.lst (es.map V.ref ++ [V.ref x]))) S (es ++ [x]) (((encs ds S i ++ (List.range' (i + 1) k).flatMap (encPair ds S i)) ++ (List.range t).map (encOf ds S i j)) ++ [encOf ds S i j t]) := by
    have z := (el.same c15).snoc enc
    exact ⟨z.1, fun k e c x y => (z.2 k e c x y).away hp11 hp0⟩
  refine ⟨es ++ [x], _, _, rfl, (bt6.trans c15.but).upd _, by rw [upd_same, List.map_append]; rfl, ?_, by rw [List.length_append, List.length_singleton]; omega⟩
  rw [List.range_succ, List.map_append, ← List.append_assoc]
  exact elX
end
end K5

namespace K5
open PySem PySem.Spec PyProof.Rows L2
theorem walk_trl {ds : List (Nat × Nat)} {a b : Nat} {w : List Nat} (W : Walk ds a w b) : ∃ tr, Trl ds a tr b ∧ tr.map Prod.fst = w := by
  induction W with
  | nil a => exact ⟨[], rfl, rfl⟩
  | cons j _ ih =>
    obtain ⟨tr, t, e⟩ := ih
    exact ⟨(_, _, _) :: tr, ⟨rfl, j, t⟩, by rw [List.map_cons, e]⟩
theorem trF_spec {n : Nat} {ds : List (Nat × Nat)} (T : Tree n ds) {x y : Nat} (hx : x < n) (hy : y < n) : Trl ds x (trF ds x y) y ∧ ((trF ds x y).map Prod.fst).Nodup := by
  obtain ⟨w, W⟩ := walk_of T hx hy
  obtain ⟨w', W', nd, _⟩ := short W
  obtain ⟨tr, t, e⟩ := walk_trl W'
  have nd' : (tr.map Prod.fst).Nodup := by rw [e]; exact nd
  rw [trF_is T t nd']
  exact ⟨t, nd'⟩
theorem mem_encs {ds : List (Nat × Nat)} {S : S2} {c : Enc} : c ∈ encs ds S S.1.length ↔ ∃ i j k, i < j ∧ j < S.1.length ∧ k ≤ (trF ds (S.1.getD i 0) (S.1.getD j 0)).length ∧ c = encOf ds S i j k := by
  unfold encs
  rw [List.mem_flatMap]
  constructor
  · rintro ⟨i, hi, h⟩
    unfold encRow at h
    obtain ⟨j, hj, h⟩ := List.mem_flatMap.mp h
    unfold encPair at h
    obtain ⟨k, hk, h⟩ := List.mem_map.mp h
    rw [List.mem_range'_1] at hj
    rw [List.mem_range] at hi hk
    exact ⟨i, j, k, by omega, by omega, by omega, h.symm⟩
  · rintro ⟨i, j, k, h1, h2, h3, e⟩
    refine ⟨i, List.mem_range.mpr (by omega), ?_⟩
    unfold encRow
    refine List.mem_flatMap.mpr ⟨j, List.mem_range'_1.mpr (by omega), ?_⟩
    unfold encPair
    exact List.mem_map.mpr ⟨k, List.mem_range.mpr (by omega), e.symm⟩
/-- what an encounter is -/
structure EncOk (n : Nat) (ds : List (Nat × Nat)) (S : S2) (c : Enc) : Prop where
  ij : c.i < c.j
  jl : c.j < S.1.length
  way : ∃ (x y k : Nat) (tr tr' : List Mv), S.1[c.i]? = some x ∧ S.1[c.j]? = some y ∧ Trl ds x tr y ∧ (tr.map Prod.fst).Nodup ∧ Trl ds y tr' x ∧ tr'.map Prod.fst = (tr.map Prod.fst).reverse ∧ tr'.length = tr.length ∧ k ≤ tr.length ∧ c.A = tr.take k ∧ c.B = tr'.take (tr.length - k)
theorem encs_ok {n : Nat} {ds : List (Nat × Nat)} (T : Tree n ds) {S : S2} (o : StOk n ds S) {c : Enc} (h : c ∈ encs ds S S.1.length) : EncOk n ds S c := by
  obtain ⟨i, j, k, ij, jl, hk, rfl⟩ := mem_encs.mp h
  obtain ⟨x, hx⟩ : ∃ x, S.1[i]? = some x := get_of rfl (by omega)
  obtain ⟨y, hy⟩ : ∃ y, S.1[j]? = some y := get_of rfl jl
  have xn := o.rooms x (List.mem_of_getElem? hx)
  have yn := o.rooms y (List.mem_of_getElem? hy)
  rw [getD_of hx, getD_of hy] at hk
  obtain ⟨t1, n1⟩ := trF_spec T xn yn
  obtain ⟨t2, n2⟩ := trF_spec T yn xn
  refine ⟨ij, jl, x, y, k, _, _, hx, hy, t1, n1, t2, way_unique T t2.walk t1.walk.rev n2 (List.pairwise_reverse.mpr (n1.imp Ne.symm)), trl_len T t1 n1 t2 n2, hk, ?_, ?_⟩
  · unfold encOf
    rw [getD_of hx, getD_of hy]
  · unfold encOf
    rw [getD_of hx, getD_of hy]
def Enc.mx (c : Enc) : Nat := max c.A.length c.B.length
noncomputable def cands (ds : List (Nat × Nat)) (S : S2) : List Enc := (encs ds S S.1.length).filter fun c => decide (clsF S c.i c.j c.A c.B = [])
/-- the encounter that min finds -/
def SoonE (ds : List (Nat × Nat)) (S : S2) (c : Enc) : Prop := ∃ k, (cands ds S)[k]? = some c ∧ ∀ (k' : Nat) (c' : Enc), (cands ds S)[k']? = some c' → c.mx ≤ c'.mx ∧ (k' < k → c.mx < c'.mx)
theorem SoonE.unique {ds : List (Nat × Nat)} {S : S2} {a b : Enc} (ha : SoonE ds S a) (hb : SoonE ds S b) : a = b := by
  obtain ⟨k, h1, h2⟩ := ha
  obtain ⟨k', g1, g2⟩ := hb
  have e : k = k' := by
    have p1 := h2 k' b g1
    have p2 := g2 k a h1
    rcases Nat.lt_trichotomy k k' with h | h | h
    · have := p2.2 h
      omega
    · exact h
    · have := p1.2 h
      omega
  subst e
  rw [h1] at g1
  exact Option.some.inj g1
theorem SoonE.mem {ds : List (Nat × Nat)} {S : S2} {c : Enc} (h : SoonE ds S c) : c ∈ cands ds S := by
  obtain ⟨k, h1, _⟩ := h
  exact List.mem_of_getElem? h1
theorem SoonE.least {ds : List (Nat × Nat)} {S : S2} {c : Enc} (h : SoonE ds S c) : ∀ c' ∈ cands ds S, c.mx ≤ c'.mx := fun c' hc => by
  obtain ⟨k, _, h2⟩ := h
  obtain ⟨k', hk'⟩ := List.mem_iff_getElem?.mp hc
  exact (h2 k' c' hk').1
/-- the moves of an encounter, of the first person and then of the second -/
def planE (c : Enc) : List Mv := (c.A.map fun m => (c.i, m.2.1, m.2.2)) ++ c.B.map fun m => (c.j, m.2.1, m.2.2)
theorem planE_vm {n : Nat} {ds : List (Nat × Nat)} {S : S2} {c : Enc} (h : EncOk n ds S c) : ∀ m ∈ planE c, VM ds S.1.length m := by
  obtain ⟨x, y, k, tr, tr', hx, hy, t1, n1, t2, e2, l2, hk, eA, eB⟩ := h.way
  intro m hm
  have ij := h.ij
  have jl := h.jl
  rcases List.mem_append.mp hm with hm | hm
  · obtain ⟨a, ha, rfl⟩ := List.mem_map.mp hm
    rw [eA] at ha
    exact ⟨by show c.i < _; omega, a.1, trl_door t1 a (List.mem_of_mem_take ha)⟩
  · obtain ⟨a, ha, rfl⟩ := List.mem_map.mp hm
    rw [eB] at ha
    exact ⟨jl, a.1, trl_door t2 a (List.mem_of_mem_take ha)⟩
theorem enc_len {n : Nat} {ds : List (Nat × Nat)} (T : Tree n ds) {S : S2} {c : Enc} (h : EncOk n ds S c) : c.A.length ≤ ds.length ∧ c.B.length ≤ ds.length := by
  obtain ⟨x, y, k, tr, tr', hx, hy, t1, n1, t2, e2, l2, hk, eA, eB⟩ := h.way
  have lw := walk_short t1.walk n1
  rw [List.length_map] at lw
  rw [eA, eB, List.length_take, List.length_take]
  omega
end K5

namespace L2
open PySem PySem.Spec PyProof.Rows PySem.W
/-! own rule: min(xs, key=len), xs a list of lists: the first of the shortest -/
def tMinLen (K : PySem.W.Frag) (ta : TE) : TE := fun σ H Q => ta σ H fun x H1 => ∃ (a : Addr) (qs : List Addr) (ls : List (List V)), x = V.ref a ∧ SqL K H1 a (qs.map V.ref) ∧ qs.length = ls.length ∧ 0 < qs.length ∧
  (∀ (i : Nat) (q : Addr) (l : List V), qs[i]? = some q → ls[i]? = some l → SqL K H1 q l) ∧
  ∀ (i : Nat) (q : Addr) (l : List V), qs[i]? = some q → ls[i]? = some l → (∀ (j : Nat) (l' : List V), ls[j]? = some l' → l.length ≤ l'.length ∧ (j < i → l.length < l'.length)) → Q (.ref q) H1
theorem pe_minLen {X : Cx} {e : Expr} {te : TE} {p p2 kp pos : Pos} (hc : X.calm = true) (hg : Gl X "min") (hm : X.mg "min" = none) (gl : Gl X "len") (ml : X.mg "len" = none) (ha : PE X e te)
    (he1 : starEach [e] X.env = (false, eval e X.env) :: starEach [] X.env := by rfl) (he : backTo pos (starEach [e] X.env) = (false, eval e X.env) :: backTo pos (starEach [] X.env) := by rfl) (hpl : (backTo pos (starEach [e] X.env)).any (·.1) = false := by rfl) :
    PE X (.Call (.Name "min" p) [e] [⟨some "key", .Name "len" p2, kp⟩] pos) (tMinLen X.K te) := by
  refine ⟨fun pins s0 σ H0 Q I0 h => ?_⟩
  refine wpAny_Call_Name_kw (ld_blt I0 hg hm (show bootBuiltins "min" = some (.builtin "min") by decide +kernel) ?_)
  have hA : PA X [e] (tCons te tNil) := pa_cons ha pa_nil he1
  have h : tCons te tNil σ H0 (fun vs H1 => match vs with
    | [x] => ∃ (a : Addr) (qs : List Addr) (ls : List (List V)), x = V.ref a ∧ SqL X.K H1 a (qs.map V.ref) ∧ qs.length = ls.length ∧ 0 < qs.length ∧
      (∀ (i : Nat) (q : Addr) (l : List V), qs[i]? = some q → ls[i]? = some l → SqL X.K H1 q l) ∧
      ∀ (i : Nat) (q : Addr) (l : List V), qs[i]? = some q → ls[i]? = some l → (∀ (j : Nat) (l' : List V), ls[j]? = some l' → l.length ≤ l'.length ∧ (j < i → l.length < l'.length)) → Q (.ref q) H1
    | _ => False) := h
  refine PyProof.Rows.callWith_kw (thn (hA.run pos pins s0 σ H0 _ I0 h) fun us s ⟨vs, H, I, r, q1⟩ => ?_) he hpl rfl rfl
  show wpAny _ _ (evalAll [do let v ← eval (.Name "len" p2) X.env; standAt pos; pure v]) _ _ s
  refine wpAny_evalAll_cons (wpAny_bind (ld_blt I gl ml PySem.boot_len (wpAny_bind (wpAny_standAt (wpAny_pure (wpAny_evalAll_nil ?_))))))
  match vs, q1 with
  | [x], q1 =>
  obtain ⟨a, qs, ls, rfl, hs, hlen, hpos0, hls, q⟩ := q1
  rw [Vals.ref1 r]
  obtain ⟨xs, hxs⟩ : ∃ xs, xs = qs.map V.ref := ⟨_, rfl⟩
  have hpos : 0 < xs.length := by rw [hxs, List.length_map]; exact hpos0
  rw [← hxs] at hs
  obtain ⟨kf, kfis⟩ : ∃ kf : Nat → Int, ∀ i l, ls[i]? = some l → kf i = (l.length : Int) := ⟨fun i => ((ls[i]?.map List.length).getD 0 : Nat), fun i l h => by show (((ls[i]?.map List.length).getD 0 : Nat) : Int) = _; rw [h]; rfl⟩
  have hh : X.A.handled = none := I.ok.hd hc
  obtain ⟨its0, rv0, hl0, few⟩ := I.list hs
  refine call_min_walkKB (iter_listW (A := X.A.in1) hh hl0.isList fun s₂ e W0 st0 hfp hw hkp => ?_)
  subst e
  have hne : a ≠ s.heap.objs.size := fun z => by
    obtain ⟨o, e, _⟩ := hl0.isList
    exact absurd z (Nat.ne_of_lt (Heap.lt_size e))
  have I2 : Inv X pins σ H { s with heap := s.heap.push { cls := .type "list_iterator", data := .fields #[.ref a, .int 0 0] } } := I.kept hkp
  have szS : (s.heap.push { cls := .type "list_iterator", data := .fields #[.ref a, .int 0 0] }).objs.size = s.heap.objs.size + 1 := Heap.size_push _ _
  have fI : FpOk X pins H s.heap.objs.size := I.fpOk (Nat.le_refl _) (I.hok.fresh (Nat.le_refl _))
  have fS : FpOk X pins H (s.heap.objs.size + 1) := I.fpOk (Nat.le_succ _) (I.hok.fresh (Nat.le_succ _))
  generalize hit : s.heap.objs.size = it at W0 st0 hfp hw hne szS fI fS ⊢
  have lenI : its0.toArray.size = xs.length := by rw [List.size_toArray, rv0.length]
  have Wi : ∀ its : List Value, WalksS X.prog X.w X.A.in1 it [it, a] [it] (fun a b => b = a) its.toArray.size (fun i v => its.toArray[i]? = some v) (fun i s' => s'.heap.IsListIter it a i ∧ s'.heap.IsList a its.toArray) := fun its => (Walks.list (A := X.A.in1) hh it a hne its.toArray).toS
  have W : WalksS X.prog X.w X.A.in1 it [it, a] [it] (fun a b => b = a) xs.length (fun i v => ∃ x, xs[i]? = some x ∧ RelV x v) (fun i s' => s'.heap.IsListIter it a i ∧ ∃ its, Vals xs its ∧ s'.heap.IsList a its.toArray) := by
    refine ⟨W0.sub, W0.grefl, W0.gtrans, ?_, ?_, ?_, ?_⟩
    · rintro i s1 h' tk ⟨st, its, rv, hl⟩ le keep
      obtain ⟨x1, x2⟩ := (Wi its).frame i s1 h' tk ⟨st, hl⟩ le keep
      exact ⟨x1, its, rv, x2⟩
    · rintro i s1 Q1 E1 hi ⟨st, its, rv, hl⟩ hQ
      refine (Wi its).item i s1 Q1 E1 (by rw [List.size_toArray, ← rv.length]; exact hi) ⟨st, hl⟩ fun v s' hv hst hm => ?_
      obtain ⟨u, hu, ru⟩ := rv.get (List.getElem?_eq_getElem hi)
      have hv' : its[i]? = some
            v := by simpa using hv
      rw [hv'] at hu
      cases hu
      exact hQ v s' ⟨_, List.getElem?_eq_getElem hi, ru⟩ ⟨hst.1, its, rv, hst.2⟩ hm
    · rintro s1 Q1 E1 ⟨st, its, rv, hl⟩ hQ
      exact (Wi its).done s1 Q1 E1 (by rw [List.size_toArray, ← rv.length]; exact ⟨st, hl⟩) hQ
    · rintro i s1 Q1 E1 ⟨st, its, rv, hl⟩ hQ
      exact (Wi its).self i s1 Q1 E1 ⟨st, hl⟩ hQ
  have KR : KeyRun X.prog X.w X.A.in1 (.builtin "len") .Lt (it + 1) [it] (fun a b => b = a) xs.length (fun i v => ∃ x, xs[i]? = some x ∧ RelV x v) (fun i s' => s'.heap.IsListIter it a i ∧ ∃ its, Vals xs its ∧ s'.heap.IsList a its.toArray) (fun s' => Inv X pins σ H s') (fun i v _ => ∃ t, v = .int (kf i) t) (fun i j => decide (kf i < kf j)) := by
    refine ⟨fun s1 s2 J m => ?_, fun i k s1 s2 v m => v, ?_, ?_⟩
    · obtain ⟨h2, g2, d2, t2, o2⟩ := s2
      obtain ⟨m1, m2, m3, m4, _⟩ := m
      simp only at m1 m2 m3 m4
      subst m2 m3 m4
      exact J.turned2 (fun b o n1 n2 e => m1 b o (by simp only [List.mem_cons, List.not_mem_nil, or_false]; rintro (z | z); exact n2 z; exact n1 z) e) fI fS
    · rintro i v s1 o Q1 E1 hi ⟨x, hx, rx⟩ J ⟨st, its, rv, hl⟩ hS cont
      rw [hxs, List.getElem?_map] at hx
      obtain ⟨q, hq, rfl⟩ := Option.map_eq_some_iff.mp hx
      obtain ⟨l, hl2⟩ : ∃ l, ls[i]? = some l := ⟨_, List.getElem?_eq_getElem (by rw [← hlen]; exact (List.getElem?_eq_some_iff.mp hq).1)⟩
      obtain rfl : v = Value.ref q := rx
      obtain ⟨its2, rv2, hl3, few2⟩ := J.list (hls i q l hq hl2)
      refine PyProof.Rows.len_list hl3.isList ?_ ?_
      · rw [List.size_toArray, ← rv2.length]
        have z : sizeLine < 2 ^ 62 := by decide
        omega
      · have e : (its2.toArray.size : Int) = kf i := by rw [List.size_toArray, ← rv2.length, kfis i l hl2]
        rw [e]
        exact cont _ _ (J.tok _) ⟨st, its, rv, hl⟩ hS ⟨_, rfl⟩ fun j k' z => z
    · rintro i j ki kj s1 Q1 E1 J ⟨t1, rfl⟩ ⟨t2, rfl⟩ hQ
      exact CmpOf.ints_lt (prog := X.prog) (w := X.w) (A := X.A.in1) (P := fun i v => ∃ t, v = .int (kf i) t) kf (fun i v h => h) i j _ _ _ _ _ ⟨t1, rfl⟩ ⟨t2, rfl⟩ hQ
  refine ⟨it, [it, a], [it], _, xs.length, _, _, _, _, _, rfl, W, ⟨st0.1, its0, rv0, st0.2⟩, hfp, hpos, by rw [szS]; exact KR, I2, fun v s' hP J => ?_⟩
  obtain ⟨x, hx, rx⟩ := hP
  obtain ⟨bf, bl⟩ := argBest_fst18 kf (xs.length - 1)
  generalize argBest (fun i j => decide (kf i < kf j)) (xs.length - 1) = b at hx bf bl
  rw [hxs, List.getElem?_map] at hx
  obtain ⟨q0, hq, rfl⟩ := Option.map_eq_some_iff.mp hx
  obtain ⟨l, hl2⟩ : ∃ l, ls[b]? = some l := ⟨_, List.getElem?_eq_getElem (by rw [← hlen]; exact (List.getElem?_eq_some_iff.mp hq).1)⟩
  refine ⟨_, H, J, rx, q _ q0 l hq hl2 fun j l' hl' => ?_⟩
  have jl : j < xs.length := by rw [hxs, List.length_map, hlen]; exact (List.getElem?_eq_some_iff.mp hl').1
  have b1 := bf j (by omega)
  rw [kfis _ l hl2, kfis j l' hl'] at b1
  exact ⟨by omega, fun h => by have := b1.2 h; omega⟩
end L2

namespace K5
open PySem PySem.Spec PyProof.Rows L2
/-- the changes of an encounter -/
noncomputable def Enc.cl (S : S2) (c : Enc) : List (Nat × Nat) := srtP (clsF S c.i c.j c.A c.B)
/-- the first encounter of the fewest changes -/
def LeastO (ds : List (Nat × Nat)) (S : S2) (c : Enc) : Prop := ∃ k, (encs ds S S.1.length)[k]? = some c ∧ ∀ (k' : Nat) (c' : Enc), (encs ds S S.1.length)[k']? = some c' → (c.cl S).length ≤ (c'.cl S).length ∧ (k' < k → (c.cl S).length < (c'.cl S).length)
theorem LeastO.unique {ds : List (Nat × Nat)} {S : S2} {a b : Enc} (ha : LeastO ds S a) (hb : LeastO ds S b) : a = b := by
  obtain ⟨k, h1, h2⟩ := ha
  obtain ⟨k', g1, g2⟩ := hb
  have e : k = k' := by
    have p1 := h2 k' b g1
    have p2 := g2 k a h1
    rcases Nat.lt_trichotomy k k' with h | h | h
    · have := p2.2 h
      omega
    · exact h
    · have := p1.2 h
      omega
  subst e
  rw [h1] at g1
  exact Option.some.inj g1
theorem LeastO.mem {ds : List (Nat × Nat)} {S : S2} {c : Enc} (h : LeastO ds S c) : c ∈ encs ds S S.1.length := by
  obtain ⟨k, h1, _⟩ := h
  exact List.mem_of_getElem? h1
theorem LeastO.least {ds : List (Nat × Nat)} {S : S2} {c : Enc} (h : LeastO ds S c) : ∀ c' ∈ encs ds S S.1.length, (c.cl S).length ≤ (c'.cl S).length := fun c' hc => by
  obtain ⟨k, _, h2⟩ := h
  obtain ⟨k', hk'⟩ := List.mem_iff_getElem?.mp hc
  exact (h2 k' c' hk').1
theorem encs_some {ds : List (Nat × Nat)} {S : S2} (h : 2 ≤ S.1.length) : 0 < (encs ds S S.1.length).length := List.length_pos_of_mem (mem_encs.mpr ⟨0, 1, 0, by decide, by omega, Nat.zero_le _, rfl⟩)
def spFew (K : PySem.W.Frag) (C : Addr) : Sp := fun vs H Q _ => ∃ (a s : Addr) (n : Nat) (ds : List (Nat × Nat)) (S : S2), vs = [.ref a, .ref s] ∧ HouseAt K H a ds ∧ Tree n ds ∧ n ≤ 60 ∧ StateAt K H s S ∧ StOk n ds S ∧ (S.1.length = 1 → ∀ H', Same H H' → Q .non H') ∧
  (2 ≤ S.1.length → ∀ (H' : Hp) (t q : Addr) (ts : List Addr) (c : Enc), LeastO ds S c → Same H H' → H' t = some (.tup [.int ((c.cl S).length : Int), .ref q]) → H q = none → H' q = some (.lst (ts.map V.ref)) → PL2 H' ts (c.cl S) → Q (.ref t) H')
section
variable {P : Program} {w : World} {K : PySem.W.Frag} {mg : Str → Option Value} {base : Heap} {C_Encounter : Addr}
theorem ok_fewest_openings (T : Bl mg) (cl_Encounter : ClsD K mg "Encounter" C_Encounter ["people", "steps", "changes"]) (D : Def K mg "fewest_openings" s_fewest_openings) (C_need_state : Cal P w K mg base "need_state" ["house", "state"] 7 (spSt K))
    (C_all_encounters : Cal P w K mg base "all_encounters" ["house", "state"] 4 (spAllEn K C_Encounter)) : CalK P w K mg base "fewest_openings" ["house", "state"] 8 (spFew K C_Encounter) ["state", "house"] rev2 rev2 := by
  refine D.okK sc_fewest_openings (fun _ _ _ _ _ _ us ws hl => match us, ws, hl with | [], [_, _], _ => rfl) rev2_vals (fun _ _ _ _ _ _ us hl => match us, hl with | [_, _], _ => rfl) (fun vs H Q E h => ?_) (fun f cdv A0 outer s0 H vs Q E hr h => ?_)
  · obtain ⟨a, s, n, ds, S, rfl, _⟩ := h
    rfl
  obtain ⟨a, s, n, ds, S, rfl, hH, tree, hn, st, ok, q0, q1⟩ := h
  have cls := cl_Encounter.cl
  have no := cl_Encounter.no
  have hdn := tree.len
  obtain ⟨f_need_state, fd_need_state, g_need_state, k_need_state, b_need_state, G_need_state⟩ := C_need_state
  obtain ⟨f_all_encounters, fd_all_encounters, g_all_encounters, k_all_encounters, b_all_encounters, G_all_encounters⟩ := C_all_encounters
  refine ⟨_, (pss_cons (ps_expr (pe_call G_need_state (hr.mono (by decide)) (by rfl) g_need_state k_need_state b_need_state .nil pass0 (pa_cons (pv 0) (pa_cons (pv 1) pa_nil))))
    (pss_cons (ps_if (pt_cmpR op_eq (pe_callB call_len_seq (by rfl) T.len PySem.boot_len (pa_cons (pe_ix ix_tup (pv 1) pe_int (fun _ _ => rfl)) pa_nil)) pe_int (nomark _)) (pss_one (ps_ret pe_non)) pss_nil)
    (pss_cons (ps_set (i := 2) sc_fewest_openings.nd rfl (.inl rfl) (pe_minLen rfl (by rfl) T.min (by rfl) T.len (pe_lc (own := [("encounter", 3)]) (g := gName 3)  (te := (tFld K (tVar 3) "changes")) rfl sc_fewest_openings.nd (pi_list (pe_call G_all_encounters (hr.mono (by decide)) (by rfl) g_all_encounters k_all_encounters b_all_encounters .nil pass0 (pa_cons (pv 0) (pa_cons (pv 1) pa_nil)))) (blkOk_by (N := N_fewest_openings) (sc := defScope s_fewest_openings) (own := [("encounter", 3)]) (by decide +kernel)) (fun _ _ _ _ _ => (pg_name (i := 3) sc_fewest_openings.nd rfl (.inl rfl) (.inr rfl))) (fun _ _ _ _ _ => pts_nil) (fun _ _ _ _ _ => (pe_fld (pv 3) rfl)))))
    (pss_one (ps_ret (pe_tup (pa_cons (pe_callB call_len_seq (by rfl) T.len PySem.boot_len (pa_cons (pv 2) pa_nil)) (pa_cons (pv 2) pa_nil)))))))), ?_⟩
  refine ⟨_, rfl, _, rfl, a, s, ds, n, S, rfl, hH, tree, by omega, st, ok, fun H1 s1 => ?_⟩
  obtain ⟨r, b, h1, h2, h3⟩ := st.same s1
  refine ⟨_, rfl, s, _, _, V.ref r, rfl, rfl, h1, atI_nat (j := 0) rfl, r, _, rfl, .inr h2, rfl, _, rfl, ?_⟩
  rw [nv_len]
  by_cases one : S.1.length = 1
  · refine iteT' (by rw [one]; rfl) ?_
    exact q0 one H1 s1
  have two : 2 ≤ S.1.length := by have := ok.one; omega
  refine iteF' (decide_eq_false fun z => by have := V.int.inj z; omega) ?_
  refine ⟨_, rfl, _, rfl, a, s, n, ds, S, rfl, hH.same s1, tree, hn, st.same s1, ok, fun H2 pq es s2 npq hpq el eb => ?_⟩
  have s12 := s1.trans s2
  refine ⟨pq, rfl, ⟨_, SqL.of hpq⟩, fun pd npd => ?_⟩
  have big : (10000 : Nat) < sizeLine := by decide
  refine lc_list (xs := es.map V.ref) (fun k H3 => ∃ (cs : List Addr) (tss : List (List Addr)), Same H2 H3 ∧ H3 pd = some (.lst (cs.map V.ref)) ∧ cs.length = k ∧ tss.length = k ∧ ∀ (j : Nat) (q : Addr) (ts : List Addr) (c : Enc), cs[j]? = some q → tss[j]? = some ts → (encs ds S S.1.length)[j]? = some c → H2 q = some (.lst (ts.map V.ref)) ∧ PL2 H2 ts (c.cl S) ∧ H1 q = none)
    ⟨[], [], Same.upd npd, upd_same, rfl, rfl, fun j q ts c x => by simp at x⟩ (fun k H3 _ ⟨_, _, h, _⟩ => SqL.of (h _ _ hpq)) ?_ ?_
  · rintro k v H3 ex ⟨cs, tss, s3, hpd, lc, lt, all⟩
    obtain ⟨e1, he1, rfl⟩ : ∃ t, es[k]? = some t ∧ v = V.ref t := by
      rw [List.getElem?_map] at ex
      cases e : es[k]? with
      | none => rw [e] at ex; cases ex
      | some t => rw [e] at ex; exact ⟨t, rfl, (Option.some.inj ex).symm⟩
    have hk := get_lt he1
    obtain ⟨c, hc⟩ : ∃ c, (encs ds S S.1.length)[k]? = some c := get_of el.1.symm hk
    obtain ⟨dx, p, st', cc, a1, b1, cts, l, g1, g2, g3, g4, g5, g6, g7, g8, n1, n2, n3⟩ := el.2 k e1 c he1 hc
    refine ⟨rfl, lcYes ?_⟩
    refine ⟨_, rfl, e1, C_Encounter, dx, _, V.ref cc, rfl, s3 _ _ g1, cls, no _ (by decide), rfl, ?_⟩
    refine ⟨_, hpd, by rw [List.length_map]; omega, cs ++ [cc], tss ++ [cts], s3.at npd, by rw [upd_same, List.map_append]; rfl, by simp [lc], by simp [lt], fun j q ts c' e1 e2 e3 => ?_⟩
    by_cases hj : j < k
    · rw [List.getElem?_append_left (by omega)] at e1 e2
      exact all j q ts c' e1 e2 e3
    · have := get_lt e1
      rw [List.length_append, List.length_singleton] at this
      have ej : j = k := by omega
      subst ej
      rw [List.getElem?_append_right (by omega), lc, Nat.sub_self] at e1
      rw [List.getElem?_append_right (by omega), lt, Nat.sub_self] at e2
      cases e1
      cases e2
      rw [hc] at e3
      cases e3
      refine ⟨g6, ?_, n3⟩
      rw [g8] at g7
      exact g7
  rintro H3 ⟨cs, tss, s3, hpd, lc, lt, all⟩
  rw [List.length_map] at lc lt
  have le := el.1
  refine ⟨pd, cs, tss.map fun ts => ts.map V.ref, rfl, SqL.of hpd, by rw [List.length_map, lc, lt], by rw [lc, le]; exact encs_some two, fun i q l hq hl => ?_, fun i q l hq hl least => ?_⟩
  · rw [List.getElem?_map] at hl
    obtain ⟨ts, hts, rfl⟩ := Option.map_eq_some_iff.mp hl
    obtain ⟨c, hc⟩ : ∃ c, (encs ds S S.1.length)[i]? = some c := get_of rfl (by rw [← le, ← lc]; exact get_lt hq)
    exact SqL.of (s3 _ _ (all i q ts c hq hts hc).1)
  rw [List.getElem?_map] at hl
  obtain ⟨ts, hts, rfl⟩ := Option.map_eq_some_iff.mp hl
  obtain ⟨c, hc⟩ : ∃ c, (encs ds S S.1.length)[i]? = some c := get_of rfl (by rw [← le, ← lc]; exact get_lt hq)
  obtain ⟨f1, f2, f3⟩ := all i q ts c hq hts hc
  have s13 := s12.trans s3
  have f13 := s3 _ _ f1
  refine ⟨_, rfl, q, _, rfl, .inl (SqL.of f13), _, rfl, by show 2 ≤ sizeLine; decide, fun t nt => ?_⟩
  have s4 := Same.upd (o := .tup [.int (((ts.map V.ref).length : Nat) : Int), .ref q]) nt
  have lts : (ts.map V.ref).length = (c.cl S).length := by rw [List.length_map, f2.1]
  refine q1 two _ t q ts c ⟨i, hc, fun k' c' hk' => ?_⟩ (s13.trans s4) (by rw [upd_same, lts]) (s1.free f3) (s4 _ _ f13) ((f2.same s3).same s4)
  obtain ⟨q', hq'⟩ : ∃ q', cs[k']? = some q' := get_of rfl (by rw [lc, le]; exact get_lt hk')
  obtain ⟨ts', hts'⟩ : ∃ ts', tss[k']? = some ts' := get_of rfl (by rw [lt, le]; exact get_lt hk')
  obtain ⟨_, f2', _⟩ := all k' q' ts' c' hq' hts' hk'
  have := least k' (ts'.map V.ref) (by rw [List.getElem?_map, hts']; rfl)
  rw [lts, List.length_map, f2'.1] at this
  exact this
end
end K5

namespace K5
open PySem PySem.Spec PyProof.Rows L2
def spRepl (K : PySem.W.Frag) : Sp := fun vs H Q _ => ∃ (a : Addr) (L : List Nat) (k v : Nat), vs = [.ref a, .int (k : Int), .int (v : Int)] ∧ SqT K H a (nv L) ∧ k < L.length ∧ L.length ≤ 1000 ∧ ∀ (H' : Hp) (q : Addr), Same H H' → SqT K H' q (nv (L.set k v)) → Q (.ref q) H'
section
variable {P : Program} {w : World} {K : PySem.W.Frag}
      {mg : Str → Option Value} {base : Heap}
theorem ok_replaced (T : Bl mg) (D : Def K mg "replaced" s_replaced) : Cal P w K mg base "replaced" ["values", "index", "value"] 1 (spRepl K) := by
  refine D.ok sc_replaced (fun _ _ _ _ _ _ us hl => match us, hl with | [_, _, _], _ => rfl) (fun vs H Q E h => ?_) (fun f cdv A outer s0 H vs Q E hr h => ?_)
  · obtain ⟨a, L, k, v, rfl, _⟩ := h
    rfl
  obtain ⟨a, L, k, v, rfl, h2, v1, few, qn⟩ := h
  refine ⟨_, (pss_one (ps_ret (pe_op op_catA (pe_op op_catA (pe_slice sl_tup (pv 0) po_none (po_some (pv 1))) (pe_tup (pa_cons (pv 2) pa_nil))) (pe_slice sl_tup (pv 0) (po_some (pe_op op_add (pv 1) pe_int)) po_none)))), ?_⟩
  have sz4 : (4 : Nat) + 1000 ≤ sizeLine := Nat.le_of_lt (small3k (by decide))
  obtain ⟨c1, c2⟩ := cut_to v1
  obtain ⟨c3, c4⟩ := cut_from v1
  refine ⟨_, rfl, _, rfl, _, rfl, a, _, rfl, h2, c2, fun p1 np1 => ?_⟩
  rw [c1]
  have sa := Same.upd (o := .tup (nv (L.take k))) np1
  refine ⟨_, rfl, by show 1 ≤ sizeLine; decide, fun p2 np2 => ?_⟩
  have sb := sa.trans (Same.upd (o := .tup [.int (v : Int)]) np2)
  have hp1 : (upd (upd H p1 (.tup (nv (L.take k)))) p2 (.tup [.int (v : Int)])) p1 = some (.tup (nv (L.take k))) := by rw [upd_ne (ne_of_none upd_same np2), upd_same]
  refine catA_of (SqT.of hp1) (SqT.of upd_same) (by rw [nv_len, List.length_take, List.length_singleton]; omega) fun H4 p3 s4 h4 => ?_
  have sc := sb.trans s4
  refine ⟨_, rfl, _, rfl, _, _, rfl, rfl, _, rfl, a, _, rfl, sc.tup h2, c4, fun p4 np4 => ?_⟩
  rw [c3]
  have s5 := Same.upd (o := .tup (nv (L.drop (k + 1)))) np4
  refine catA_of (s5.tup h4) (SqT.of upd_same) (by rw [List.length_append, nv_len, List.length_take, List.length_singleton, nv_len, List.length_drop]; omega) fun H6 p5 s6 h6 => ?_
  rw [nv_cut _ _ _ v1] at h6
  exact qn _ p5 ((sc.trans s5).trans s6) h6
end
end K5

namespace K5
open PySem PySem.Spec PyProof.Rows L2
theorem ss_unique : ∀ {l m : List Int}, l.Pairwise (· < ·) → m.Pairwise (· < ·) → (∀ k, k ∈ l ↔ k ∈ m) → l = m
  | [], [], _, _, _ => rfl
  | [], b :: s, _, _, h => by have := (h b).mpr List.mem_cons_self; cases this
  | a :: r, [], _, _, h => by have := (h a).mp List.mem_cons_self; cases this
  | a :: r, b :: s, h1, h2, h => by
    obtain ⟨p1, p2⟩ := List.pairwise_cons.mp h1
    obtain ⟨q1, q2⟩ := List.pairwise_cons.mp h2
    have e : a = b := by
      rcases List.mem_cons.mp ((h a).mp List.mem_cons_self) with e | e
      · exact e
      · rcases List.mem_cons.mp ((h b).mpr List.mem_cons_self) with f | f
        · exact f.symm
        · have := q1 a e
          have := p1 b f
          omega
    subst e
    refine congrArg _ (ss_unique p2 q2 fun k => ⟨fun hk => ?_, fun hk => ?_⟩)
    · rcases List.mem_cons.mp ((h k).mp (List.mem_cons_of_mem _ hk)) with e | e
      · have := p1 k hk
        omega
      · exact e
    · rcases List.mem_cons.mp ((h k).mpr (List.mem_cons_of_mem _ hk)) with e | e
      · have := q1 k hk
        omega
      · exact e
theorem dIsL_shaped (l : List Nat) : SeqAt.shaped (.list (dIs l)) = true := by
  have h := dIs_depth l
  refine shaped_mk ?_ ?_
  · simp only [PyData.canLay0, dIs_lay]
  · simp only [PyData.depth]
    omega
theorem nd_sub2 : ∀ {l m : List Nat}, l.Nodup → (∀ x ∈ l, x ∈ m) → l.length ≤ m.length
  | [], _, _, _ => Nat.zero_le _
  | a :: l, m, nd, h => by
    obtain ⟨n1, n2⟩ := List.nodup_cons.mp nd
    have ha := h a List.mem_cons_self
    have z := nd_sub2 (l := l) (m := m.erase a) n2 fun x hx => by
      have := h x (List.mem_cons_of_mem _ hx)
      exact (List.mem_erase_of_ne (fun e => n1 (by rw [← e]; exact hx))).mpr this
    rw [List.length_erase_of_mem ha] at z
    have := List.length_pos_of_mem ha
    rw [List.length_cons]
    omega
/-- a change that names a door and a person -/
def ChOk (S : S2) (l : List (Nat × Nat)) : Prop := ∀ e ∈ l, e.1 < S.2.length ∧ e.2 < S.1.length
def opB (B : List Nat) (l : List (Nat × Nat)) : List Nat := l.foldl (fun b e => b.set e.1 e.2) B
theorem opB_len : ∀ {l : List (Nat × Nat)} {B : List Nat}, (opB B l).length = B.length
  | [], _ => rfl
  | e :: r, B => by
    show (opB (B.set e.1 e.2) r).length = _
    rw [opB_len, List.length_set]
def opS (S : S2) (l : List (Nat × Nat)) : S2 := (S.1, opB S.2 l)
def spOpened (K : PySem.W.Frag) : Sp := fun vs H Q _ => ∃ (s q : Addr) (S : S2) (ts : List Addr) (l : List (Nat × Nat)), vs = [.ref s, .ref q] ∧ StateAt K H s S ∧ S.2.length ≤ 1000 ∧ H q = some (.lst (ts.map V.ref)) ∧ PL2 H ts l ∧ ChOk S l ∧
  ∀ (H' : Hp) (q' : Addr), Same H H' → StateAt K H' q' (opS S l) → Q (.ref q') H'
def spIsChg (K : PySem.W.Frag) : Sp := fun vs H Q _ => ∃ (a s t : Addr) (n d p : Nat) (ds : List (Nat × Nat)) (S : S2), vs = [.ref a, .ref s, .ref t] ∧ HouseAt K H a ds ∧ StateAt K H s S ∧ S.2.length = ds.length ∧ H t = some (.tup [.int (d : Int), .int (p : Int)]) ∧ d < S.2.length ∧ p < S.1.length ∧ Q (.bl true) H
def spIsChgs (K : PySem.W.Frag) : Sp := fun vs H Q _ => ∃ (a s q : Addr) (ds : List (Nat × Nat)) (S : S2) (ts : List Addr) (l : List (Nat × Nat)), vs = [.ref a, .ref s, .ref q] ∧ HouseAt K H a ds ∧ StateAt K H s S ∧ S.2.length = ds.length ∧ S.2.length ≤ 59 ∧ H q = some (.lst (ts.map V.ref)) ∧ PL2 H ts l ∧ ChOk S l ∧
  (l.Pairwise fun x y => x.1 < y.1) ∧ ∀ H', Same H H' → Q (.bl true) H'
section
variable {P : Program} {w : World} {K : PySem.W.Frag}
      {mg : Str → Option Value} {base : Heap}
theorem ok_opened (T : Bl mg) (D : Def K mg "opened" s_opened) (C_replaced : Cal P w K mg base "replaced" ["values", "index", "value"] 1 (spRepl K)) : Cal P w K mg base "opened" ["state", "changes"] 2 (spOpened K) := by
  refine D.ok sc_opened (fun _ _ _ _ _ _ us hl => match us, hl with | [_, _], _ => rfl) (fun vs H Q E h => ?_) (fun f cdv A outer s0 H vs Q E hr h => ?_)
  · obtain ⟨s, q, S, ts, l, rfl, _⟩ := h
    rfl
  obtain ⟨s, q, S, ts, l, rfl, st, hb, hq, pl, chs, qn⟩ := h
  obtain ⟨f_replaced, fd_replaced, g_replaced, k_replaced, b_replaced, G_replaced⟩ := C_replaced
  obtain ⟨r, b, h1, h2, h3⟩ := id st
  refine ⟨_, (pss_cons (ps_asg (pv 0) (pg_tup (n := 2) rfl (pgs_cons (pg_name (i := 2) sc_opened.nd rfl (.inl rfl)) (pgs_cons (pg_name (i := 3) sc_opened.nd rfl (.inl rfl)) pgs_nil))))
    (pss_cons (ps_for PassesOwn.never rfl (pi_list (pv 1)) (pg_tup (n := 2) rfl (pgs_cons (pg_name (i := 4) sc_opened.nd rfl (.inl rfl)) (pgs_cons (pg_name (i := 5) sc_opened.nd rfl (.inl rfl)) pgs_nil)))
    (pss_one (ps_set (i := 3) sc_opened.nd rfl (.inl rfl) (pe_call G_replaced (hr.mono (by decide)) (by rfl) g_replaced k_replaced b_replaced .nil pass0 (pa_cons (pv 3) (pa_cons (pv 4) (pa_cons (pv 5) pa_nil)))))))
    (pss_one (ps_ret (pe_tup (pa_cons (pv 2) (pa_cons (pv 3) pa_nil))))))), ?_⟩
  refine ⟨_, rfl, _, _, rfl, h1, rfl, _, _, rfl, _, _, rfl, rfl, ?_⟩
  refine ⟨_, rfl, q, rfl, ⟨_, SqL.of hq⟩, ?_⟩
  refine for_it (walk_list (K := K) (a := q) (xs := ts.map V.ref)) (fun i σ H1 => ∃ (b' : Addr) (y4 y5 : Option V), σ = [some (.ref s), some (.ref q), some (.ref r), some (.ref b'), y4, y5] ∧ Same H H1 ∧ SqT K H1 b' (nv (opB S.2 (l.take i))))
    ⟨b, _, _, rfl, Same.refl _, by rw [List.take_zero]; exact h3⟩ (fun i σ H1 _ ⟨_, _, _, _, s1, _⟩ => SqL.of (s1 _ _ hq)) ?_ ?_
  · rintro i x σ H1' H1 hi ⟨b', y4, y5, rfl, s1, hb'⟩ ⟨rfl, ex⟩
    rw [List.length_map, pl.1] at hi
    obtain ⟨t, ht⟩ : ∃ t, ts[i]? = some t := get_of pl.1 hi
    obtain ⟨e, he⟩ : ∃ e, l[i]? = some e := get_of rfl hi
    have ex : (ts.map V.ref)[i]? = some x := ex
    rw [List.getElem?_map, ht] at ex
    cases ex
    have htt := s1 _ _ (pl.2 i t e ht he)
    obtain ⟨c1, c2⟩ := chs e (List.mem_of_getElem? he)
    refine ⟨t, _, rfl, SqT.of htt, rfl, _, _, rfl, _, _, rfl, rfl, ?_⟩
    refine ⟨_, rfl, _, rfl, _, rfl, b', opB S.2 (l.take i), e.1, e.2, rfl, hb', by rw [opB_len]; exact c1, by rw [opB_len]; exact hb, fun H2 b2 s2 hb2 => ?_⟩
    refine ⟨b2, _, _, rfl, s1.trans s2, ?_⟩
    have et : opB S.2 (l.take (i + 1)) = (opB S.2 (l.take i)).set e.1 e.2 := by
      rw [take_succ_get he]
      unfold opB
      rw [List.foldl_append]
      rfl
    rw [et]
    exact hb2
  · rintro σ H1 ⟨b', y4, y5, rfl, s1, hb'⟩
    rw [List.length_map, pl.1, List.take_length] at hb'
    refine ⟨_, rfl, _, rfl, by show 2 ≤ sizeLine; decide, fun t nt => ?_⟩
    have s2 := Same.upd (o := .tup [.ref r, .ref b']) nt
    exact qn _ t (s1.trans s2) ⟨r, b', SqT.of upd_same, s2.tup (s1.tup h2), s2.tup hb'⟩
theorem ok_is_change (T : Bl mg) (D : Def K mg "is_change" s_is_change) (C_is_index : Cal P w K mg base "is_index" ["value", "count"] 2 spIndex) : Cal P w K mg base "is_change" ["house", "state", "value"] 3 (spIsChg K) := by
  refine D.ok sc_is_change (fun _ _ _ _ _ _ us hl => match us, hl with | [_, _, _], _ => rfl) (fun vs H Q E h => ?_) (fun f cdv A outer s0 H vs Q E hr h => ?_)
  · obtain ⟨a, s, t, n, d, p, ds, S, rfl, _⟩ := h
    rfl
  obtain ⟨a, s, t, n, d, p, ds, S, rfl, hH, st, ld, ht, hd, hp, qn⟩ := h
  obtain ⟨f_is_index, fd_is_index, g_is_index, k_is_index, b_is_index, G_is_index⟩ := C_is_index
  obtain ⟨r, b, h1, h2, h3⟩ := id st
  obtain ⟨rs, hrs, hlen, hds⟩ := id hH
  refine ⟨_, (pss_cons (ps_if (PW.pt (pw_or (pt_not (pt_val (pe_callB call_isi (by rfl) T.isinstance (by decide +kernel) (pa_cons (pv 2) (pa_cons (pe_bltn (v := .ty "tuple") (u := .type "tuple") (by rfl) T.tuple (by decide +kernel) rfl) pa_nil))))) (pw_or1 (pt_cmpR op_ne (pe_callB call_len_seq (by rfl) T.len PySem.boot_len (pa_cons (pv 2) pa_nil)) pe_int (nomark _))))) (pss_one (ps_ret pe_bl)) pss_nil)
    (pss_one (ps_ret (pe_and (pe_call G_is_index (hr.mono (by decide)) (by rfl) g_is_index k_is_index b_is_index .nil pass0 (pa_cons (pe_ix ix_tup (pv 2) pe_int (fun _ _ => rfl)) (pa_cons (pe_callB call_len_seq (by rfl) T.len PySem.boot_len (pa_cons (pv 0) pa_nil)) pa_nil))) (pe_one (pe_call G_is_index (hr.mono (by decide)) (by rfl) g_is_index k_is_index b_is_index .nil pass0 (pa_cons (pe_ix ix_tup (pv 2) pe_int (fun _ _ => rfl)) (pa_cons (pe_callB call_len_seq (by rfl) T.len PySem.boot_len (pa_cons (pe_ix ix_tup (pv 1) pe_int (fun _ _ => rfl)) pa_nil)) pa_nil)))))))), ?_⟩
  refine ⟨_, rfl, _, _, _, _, _, rfl, .ty _, ty_tup (K := K) (SqT.of ht), kit_ty (r := true) (by decide +kernel), _, rfl, iteF ?_⟩
  refine ⟨_, rfl, _, _, rfl, .inr (SqT.of ht), rfl, _, rfl, iteF ?_⟩
  refine ⟨_, rfl, t, _, _, V.int (d : Int), rfl, rfl, SqT.of ht, atI_nat (j := 0) rfl, _, rfl, a, _, rfl, .inr hrs, _, _, rfl, _, rfl, ?_⟩
  rw [List.length_map, hlen, decide_eq_true (show (0 : Int) ≤ (d : Int) ∧ (d : Int) < (ds.length : Int) by omega)]
  refine iteT ?_
  refine ⟨_, rfl, t, _, _, V.int (p : Int), rfl, rfl, SqT.of ht, atI_nat (j := 1) rfl, _, rfl, s, _, _, V.ref r, rfl, rfl, h1, atI_nat (j := 0) rfl, r, _, rfl, .inr h2, _, _, rfl, ?_⟩
  rw [nv_len, decide_eq_true (show (0 : Int) ≤ (p : Int) ∧ (p : Int) < (S.1.length : Int) by omega)]
  exact qn
theorem ok_is_list_of_changes (T : Bl mg) (D : Def K mg "is_list_of_changes" s_is_list_of_changes) (C_is_change : Cal P w K mg base "is_change" ["house", "state", "value"] 3 (spIsChg K)) : Cal P w K mg base "is_list_of_changes" ["house", "state", "value"] 4 (spIsChgs K) := by
  refine D.ok sc_is_list_of_changes (fun _ _ _ _ _ _ us hl => match us, hl with | [_, _, _], _ => rfl) (fun vs H Q E h => ?_) (fun f cdv A outer s0 H vs Q E hr h => ?_)
  · obtain ⟨a, s, q, ds, S, ts, l, rfl, _⟩ := h
    rfl
  obtain ⟨a, s, q, ds, S, ts, l, rfl, hH, st, ld, few, hq, pl, chs, asc, qn⟩ := h
  obtain ⟨f_is_change, fd_is_change, g_is_change, k_is_change, b_is_change, G_is_change⟩ := C_is_change
  have ll : l.length ≤ 59 := by
    have nd : (l.map Prod.fst).Nodup := by
      unfold List.Nodup
      rw [List.pairwise_map]
      exact asc.imp fun z e => by omega
    have := nd_sub2 nd fun d hd => (show d ∈ List.range S.2.length by
      obtain ⟨e, he, rfl⟩ := List.mem_map.mp hd
      exact List.mem_range.mpr (chs e he).1)
    rw [List.length_map, List.length_range] at this
    omega
  refine ⟨_, (pss_cons (ps_if (PW.pt (pw_or (pt_not (pt_val (pe_callB call_isi (by rfl) T.isinstance (by decide +kernel) (pa_cons (pv 2) (pa_cons (pe_bltn (v := .ty "list") (u := .type "list") (by rfl) T.list (by decide +kernel) rfl) pa_nil))))) (pw_or1 (pt_not (pt_val (pe_callB (cr_all rfl) (by rfl) T.all (by decide +kernel) (pa_cons (pe_lc (own := [("item", 3)]) (g := gName 3)  (te := (tCall (spIsChg K) [] E0 (tCons (tVar 0) (tCons (tVar 1) (tCons (tVar 3) tNil))))) rfl sc_is_list_of_changes.nd (pi_list (pv 2)) (blkOk_by (N := N_is_list_of_changes) (sc := defScope s_is_list_of_changes) (own := [("item", 3)]) (by decide +kernel)) (fun _ _ _ _ _ => (pg_name (i := 3) sc_is_list_of_changes.nd rfl (.inl rfl) (.inr rfl))) (fun _ _ _ _ _ => pts_nil) (fun _ _ _ _ _ => (pe_call G_is_change (hr.mono (by decide)) (by rfl) g_is_change k_is_change b_is_change .nil pass0 (pa_cons (pv 0) (pa_cons (pv 1) (pa_cons (pv 3) pa_nil)))))) pa_nil))))))) (pss_one (ps_ret pe_bl)) pss_nil)
    (pss_cons (ps_setLc (i := 4) (own := [("door", 5), ("person", 6)]) (g := gTup K 2 (gCons (gName 5) (gCons (gName 6) gNil)))  rfl sc_is_list_of_changes.nd rfl rfl (sw_true rfl rfl rfl (by decide +kernel)) (pi_list (pv 2)) (blkOk_by (N := N_is_list_of_changes) (sc := defScope s_is_list_of_changes) (own := [("door", 5), ("person", 6)]) (by decide +kernel)) (fun _ _ _ _ _ => (pg_tup (n := 2) rfl (pgs_cons (pg_name (i := 5) sc_is_list_of_changes.nd rfl (.inl rfl) (.inr rfl)) (pgs_cons (pg_name (i := 6) sc_is_list_of_changes.nd rfl (.inl rfl) (.inr rfl)) pgs_nil)))) (fun _ _ _ _ _ => pts_nil) (fun _ _ _ _ _ => (pv 5)))
    (pss_one (ps_ret (pe_cmpR (op_eqD hr.units) (pv 4) (pe_sortedSet rfl (by rfl) T.sorted (by rfl) T.set (pv 4)) (nomark _)))))), ?_⟩
  refine ⟨_, rfl, _, _, _, _, _, rfl, .ty _, .base (.lst hq), kit_ty (r := true) (by decide +kernel), _, rfl, iteF ?_⟩
  refine ⟨_, rfl, q, rfl, ⟨_, SqL.of hq⟩, fun pb npb => ?_⟩
  refine lc_it (walk_list (K := K) (a := q) (xs := ts.map V.ref)) (fun i H3 => Same H H3 ∧ H3 pb = some (.lst ((List.replicate i true).map V.bl))) ⟨Same.upd npb, upd_same⟩ (fun i H3 _ h => SqL.of (h.1 _ _ hq)) ?_ ?_
  · rintro i x H3 H4 hi ⟨sm, hp⟩ ⟨rfl, ex⟩
    rw [List.length_map, pl.1] at hi
    obtain ⟨t, ht⟩ : ∃ t, ts[i]? = some t := get_of pl.1 hi
    obtain ⟨e, he⟩ : ∃ e, l[i]? = some e := get_of rfl hi
    have ex : (ts.map V.ref)[i]? = some x := ex
    rw [List.getElem?_map, ht] at ex
    cases ex
    obtain ⟨c1, c2⟩ := chs e (List.mem_of_getElem? he)
    refine ⟨rfl, lcYes ?_⟩
    refine ⟨_, rfl, _, rfl, _, rfl, a, s, t, 0, e.1, e.2, ds, S, rfl, hH.same sm, st.same sm, ld, sm _ _ (pl.2 i t e ht he), c1, c2, ?_⟩
    refine ⟨_, hp, by rw [List.length_map, List.length_replicate]; exact small1000 (by omega), sm.at npb, ?_⟩
    rw [upd_same, List.replicate_succ', List.map_append]
    rfl
  rintro H3 ⟨s3, hpb⟩
  rw [List.length_map] at hpb
  refine ⟨pb, List.replicate ts.length true, rfl, SqL.of hpb, ?_⟩
  rw [show (List.replicate ts.length true).all id = true by simp]
  refine ⟨_, rfl, iteF ?_⟩
  -- doors
  have hq3 := s3 _ _ hq
  refine ⟨_, rfl, q, rfl, ⟨_, SqL.of hq3⟩, fun pd npd => ?_⟩
  refine lc_it (walk_list (K := K) (a := q) (xs := ts.map V.ref)) (fun i H4 => Same H3 H4 ∧ H4 pd = some (.lst (nv ((l.take i).map Prod.fst)))) ⟨Same.upd npd, upd_same⟩ (fun i H4 _ h => SqL.of (h.1 _ _ hq3)) ?_ ?_
  · rintro i x H4 H5 hi ⟨sm, hp⟩ ⟨rfl, ex⟩
    rw [List.length_map, pl.1] at hi
    obtain ⟨t, ht⟩ : ∃ t, ts[i]? = some t := get_of pl.1 hi
    obtain ⟨e, he⟩ : ∃ e, l[i]? = some e := get_of rfl hi
    have ex : (ts.map V.ref)[i]? = some x := ex
    rw [List.getElem?_map, ht] at ex
    cases ex
    have htt := sm _ _ (s3 _ _ (pl.2 i t e ht he))
    refine ⟨t, _, rfl, SqT.of htt, rfl, _, _, rfl, _, _, rfl, rfl, rfl, lcYes ?_⟩
    refine ⟨_, rfl, _, hp, by rw [nv_len, List.length_map, List.length_take]; exact small1000 (by omega), sm.at npd, ?_⟩
    rw [upd_same, take_succ_get he, List.map_append, List.map_singleton, nv_snoc]
  rintro H4 ⟨s4, hpd⟩
  rw [List.length_map, pl.1, List.take_length] at hpd
  have asI : ∀ L : List Nat, nv L = (L.map fun (x : Nat) => (x : Int)).map V.int := fun L => by unfold nv; rw [List.map_map]; rfl
  refine ⟨_, rfl, _, rfl, pd, ((l.map Prod.fst).map fun (x : Nat) => (x : Int)), rfl, SqL.of (by rw [← asI]; exact hpd), by rw [List.length_map, List.length_map]; omega, fun ms px pw mem npx => ?_⟩
  have ems : ms = (l.map Prod.fst).map fun (x : Nat) => (x : Int) := by
    refine ss_unique pw ?_ mem
    rw [List.pairwise_map, List.pairwise_map]
    exact asc.imp fun h => by omega
  subst ems
  rw [← asI]
  have sx := Same.upd (o := .lst (nv (l.map Prod.fst))) npx
  refine ⟨.list (dIs (l.map Prod.fst)), .list (dIs (l.map Prod.fst)), .lst (SqL.of (sx _ _ hpd)) (dp_is _), .lst (SqL.of upd_same) (dp_is _), dIsL_shaped _, dIsL_shaped _, ?_⟩
  rw [d_refl (dIsL_shaped _)]
  exact qn _ ((s3.trans s4).trans sx)
end
end K5

namespace K5
open PySem PySem.Spec PyProof.Rows L2
theorem take_while_ok {p : Nat → Bool} : ∀ {w : List Nat} {e : Nat}, e ∈ w.take (w.takeWhile p).length → p e = true
  | [], e, h => by simp at h
  | a :: w, e, h => by
    by_cases c : p a = true
    · rw [List.takeWhile_cons_of_pos c, List.length_cons, List.take_succ_cons] at h
      rcases List.mem_cons.mp h with rfl | h
      · exact c
      · exact take_while_ok h
    · rw [List.takeWhile_cons_of_neg c] at h
      simp at h
theorem take_while_len {p : Nat → Bool} : ∀ {w : List Nat}, (w.takeWhile p).length ≤ w.length
  | [] => Nat.le_refl _
  | a :: w => by
    by_cases c : p a = true
    · rw [List.takeWhile_cons_of_pos c, List.length_cons, List.length_cons]
      exact Nat.succ_le_succ take_while_len
    · rw [List.takeWhile_cons_of_neg c]
      exact Nat.zero_le _
theorem meet_good {n : Nat} {ds : List (Nat × Nat)} (T : Tree n ds) {S : S2} (o : StOk n ds S) {m : Meet} (h : m ∈ meetsF ds S S.1.length) : MeetOk ds S m := by
  have hm := mem_meets h
  unfold meetsF at h
  obtain ⟨i, hi, h⟩ := List.mem_flatMap.mp h
  unfold rowF at h
  obtain ⟨j, hj, h⟩ := List.mem_filterMap.mp h
  rw [List.mem_range'_1] at hj
  rw [List.mem_range] at hi
  obtain ⟨e1, e2⟩ := meet_ij h
  obtain ⟨x, hx⟩ : ∃ x, S.1[i]? = some x := get_of rfl hi
  obtain ⟨y, hy⟩ : ∃ y, S.1[j]? = some y := get_of rfl (by omega)
  have xn := o.rooms x (List.mem_of_getElem? hx)
  have yn := o.rooms y (List.mem_of_getElem? hy)
  obtain ⟨w, W⟩ := walk_of T xn yn
  obtain ⟨w', W', nd, _⟩ := short W
  unfold meetF at h
  simp only [getD_of hx, getD_of hy, way_is T W' nd] at h
  split at h
  · rename_i g
    cases h
    exact ⟨by show i < j; omega, by show j < _; omega, ⟨x, y, hx, hy, W'⟩, nd, take_while_len, fun e he => of_decide_eq_true (take_while_ok (p := fun e => decide (S.2[e]? ≠ some i)) he), g⟩
  · cases h
theorem cls_nil {S : S2} {i j : Nat} {A B : List Mv} : clsF S i j A B = [] ↔ (∀ m ∈ A, S.2[m.1]? ≠ some i) ∧ ∀ m ∈ B, S.2[m.1]? ≠ some j := by
  unfold clsF
  rw [List.append_eq_nil_iff, List.map_eq_nil_iff, List.map_eq_nil_iff, List.filter_eq_nil_iff, List.filter_eq_nil_iff]
  simp
theorem mem_fst {A : List Mv} {m : Mv} (h : m ∈ A) : m.1 ∈ A.map Prod.fst := List.mem_map.mpr ⟨m, h, rfl⟩
/-- a meeting is an encounter where nothing bars -/
theorem cand_of_meet {n : Nat} {ds : List (Nat × Nat)} (T : Tree n ds) {S : S2} (o : StOk n ds S) {m : Meet} (h : m ∈ meetsF ds S S.1.length) : ∃ c ∈ cands ds S, c.A.length + c.B.length = m.w.length := by
  have g := meet_good T o h
  obtain ⟨x, y, hx, hy, W⟩ := g.way
  have xn := o.rooms x (List.mem_of_getElem? hx)
  have yn := o.rooms y (List.mem_of_getElem? hy)
  obtain ⟨t1, n1⟩ := trF_spec T xn yn
  obtain ⟨t2, n2⟩ := trF_spec T yn xn
  have e1 : (trF ds x y).map Prod.fst = m.w := way_unique T t1.walk W n1 g.nd
  have e2 : (trF ds y x).map Prod.fst = m.w.reverse := way_unique T t2.walk W.rev n2 (List.pairwise_reverse.mpr (g.nd.imp Ne.symm))
  have l1 : (trF ds x y).length = m.w.length := by rw [← e1, List.length_map]
  have l2 : (trF ds y x).length = m.w.length := by have z := congrArg List.length e2; rw [List.length_map, List.length_reverse] at z; exact z
  have kl := g.kl
  refine ⟨encOf ds S m.i m.j m.k, List.mem_filter.mpr ⟨mem_encs.mpr ⟨m.i, m.j, m.k, g.ij, g.jl, by rw [getD_of hx, getD_of hy]; omega, rfl⟩, decide_eq_true (cls_nil.mpr ⟨fun a ha => ?_, fun a ha => ?_⟩)⟩, ?_⟩
  · have z := mem_fst ha
    unfold encOf at z
    simp only [getD_of hx, getD_of hy, List.map_take, e1] at z
    exact g.fst _ z
  · have z := mem_fst ha
    unfold encOf at z
    simp only [getD_of hx, getD_of hy, List.map_take, e2, l1] at z
    rw [List.take_reverse, List.mem_reverse, show m.w.length - (m.w.length - m.k) = m.k by omega] at z
    exact g.snd _ z
  · unfold encOf
    simp only [getD_of hx, getD_of hy, List.length_take]
    omega
theorem trl_take {ds : List (Nat × Nat)} : ∀ {tr : List Mv} {k x y : Nat}, Trl ds x tr y → ∃ z, Trl ds x (tr.take k) z ∧ Trl ds z (tr.drop k) y
  | tr, 0, x, y, t => ⟨x, rfl, t⟩
  | [], k + 1, x, y, t => ⟨x, rfl, t⟩
  | m :: r, k + 1, x, y, t => by
    obtain ⟨t1, t2, t3⟩ := t
    obtain ⟨z, z1, z2⟩ := trl_take (k := k) t3
    exact ⟨z, ⟨t1, t2, z1⟩, z2⟩
theorem walk_ends {ds : List (Nat × Nat)} {a b : Nat} {w : List Nat} (W : Walk ds a w b) : ∀ {c : Nat}, Walk ds a w c → b = c := by
  induction W with
  | nil a =>
    intro c V
    cases V
    rfl
  | cons j _ ih =>
    intro c V
    cases V with
    | cons j' V' =>
      have e := (far_is j).symm.trans (far_is j')
      subst e
      exact ih V'
/-- both come to one room -/
theorem cand_room {n : Nat} {ds : List (Nat × Nat)} (T : Tree n ds) {S : S2} (o : StOk n ds S) {c : Enc} (h : c ∈ cands ds S) : ∃ x y z w, S.1[c.i]? = some x ∧ S.1[c.j]? = some y ∧ Rg ds S c.i z ∧ Rg ds S c.j z ∧ c.i < c.j ∧ Walk ds x w y ∧ w.Nodup ∧ w.length = c.A.length + c.B.length := by
  obtain ⟨h1, h2⟩ := List.mem_filter.mp h
  obtain ⟨f1, f2⟩ := cls_nil.mp (of_decide_eq_true h2)
  have g := encs_ok T o h1
  obtain ⟨x, y, k, tr, tr', hx, hy, t1, n1, t2, e2, l2, hk, eA, eB⟩ := g.way
  obtain ⟨z, z1, z2⟩ := trl_take (k := k) t1
  obtain ⟨z', y1, y2⟩ := trl_take (k := tr.length - k) t2
  have ez : z' = z := by
    have v := z2.walk.rev
    have u := y1.walk
    have e : (tr'.take (tr.length - k)).map Prod.fst = ((tr.drop k).map Prod.fst).reverse := by
      rw [List.map_take, e2, List.take_reverse, List.length_map, show tr.length - (tr.length - k) = k by omega, List.map_drop]
    rw [e] at u
    exact walk_ends u v
  subst ez
  refine ⟨x, y, z', tr.map Prod.fst, hx, hy, ⟨x, _, hx, z1.walk, fun e he => ?_⟩, ⟨y, _, hy, y1.walk, fun e he => ?_⟩, g.ij, t1.walk, n1, ?_⟩
  · rw [← eA] at he
    obtain ⟨m, hm, rfl⟩ := List.mem_map.mp he
    exact f1 m hm
  · rw [← eB] at he
    obtain ⟨m, hm, rfl⟩ := List.mem_map.mp he
    exact f2 m hm
  · rw [eA, eB, List.length_map, List.length_take, List.length_take]
    omega
theorem cands_apt {n : Nat} {ds : List (Nat × Nat)} (T : Tree n ds) {S : S2} (o : StOk n ds S) : cands ds S = [] ↔ Apt ds S := by
  constructor
  · intro e
    refine Classical.byContradiction fun c => ?_
    obtain ⟨i, j, r, ij, ri, rj⟩ := not_apt c
    obtain ⟨x, w1, hx, _⟩ := id ri
    obtain ⟨y, w2, hy, _⟩ := id rj
    obtain ⟨w, W⟩ := walk_of T (o.rooms x (List.mem_of_getElem? hx)) (o.rooms y (List.mem_of_getElem? hy))
    obtain ⟨w', W', nd, _⟩ := short W
    obtain ⟨m, hm, _⟩ := meets_all T o ij hx hy ri rj W' nd
    obtain ⟨c, hc, _⟩ := cand_of_meet T o hm
    rw [e] at hc
    exact (List.not_mem_nil hc).elim
  · intro a
    refine List.eq_nil_iff_forall_not_mem.mpr fun c hc => ?_
    obtain ⟨x, y, z, w, _, _, r1, r2, ij, _⟩ := cand_room T o hc
    have := a c.i c.j z r1 r2
    omega
theorem meet_of_cand {n : Nat} {ds : List (Nat × Nat)} (T : Tree n ds) {S : S2} (o : StOk n ds S) {c : Enc} (h : c ∈ cands ds S) : ∃ m ∈ meetsF ds S S.1.length, m.w.length = c.A.length + c.B.length := by
  obtain ⟨x, y, z, w, hx, hy, r1, r2, ij, W, nd, e⟩ := cand_room T o h
  obtain ⟨m, hm, ew⟩ := meets_all T o ij hx hy r1 r2 W nd
  exact ⟨m, hm, by rw [ew, e]⟩
end K5

namespace K5
open PySem PySem.Spec PyProof.Rows L2
theorem opB_rooms {n : Nat} {ds : List (Nat × Nat)} {S : S2} {l : List (Nat × Nat)} (o : StOk n ds S) (c : ChOk S l) : StOk n ds (opS S l) := by
  refine ⟨o.one, o.few, o.rooms, by show (opB S.2 l).length = _; rw [opB_len]; exact o.doors, ?_⟩
  have all : ∀ (l : List (Nat × Nat)) (B : List Nat), (∀ e ∈ l, e.2 < S.1.length) → (∀ y ∈ B, y < S.1.length) → ∀ y ∈ opB B l, y < S.1.length := by
    intro l
    induction l with
    | nil => exact fun B _ h => h
    | cons e r ih =>
      intro B hl hB
      refine ih (B.set e.1 e.2) (fun x hx => hl x (List.mem_cons_of_mem _ hx)) fun y hy => ?_
      rcases List.mem_or_eq_of_mem_set hy with z | z
      · exact hB y z
      · rw [z]; exact hl e List.mem_cons_self
  exact all l S.2 (fun e he => (c e he).2) o.bars
/-- what is told of a number and its changes -/
def FaultO (ds : List (Nat × Nat)) (S : S2) (N : Nat) (l : List (Nat × Nat)) (H : Hp) (Q : VK) : Prop :=
  (∀ pre e post, l = pre ++ e :: post → (∀ x ∈ pre, S.2[x.1]? ≠ some x.2) → S.2[e.1]? = some e.2 → ∀ (H' : Hp) (t : Addr), Same H H' → H' t = some (.tup [.str "same", .int (e.1 : Int)]) → Q (.ref t) H') ∧
  ((∀ x ∈ l, S.2[x.1]? ≠ some x.2) → Apt ds (opS S l) → ∀ (H' : Hp) (t : Addr), Same H H' → H' t = some (.tup [.str "apart"]) → Q (.ref t) H') ∧
  ((∀ x ∈ l, S.2[x.1]? ≠ some x.2) → ¬ Apt ds (opS S l) → N ≠ l.length → ∀ (H' : Hp) (t : Addr), Same H H' → H' t = some (.tup [.str "number"]) → Q (.ref t) H') ∧
  ((∀ x ∈ l, S.2[x.1]? ≠ some x.2) → ¬ Apt ds (opS S l) → ∀ c, LeastO ds S c → N ≠ (c.cl S).length → ∀ (H' : Hp) (t : Addr), Same H H' → H' t = some (.tup [.str "number"]) → Q (.ref t) H') ∧
  ((∀ x ∈ l, S.2[x.1]? ≠ some x.2) → ¬ Apt ds (opS S l) → ∀ c, LeastO ds S c → N = l.length → N = (c.cl S).length → ∀ H', Same H H' → Q .non H')
theorem FaultO.same {ds : List (Nat × Nat)} {S : S2} {N : Nat} {l : List (Nat × Nat)} {H H1 : Hp} {Q : VK} (h : FaultO ds S N l H Q) (s : Same H H1) : FaultO ds S N l H1 Q := ⟨fun a b c d e f H' t s' => h.1 a b c d e f H' t (s.trans s'), fun a b H' t s' => h.2.1 a b H' t (s.trans s'), fun a b c H' t s' => h.2.2.1 a b c H' t (s.trans s'), fun a b c d e H' t s' => h.2.2.2.1 a b c d e H' t (s.trans s'), fun a b c d e f H' s' => h.2.2.2.2 a b c d e f H' (s.trans s')⟩
theorem opS_nil {S : S2} : opS S [] = S := rfl
def spFaultO (K : PySem.W.Frag) : Sp := fun vs H Q _ => ∃ (a s q : Addr) (n N : Nat) (ds : List (Nat × Nat)) (S : S2) (ts : List Addr) (l : List (Nat × Nat)), vs = [.ref a, .ref s, .int (N : Int), .ref q] ∧ HouseAt K H a ds ∧ Tree n ds ∧ n ≤ 60 ∧ StateAt K H s S ∧ StOk n ds S ∧ 2 ≤ S.1.length ∧
  H q = some (.lst (ts.map V.ref)) ∧ PL2 H ts l ∧ ChOk S l ∧ FaultO ds S N l H Q
def spCheckO (K : PySem.W.Frag) : Sp := fun vs H Q _ => ∃ (a s : Addr) (v : V) (n : Nat) (ds : List (Nat × Nat)) (S : S2), vs = [.ref a, .ref s, v] ∧ HouseAt K H a ds ∧ Tree n ds ∧ n ≤ 60 ∧ StateAt K H s S ∧ StOk n ds S ∧
  ((v = .non ∧ (S.1.length = 1 → ∀ H', Same H H' → Q .non H') ∧ (2 ≤ S.1.length → ∀ (H' : Hp) (t : Addr), Same H H' → H' t = some (.tup [.str "people"]) → Q (.ref t) H')) ∨
   ∃ (t q : Addr) (N : Nat) (ts : List Addr) (l : List (Nat × Nat)), v = .ref t ∧ H t = some (.tup [.int (N : Int), .ref q]) ∧ H q = some (.lst (ts.map V.ref)) ∧ PL2 H ts l ∧ ChOk S l ∧ (l.Pairwise fun x y => x.1 < y.1) ∧
     (S.1.length = 1 → ∀ (H' : Hp) (t : Addr), Same H H' → H' t = some (.tup [.str "people"]) → Q (.ref t) H') ∧ (2 ≤ S.1.length → FaultO ds S N l H Q))
def spNum (K : PySem.W.Frag) : Sp := fun vs H Q _ => ∃ (t : Addr) (k : Nat) (y : V), vs = [.ref t] ∧ H t = some (.tup [.int (k : Int), y]) ∧ Q (.bl true) H
section
variable {P : Program} {w : World} {K : PySem.W.Frag} {mg : Str → Option Value} {base : Heap} {C_Encounter : Addr}
theorem ok_is_numbered (T : Bl mg) (D : Def K mg "is_numbered" s_is_numbered) (C_is_whole : Cal P w K mg base "is_whole" ["value"] 1 spWhole) : Cal P w K mg base "is_numbered" ["value"] 2 (spNum K) := by
  refine D.ok sc_is_numbered (fun _ _ _ _ _ _ us hl => match us, hl with | [_], _ => rfl) (fun vs H Q E h => ?_) (fun f cdv A outer s0 H vs Q E hr h => ?_)
  · obtain ⟨t, k, y, rfl, _⟩ := h
    rfl
  obtain ⟨t, k, y, rfl, ht, qn⟩ := h
  obtain ⟨f_is_whole, fd_is_whole, g_is_whole, k_is_whole, b_is_whole, G_is_whole⟩ := C_is_whole
  refine ⟨_, (pss_one (ps_ret (pe_and (pe_callB call_isi (by rfl) T.isinstance (by decide +kernel) (pa_cons (pv 0) (pa_cons (pe_bltn (v := .ty "tuple") (u := .type "tuple") (by rfl) T.tuple (by decide +kernel) rfl) pa_nil))) (pe_and (pe_cmpR op_eq (pe_callB call_len_seq (by rfl) T.len PySem.boot_len (pa_cons (pv 0) pa_nil)) pe_int (nomark _)) (pe_and (pe_call G_is_whole (hr.mono (by decide)) (by rfl) g_is_whole k_is_whole b_is_whole .nil pass0 (pa_cons (pe_ix ix_tup (pv 0) pe_int (fun _ _ => rfl)) pa_nil)) (pe_one (pe_cmpR op_ge (pe_ix ix_tup (pv 0) pe_int (fun _ _ => rfl)) pe_int (nomark _)))))))), ?_⟩
  refine ⟨_, rfl, _, _, _, _, _, rfl, .ty _, ty_tup (SqT.of ht), kit_ty (r := true) (by decide +kernel), _, rfl, iteT ?_⟩
  refine ⟨_, rfl, _, _, rfl, .inr (SqT.of ht), rfl, _, rfl, iteT' rfl ?_⟩
  refine ⟨_, rfl, t, _, _, _, rfl, rfl, SqT.of ht, atI_nat (j := 0) rfl, _, rfl, _, rfl, iteT ?_⟩
  refine ⟨_, rfl, t, _, _, _, rfl, rfl, SqT.of ht, atI_nat (j := 0) rfl, _, _, rfl, rfl, ?_⟩
  show Q (.bl (decide ((0 : Int) ≤ (k : Int)))) H
  rw [decide_eq_true (by omega : (0 : Int) ≤ (k : Int))]
  exact qn
theorem ok_openings_fault (T : Bl mg) (D : Def K mg "openings_fault" s_openings_fault) (C_opened : Cal P w K mg base "opened" ["state", "changes"] 2 (spOpened K)) (C_is_apart : Cal P w K mg base "is_apart" ["house", "state"] 8 (spApart K)) (C_fewest_openings : Cal P w K mg base "fewest_openings" ["house", "state"] 8 (spFew K C_Encounter)) :
    Cal P w K mg base "openings_fault" ["house", "state", "number", "changes"] 9 (spFaultO K) := by
  refine D.ok sc_openings_fault (fun _ _ _ _ _ _ us hl => match us, hl with | [_, _, _, _], _ => rfl) (fun vs H Q E h => ?_) (fun f cdv A outer s0 H vs Q E hr h => ?_)
  · obtain ⟨a, s, q, n, N, ds, S, ts, l, rfl, _⟩ := h
    rfl
  obtain ⟨a, s, q, n, N, ds, S, ts, l, rfl, hH, tree, hn, st, ok, two, hq, pl, chs, f1, f2, f3, f4, f5⟩ := h
  obtain ⟨f_is_apart, fd_is_apart, g_is_apart, k_is_apart, b_is_apart, G_is_apart⟩ := C_is_apart
  obtain ⟨f_opened, fd_opened, g_opened, k_opened, b_opened, G_opened⟩ := C_opened
  obtain ⟨f_fewest_openings, fd_fewest_openings, g_fewest_openings, k_fewest_openings, b_fewest_openings, G_fewest_openings⟩ := C_fewest_openings
  obtain ⟨r, b, h1, h2, h3⟩ := id st
  have hdn := tree.len
  have one1 : (1 : Nat) ≤ sizeLine := by decide
  refine ⟨_, (pss_cons (ps_for PassesOwn.never rfl (pi_list (pv 3)) (pg_tup (n := 2) rfl (pgs_cons (pg_name (i := 4) sc_openings_fault.nd rfl (.inl rfl)) (pgs_cons (pg_name (i := 5) sc_openings_fault.nd rfl (.inl rfl)) pgs_nil)))
    (pss_one (ps_if (pt_cmpR op_eq (pe_ix ix_tup (pe_ix ix_tup (pv 1) pe_int (fun _ _ => rfl)) (pv 4) (fun _ _ => rfl)) (pv 5) (nomark _)) (pss_one (ps_ret (pe_tup (pa_cons pe_str (pa_cons (pv 4) pa_nil))))) pss_nil)))
    (pss_cons (ps_if (pt_val (pe_call G_is_apart (hr.mono (by decide)) (by rfl) g_is_apart k_is_apart b_is_apart .nil pass0 (pa_cons (pv 0) (pa_cons (pe_call G_opened (hr.mono (by decide)) (by rfl) g_opened k_opened b_opened .nil pass0 (pa_cons (pv 1) (pa_cons (pv 3) pa_nil))) pa_nil)))) (pss_one (ps_ret (pe_tup (pa_cons pe_str pa_nil)))) pss_nil)
    (pss_cons (ps_if (PW.pt (pw_or (pt_cmpR op_ne (pv 2) (pe_callB call_len_seq (by rfl) T.len PySem.boot_len (pa_cons (pv 3) pa_nil)) (nomark _)) (pw_or1 (pt_cmpR op_ne (pv 2) (pe_ix ix_tup (pe_call G_fewest_openings (hr.mono (by decide)) (by rfl) g_fewest_openings k_fewest_openings b_fewest_openings .nil pass0 (pa_cons (pv 0) (pa_cons (pv 1) pa_nil))) pe_int (fun _ _ => rfl)) (nomark _))))) (pss_one (ps_ret (pe_tup (pa_cons pe_str pa_nil)))) pss_nil)
    (pss_one (ps_ret pe_non))))), ?_⟩
  refine ⟨_, rfl, q, rfl, ⟨_, SqL.of hq⟩, ?_⟩
  refine for_it (walk_list (K := K) (a := q) (xs := ts.map V.ref)) (fun i σ H1 => ∃ (y4 y5 : Option V), σ = [some (.ref a), some (.ref s), some (.int (N : Int)), some (.ref q), y4, y5] ∧ Same H H1 ∧ ∀ x ∈ l.take i, S.2[x.1]? ≠ some x.2)
    ⟨_, _, rfl, Same.refl _, fun x h => by simp at h⟩ (fun i σ H1 _ ⟨_, _, _, s1, _⟩ => SqL.of (s1 _ _ hq)) ?_ ?_
  · rintro i x σ H1' H1 hi ⟨y4, y5, rfl, s1, no⟩ ⟨rfl, ex⟩
    rw [List.length_map, pl.1] at hi
    obtain ⟨t, ht⟩ : ∃ t, ts[i]? = some t := get_of pl.1 hi
    obtain ⟨e, he⟩ : ∃ e, l[i]? = some e := get_of rfl hi
    have ex : (ts.map V.ref)[i]? = some x := ex
    rw [List.getElem?_map, ht] at ex
    cases ex
    have htt := s1 _ _ (pl.2 i t e ht he)
    obtain ⟨c1, c2⟩ := chs e (List.mem_of_getElem? he)
    obtain ⟨bd, hbd⟩ : ∃ y, S.2[e.1]? = some y := get_of rfl c1
    refine ⟨t, _, rfl, SqT.of htt, rfl, _, _, rfl, _, _, rfl, rfl, ?_⟩
    refine ⟨_, rfl, s, _, _, V.ref b, rfl, rfl, s1.tup h1, atI_nat (j := 1) rfl, _, rfl, b, _, _, V.int (bd : Int), rfl, rfl, s1.tup h3, nv_at hbd, _, rfl, rfl, _, rfl, ?_⟩
    by_cases c : bd = e.2
    · refine iteT' (by rw [c]; simp) ?_
      refine ⟨_, rfl, by show 2 ≤ sizeLine; decide, fun t2 nt2 => ?_⟩
      have el : l = l.take i ++ e :: l.drop (i + 1) := by
        have hlt := get_lt he
        have e1 : l[i] = e := by rw [List.getElem?_eq_getElem hlt] at he; exact Option.some.inj he
        rw [← e1, ← List.drop_eq_getElem_cons hlt, List.take_append_drop]
      exact f1 (l.take i) e (l.drop (i + 1)) el no (by rw [hbd, c]) _ t2 (s1.trans (Same.upd nt2)) upd_same
    · refine iteF' (decide_eq_false fun z => c (by have := V.int.inj z; omega)) ?_
      refine ⟨_, _, rfl, s1, fun x hx => ?_⟩
      rw [take_succ_get he] at hx
      rcases List.mem_append.mp hx with hx | hx
      · exact no x hx
      · rw [List.mem_singleton.mp hx, hbd]
        intro z
        exact c (Option.some.inj z)
  rintro σ H1 ⟨y4, y5, rfl, s1, no⟩
  rw [List.length_map, pl.1, List.take_length] at no
  have hdl := ok.doors
  refine ⟨_, rfl, _, rfl, _, rfl, s, q, S, ts, l, rfl, st.same s1, by omega, s1 _ _ hq, pl.same s1, chs, fun H2 q' s2 st2 => ?_⟩
  have s12 := s1.trans s2
  refine ⟨a, q', n, ds, opS S l, rfl, hH.same s12, tree, hn, st2, opB_rooms ok chs, fun H3 Ls s3 rg => ?_⟩
  have ap := rg.toL.apt
  have s13 := s12.trans s3
  refine ⟨_, rfl, ?_⟩
  by_cases apt : Apt ds (opS S l)
  · refine iteT' (decide_eq_true (ap.mpr apt)) ?_
    exact ⟨one1, fun t nt => f2 no apt _ t (s13.trans (Same.upd nt)) upd_same⟩
  refine iteF' (decide_eq_false fun z => apt (ap.mp z)) ?_
  have hq3 := s13 _ _ hq
  refine ⟨_, rfl, _, rfl, q, _, rfl, .inl (SqL.of hq3), rfl, _, rfl, ?_⟩
  rw [List.length_map, pl.1]
  by_cases cN : N = l.length
  rotate_left
  · refine iteT' (by rw [decide_eq_false (show ¬ V.int (N : Int) = V.int (l.length : Int) from fun z => cN (by have := V.int.inj z; omega))]; rfl) ?_
    exact ⟨one1, fun t nt => f3 no apt cN _ t (s13.trans (Same.upd nt)) upd_same⟩
  refine iteF' (by rw [cN]; simp) ?_
  refine ⟨_, rfl, _, rfl, _, rfl, a, s, n, ds, S, rfl, hH.same s13, tree, hn, st.same s13, ok, fun z => by omega, fun _ H4 t4 q4 ts4 c so s4 ht4 nq4 hq4 pl4 => ?_⟩
  have s14 := s13.trans s4
  refine ⟨t4, _, _, V.int ((c.cl S).length : Int), rfl, rfl, SqT.of ht4, atI_nat (j := 0) rfl, rfl, _, rfl, ?_⟩
  by_cases cM : N = (c.cl S).length
  · refine iteF' (by rw [cM]; simp) ?_
    exact f5 no apt c so cN cM H4 s14
  · refine iteT' (by rw [decide_eq_false (show ¬ V.int (N : Int) = V.int ((c.cl S).length : Int) from fun z => cM (by have := V.int.inj z; omega))]; rfl) ?_
    exact ⟨one1, fun t nt => f4 no apt c so cM _ t (s14.trans (Same.upd nt)) upd_same⟩
theorem ok_check_openings (T : Bl mg) (D : Def K mg "check_openings" s_check_openings) (C_need_state : Cal P w K mg base "need_state" ["house", "state"] 7 (spSt K)) (C_is_list_of_changes : Cal P w K mg base "is_list_of_changes" ["house", "state", "value"] 4 (spIsChgs K)) (C_is_numbered : Cal P w K mg base "is_numbered" ["value"] 2 (spNum K))
    (C_openings_fault : Cal P w K mg base "openings_fault" ["house", "state", "number", "changes"] 9 (spFaultO K)) : CalK P w K mg base "check_openings" ["house", "state", "claim"] 10 (spCheckO K) ["claim", "state", "house"] rev3 rev3 := by
  refine D.okK sc_check_openings (fun _ _ _ _ _ _ us ws hl => match us, ws, hl with | [], [_, _, _], _ => rfl) rev3_vals (fun _ _ _ _ _ _ us hl => match us, hl with | [_, _, _], _ => rfl) (fun vs H Q E h => ?_) (fun f cdv A outer s0 H vs Q E hr h => ?_)
  · obtain ⟨a, s, v, n, ds, S, rfl, _⟩ := h
    rfl
  obtain ⟨a, s, v, n, ds, S, rfl, hH, tree, hn, st, ok, fa⟩ := h
  obtain ⟨f_need_state, fd_need_state, g_need_state, k_need_state, b_need_state, G_need_state⟩ := C_need_state
  obtain ⟨f_is_list_of_changes, fd_is_list_of_changes, g_is_list_of_changes, k_is_list_of_changes, b_is_list_of_changes, G_is_list_of_changes⟩ := C_is_list_of_changes
  obtain ⟨f_is_numbered, fd_is_numbered, g_is_numbered, k_is_numbered, b_is_numbered, G_is_numbered⟩ := C_is_numbered
  obtain ⟨f_openings_fault, fd_openings_fault, g_openings_fault, k_openings_fault, b_openings_fault, G_openings_fault⟩ := C_openings_fault
  have hdn := tree.len
  have one1 : (1 : Nat) ≤ sizeLine := by decide
  have pos := ok.one
  refine ⟨_, (pss_cons (ps_expr (pe_call G_need_state (hr.mono (by decide)) (by rfl) g_need_state k_need_state b_need_state .nil pass0 (pa_cons (pv 0) (pa_cons (pv 1) pa_nil))))
    (pss_cons (ps_if (PW.pt (pw_and (pt_cmpR op_notN (pv 2) pe_non (nomark _)) (pw_and1 (pt_not (PW.pt (pw_and (pt_val (pe_call G_is_numbered (hr.mono (by decide)) (by rfl) g_is_numbered k_is_numbered b_is_numbered .nil pass0 (pa_cons (pv 2) pa_nil))) (pw_and1 (pt_val (pe_call G_is_list_of_changes (hr.mono (by decide)) (by rfl) g_is_list_of_changes k_is_list_of_changes b_is_list_of_changes .nil pass0 (pa_cons (pv 0) (pa_cons (pv 1) (pa_cons (pe_ix ix_tup (pv 2) pe_int (fun _ _ => rfl)) pa_nil)))))))))))) (pss_one (ps_ret (pe_tup (pa_cons pe_str pa_nil)))) pss_nil)
    (pss_cons (ps_if (pt_cmpR op_ne (pe_cmpR op_isN (pv 2) pe_non (nomark _)) (pe_cmpR op_eq (pe_callB call_len_seq (by rfl) T.len PySem.boot_len (pa_cons (pe_ix ix_tup (pv 1) pe_int (fun _ _ => rfl)) pa_nil)) pe_int (nomark _)) (nomark _)) (pss_one (ps_ret (pe_tup (pa_cons pe_str pa_nil)))) pss_nil)
    (pss_cons (ps_if (pt_cmpR op_isN (pv 2) pe_non (nomark _)) (pss_one (ps_ret pe_non)) pss_nil)
    (pss_one (ps_ret (pe_call G_openings_fault (hr.mono (by decide)) (by rfl) g_openings_fault k_openings_fault b_openings_fault .nil pass0 (pa_cons (pv 0) (pa_cons (pv 1) (pa_cons (pe_ix ix_tup (pv 2) pe_int (fun _ _ => rfl)) (pa_cons (pe_ix ix_tup (pv 2) pe_int (fun _ _ => rfl)) pa_nil))))))))))), ?_⟩
  refine ⟨_, rfl, _, rfl, a, s, ds, n, S, rfl, hH, tree, by omega, st, ok, fun H1 s1 => ?_⟩
  obtain ⟨r, b, h1, h2, h3⟩ := st.same s1
  rcases fa with ⟨rfl, q1, q2⟩ | ⟨t, q, N, ts, l, rfl, ht, hq, pl, chs, asc, q1, q2⟩
  · refine ⟨_, rfl, rfl, _, rfl, iteF' (by simp) ?_⟩
    refine iteF ?_
    refine ⟨_, rfl, rfl, _, rfl, s, _, _, V.ref r, rfl, rfl, h1, atI_nat (j := 0) rfl, r, _, rfl, .inr h2, rfl, rfl, _, rfl, ?_⟩
    rw [nv_len]
    by_cases one : S.1.length = 1
    · refine iteF' (by rw [one]; simp) ?_
      refine ⟨_, rfl, rfl, _, rfl, iteT' (by simp) ?_⟩
      exact q1 one H1 s1
    · refine iteT' (by rw [decide_eq_false (show ¬ V.int ((S.1.length : Nat) : Int) = V.int 1 from fun z => one (by have := V.int.inj z; omega))]; simp) ?_
      exact ⟨one1, fun t nt => q2 (by omega) _ t (s1.trans (Same.upd nt)) upd_same⟩
  · refine ⟨_, rfl, rfl, _, rfl, iteT' (by simp) ?_⟩
    have ht1 := s1 _ _ ht
    refine ⟨_, rfl, t, N, _, rfl, ht1, _, rfl, iteT ?_⟩
    refine ⟨_, rfl, _, rfl, _, rfl, t, _, _, V.ref q, rfl, rfl, SqT.of ht1, atI_nat (j := 1) rfl, ?_⟩
    refine ⟨a, s, q, ds, S, ts, l, rfl, hH.same s1, st.same s1, ok.doors, by rw [ok.doors]; omega, s1 _ _ hq, pl.same s1, chs, asc, fun H2 s2 => ?_⟩
    have s12 := s1.trans s2
    refine ⟨_, rfl, iteF ?_⟩
    have ht2 := s2 _ _ ht1
    refine ⟨_, rfl, rfl, _, rfl, s, _, _, V.ref r, rfl, rfl, s2.tup h1, atI_nat (j := 0) rfl, r, _, rfl, .inr (s2.tup h2), rfl, rfl, _, rfl, ?_⟩
    rw [nv_len]
    by_cases one : S.1.length = 1
    · refine iteT' (by rw [one]; simp) ?_
      exact ⟨one1, fun t nt => q1 one _ t (s12.trans (Same.upd nt)) upd_same⟩
    · refine iteF' (by rw [decide_eq_false (show ¬ V.int ((S.1.length : Nat) : Int) = V.int 1 from fun z => one (by have := V.int.inj z; omega))]; simp) ?_
      refine ⟨_, rfl, rfl, _, rfl, iteF' (by simp) ?_⟩
      refine ⟨_, rfl, _, rfl, _, rfl, t, _, _, V.int (N : Int), rfl, rfl, SqT.of ht2, atI_nat (j := 0) rfl, _, rfl, t, _, _, V.ref q, rfl, rfl, SqT.of ht2, atI_nat (j := 1) rfl, ?_⟩
      exact ⟨a, s, q, n, N, ds, S, ts, l, rfl, hH.same s12, tree, hn, st.same s12, ok, by omega, s12 _ _ hq, pl.same s12, chs, (q2 (by omega)).same s12⟩
end
end K5

namespace K5
open PySem PySem.Spec PyProof.Rows L2
structure Way (ds : List (Nat × Nat)) (shut : List Nat) (room x : Nat) (p : List Nat) : Prop where
  w : Walk ds room p x
  nd : p.Nodup
  un : ∀ d ∈ p, d ∉ shut
theorem Way.unique {n ds shut room x p q} (T : Tree n ds) (a : Way ds shut room x p) (b : Way ds shut room x q) : p = q := way_unique T a.w b.w a.nd b.nd
theorem Way.ext {ds : List (Nat × Nat)} {shut : List Nat} {spot x d y : Nat} {p : List Nat} (h : Way ds shut spot x p) (j : Joins ds d x y) (ns : d ∉ shut) (nd : d ∉ p) : Way ds shut spot y (p ++ [d]) := by
  refine ⟨h.w.snoc j, ?_, ?_⟩
  · refine List.nodup_append.mpr ⟨h.nd, by simp, fun c hc b hb => ?_⟩
    rw [List.mem_singleton] at hb
    rintro rfl
    exact nd (hb ▸ hc)
  · intro c hc
    rcases List.mem_append.mp hc with hc | hc
    · exact h.un c hc
    · rw [List.mem_singleton] at hc
      rw [hc]
      exact ns

/-- a list of doors, not the waiting list -/
def LsR (Hb : Hp) (pq : Addr) (H : Hp) (v : V) (p : List Nat) : Prop := ∃ q, v = .ref q ∧ q ≠ pq ∧ Hb q = none ∧ H q = some (.lst (nv p))
theorem LsR.same {Hb : Hp} {pq : Addr} {H H' : Hp} {v : V} {p : List Nat} (h : LsR Hb pq H v p) (s : Same H H') : LsR Hb pq H' v p := by
  obtain ⟨q, a, b, f, c⟩ := h
  exact ⟨q, a, b, f, s _ _ c⟩
/-- each key with its way -/
def Wys (ds : List (Nat × Nat)) (spot : Nat) (ks : List (Nat × List Nat)) : Prop := ∀ x p, (x, p) ∈ ks → Way ds [] spot x p ∧ ∀ d ∈ p, ∀ u v, Joins ds d u v → u ∈ ks.map Prod.fst
theorem Wys.start {ds : List (Nat × Nat)} {spot : Nat} : Wys ds spot [(spot, [])] := by
  intro x p h
  rw [List.mem_singleton] at h
  cases h
  exact ⟨⟨.nil _, List.nodup_nil, fun d h => (List.not_mem_nil h).elim⟩, fun d h => (List.not_mem_nil h).elim⟩
theorem Wys.add {n : Nat} {ds : List (Nat × Nat)} {spot here y d : Nat} {o : List Nat} {ks : List (Nat × List Nat)} (T : Tree n ds) (D : Wys ds spot ks) (h : (here, o) ∈ ks) (j : Joins ds d here y) (ny : y ∉ ks.map Prod.fst) : Wys ds spot (ks ++ [(y, o ++ [d])]) := by
  intro x o' hx
  rw [List.map_append]
  rcases List.mem_append.mp hx with hx | hx
  · obtain ⟨a, c⟩ := D x o' hx
    exact ⟨a, fun d hd u v j => List.mem_append.mpr (.inl (c d hd u v j))⟩
  · rw [List.mem_singleton] at hx
    cases hx
    obtain ⟨a, c⟩ := D here o h
    refine ⟨Way.ext a j List.not_mem_nil (fun z => ny (c d z y here j.symm)), fun d' hd u v j' => ?_⟩
    rcases List.mem_append.mp hd with hd | hd
    · exact List.mem_append.mpr (.inl (c d' hd u v j'))
    · rw [List.mem_singleton] at hd
      subst hd
      by_cases e : u = y
      · exact List.mem_append.mpr (.inr (by rw [e]; exact List.mem_singleton.mpr rfl))
      · refine List.mem_append.mpr (.inl ?_)
        have hh : here ∈ ks.map Prod.fst := List.mem_map.mpr ⟨_, h, rfl⟩
        have uh : u = here := by
          rcases j with j | j <;> rcases j' with j' | j'
          · exact (Prod.ext_iff.mp (Option.some.inj (j'.symm.trans j))).1
          · exact absurd (Prod.ext_iff.mp (Option.some.inj (j'.symm.trans j))).2 e
          · exact absurd (Prod.ext_iff.mp (Option.some.inj (j'.symm.trans j))).1 e
          · exact (Prod.ext_iff.mp (Option.some.inj (j'.symm.trans j))).2
        rw [uh]
        exact hh
def dN (l : List Nat) : PyData := .list (dIs l)
theorem dN_shaped (l : List Nat) : SeqAt.shaped (dN l) = true := by
  have h := dIs_depth l
  refine shaped_mk ?_ ?_
  · simp only [dN, PyData.canLay0]
    exact dIs_lay l
  · simp only [dN, PyData.depth]
    omega
theorem dN_nil (l : List Nat) : PyData.eqv (dN l) (dN []) = decide (l = []) := by
  cases l with
  | nil => exact d_refl (dN_shaped [])
  | cons m r =>
    rw [decide_eq_false (by simp)]
    simp only [dN, dIs, List.map_cons, List.map_nil, PyData.eqv, PyData.eqvAll]
structure DL (Hb H : Hp) (pw pq : Addr) (ks : List (Nat × List Nat)) (ws : List Nat) : Prop where
  sm : Same Hb H
  w : ∃ kvs, H pw = some (.dK kvs) ∧ DicR (LsR Hb pq H) kvs ks
  q : H pq = some (.lst (nv ws))
  le : ws.length ≤ ks.length
theorem DL.ne {Hb H pw pq ks ws} (S : DL Hb H pw pq ks ws) : pw ≠ pq := by
  obtain ⟨kvs, h, _⟩ := S.w
  exact ne_of h S.q (by intro z; cases z)
theorem DL.same {Hb H H' pw pq ks ws} (S : DL Hb H pw pq ks ws) (s : Same H H') : DL Hb H' pw pq ks ws := by
  obtain ⟨kvs, h, r⟩ := S.w
  exact ⟨S.sm.trans s, ⟨kvs, s _ _ h, r.mono fun v o x => x.same s⟩, s _ _ S.q, S.le⟩
theorem DL.setq {Hb H pw pq ks ws ws'} (S : DL Hb H pw pq ks ws) (nq : Hb pq = none) (hl : ws'.length ≤ ks.length) : DL Hb (upd H pq (.lst (nv ws'))) pw pq ks ws' := by
  obtain ⟨kvs, h, r⟩ := S.w
  exact ⟨S.sm.at nq, ⟨kvs, by rw [upd_ne S.ne]; exact h, r.mono fun v o ⟨q, a, b, f, c⟩ => ⟨q, a, b, f, by rw [upd_ne b]; exact c⟩⟩, upd_same, hl⟩
theorem DL.add {Hb H pw pq ks ws} (S : DL Hb H pw pq ks ws) (nw : Hb pw = none) {kvs} (hk : H pw = some (.dK kvs)) (r : DicR (LsR Hb pq H) kvs ks) {y : Nat} {o : List Nat} {q : Addr} (ny : y ∉ ks.map Prod.fst) (nq : q ≠ pq) (nf : Hb q = none) (hq : H q = some (.lst (nv o))) :
    DL Hb (upd H pw (.dK (putK kvs (Sum.inl (y : Int)) (.ref q)))) pw pq (ks ++ [(y, o)]) ws := by
  have keep : ∀ {q : Addr} {xs : List V}, H q = some (.lst xs) → upd H pw (.dK (putK kvs (Sum.inl (y : Int)) (.ref q))) q = some (.lst xs) := fun {q xs} h => by rw [upd_ne (fun z => by rw [z, hk] at h; cases h)]; exact h
  refine ⟨S.sm.at nw, ⟨_, upd_same, (r.mono fun v o ⟨q', a, b, f, c⟩ => ⟨q', a, b, f, by rw [upd_ne (fun z => by rw [z, hk] at c; cases c)]; exact c⟩).add ny ⟨q, rfl, nq, nf, by rw [upd_ne (fun z => by rw [z, hk] at hq; cases hq)]; exact hq⟩⟩, ?_, by rw [List.length_append]; exact Nat.le_trans S.le (Nat.le_add_right _ _)⟩
  rw [upd_ne S.ne.symm]
  exact S.q
def spPathL (K : PySem.W.Frag) : Sp := fun vs H Q _ => ∃ (a : Addr) (ds : List (Nat × Nat)) (n spot goal : Nat), vs = [.ref a, .int (spot : Int), .int (goal : Int)] ∧ HouseAt K H a ds ∧ Tree n ds ∧ n ≤ 900 ∧ spot < n ∧ goal < n ∧
  ∀ (H' : Hp) (q : Addr) (w : List Nat), Same H H' → H q = none → Way ds [] spot goal w → H' q = some (.lst (nv w)) → Q (.ref q) H'
section
variable {P : Program} {w : World} {K : PySem.W.Frag}
      {mg : Str → Option Value} {base : Heap}
theorem ok_l_path (T : Bl mg) (D : Def K mg "_law_path" s_l_path) (C_l_around : Cal P w K mg base "_law_around" ["_law_layout"] 1 (spAround K)) : Cal P w K mg base "_law_path" ["_law_layout", "_law_start", "_law_end"] 2 (spPathL K) := by
  refine D.ok sc_l_path (fun _ _ _ _ _ _ us hl => match us, hl with | [_, _, _], _ => rfl) (fun vs H Q E h => ?_) (fun f cdv A outer s H vs Q E hr h => ?_)
  · obtain ⟨a, ds, n, spot, goal, rfl, _⟩ := h
    rfl
  obtain ⟨a, ds, n, spot, goal, rfl, hH, tree, hn, hspot, hgoal, q⟩ := h
  obtain ⟨f_l_around, fd_l_around, g_l_around, k_l_around, b_l_around, G_l_around⟩ := C_l_around
  refine ⟨_, (pss_cons (ps_set (i := 3) sc_l_path.nd rfl (.inl rfl) (pe_call G_l_around (hr.mono (by decide)) (by rfl) g_l_around k_l_around b_l_around .nil pass0 (pa_cons (pv 0) pa_nil)))
    (pss_cons (ps_set (i := 4) sc_l_path.nd rfl (.inl rfl) (pe_disp (pps_cons (pv 1) (pe_lst pa_nil) pps_nil) (by rfl) (by rfl) (fun z => by cases z) (by decide)))
    (pss_cons (ps_set (i := 5) sc_l_path.nd rfl (.inl rfl) (pe_lst (pa_cons (pv 1) pa_nil)))
    (pss_cons (ps_while PassesOwn.never (pt_cmpR (op_neD hr.units) (pv 5) (pe_lst pa_nil) (nomark _)) (pss_cons (ps_set (i := 6) sc_l_path.nd rfl (.inl rfl) (pe_bm0 PySem.F.plainAttrs_list PySem.F.slot_list_pop PySem.F.type_list_pop mt_pop (pv 5)))
    (pss_one (ps_for PassesOwn.never rfl (pi_list (pe_ix ix_list (pv 3) (pv 6) (fun _ _ => rfl))) (pg_tup (n := 2) rfl (pgs_cons (pg_name (i := 7) sc_l_path.nd rfl (.inl rfl)) (pgs_cons (pg_name (i := 8) sc_l_path.nd rfl (.inl rfl)) pgs_nil)))
    (pss_one (ps_if (pt_cmp (pc_dnotin (hu_of hr) (pv 7) (pv 4))) (pss_cons (ps_dput (hu_of hr) (pv 4) (pv 7) (pe_op op_cat (pe_dget (hu_of hr) (pv 4) (pv 6) (fun _ _ => rfl)) (pe_lst (pa_cons (pv 8) pa_nil))) rfl)
    (pss_one (ps_expr (pe_bm PySem.F.plainAttrs_list PySem.F.slot_list_append PySem.F.type_list_append mt_append (pv 5) (pa_cons (pv 7) pa_nil))))) pss_nil))))))
    (pss_one (ps_ret (pe_dget (hu_of hr) (pv 4) (pv 2) (fun _ _ => rfl)))))))), ?_⟩
  refine ⟨_, rfl, a, ds, n, rfl, hH, tree, by omega, fun H2 px ps ex sm npx hpx2 hpl ro2 mem nod _ => ?_⟩
  intro pw npw
  refine ⟨_, rfl, Nat.zero_le _, fun q0 nq0 => ?_⟩
  have nqw : q0 ≠ pw := (ne_of_none upd_same nq0).symm
  refine ⟨by rw [upd_ne nqw.symm]; exact upd_same, [(Sum.inl (spot : Int), .ref q0)], rfl, (by show 1 ≤ 15; decide), ?_⟩
  have nf0 : H2 q0 = none := by rw [upd_ne nqw] at nq0; exact nq0
  have sA : Same H2 (upd (upd (upd H2 pw (.dK [])) q0 (.lst [])) pw (.dK (mergeK [] [(Sum.inl (spot : Int), V.ref q0)]))) := ((Same.upd npw).trans (Same.upd nq0)).at npw
  have hq0 : upd (upd (upd H2 pw (.dK [])) q0 (.lst [])) pw (.dK (mergeK [] [(Sum.inl (spot : Int), V.ref q0)])) q0 = some (.lst []) := by rw [upd_ne nqw, upd_same]
  have hpw : upd (upd (upd H2 pw (.dK [])) q0 (.lst [])) pw (.dK (mergeK [] [(Sum.inl (spot : Int), V.ref q0)])) pw = some (.dK [(Sum.inl (spot : Int), V.ref q0)]) := upd_same
  generalize upd (upd (upd H2 pw (.dK [])) q0 (.lst [])) pw (.dK (mergeK [] [(Sum.inl (spot : Int), V.ref q0)])) = HA at sA hq0 hpw
  refine ⟨_, rfl, by show 1 ≤ sizeLine; decide, fun pq npq => ?_⟩
  have npq2 : H2 pq = none := sA.free npq
  have nq0p : q0 ≠ pq := ne_of_none hq0 npq
  have S0 : DL H2 (upd HA pq (.lst [.int (spot : Int)])) pw pq [(spot, [])] [spot] := ⟨sA.at npq2, ⟨[(Sum.inl (spot : Int), V.ref q0)], by rw [upd_ne (ne_of_none hpw npq)]; exact hpw, .cons ⟨rfl, q0, rfl, nq0p, nf0, by rw [upd_ne nq0p]; exact hq0⟩ .nil⟩, by rw [upd_same]; rfl, Nat.le_refl _⟩
  generalize upd HA pq (.lst [.int (spot : Int)]) = H3 at S0
  refine ⟨fun m σ H4 => ∃ ks ws y5 y6 y7, m = 2 * (n - ks.length) + ws.length ∧ σ = [some (.ref a), some (.int (spot : Int)), some (.int (goal : Int)), some (.ref px), some (.ref pw), some (.ref pq), y5, y6, y7] ∧
      DL H2 H4 pw pq ks ws ∧ Dfs n ds [] (ks.map Prod.fst) ws ∧ Wys ds spot ks ∧ spot ∈ ks.map Prod.fst,
    ⟨_, [(spot, [])], [spot], _, _, _, rfl, rfl, S0, Dfs.start hspot, Wys.start, List.mem_singleton.mpr rfl⟩, fun m σ H4 hW => ?_⟩
  obtain ⟨ks, ws, y5, y6, y7, rfl, rfl, S, df, pt, hrm⟩ := hW
  refine ⟨_, rfl, Nat.zero_le _, fun pe npe => ?_⟩
  have sE := Same.upd (o := .lst []) npe
  refine ⟨dN ws, dN [], .lst (SqL.of (sE _ _ S.q)) (dp_is ws), .lst (SqL.of upd_same) .nil, dN_shaped _, dN_shaped _, _, rfl, ?_⟩
  rw [dN_nil]
  have S : DL H2 (upd H4 pe (.lst [])) pw pq ks ws := S.same sE
  generalize upd H4 pe (.lst []) = H4 at S
  rcases snoc_nil ws with rfl | ⟨wr, here, rfl⟩
  · rw [decide_eq_true rfl]
    refine iteF ⟨_, rfl, ?_⟩
    obtain ⟨kvs, hk, r⟩ := S.w
    obtain ⟨v, o, hv, ho, io⟩ := r.val (Dfs.all tree df hrm goal hgoal)
    obtain ⟨w1, _⟩ := pt goal o ho
    obtain ⟨q1, e1, _, ef, e2⟩ := io
    refine ⟨_, rfl, pw, V.ref q1, rfl, by rw [← e1, ← hv]; exact DGet.k (k := Sum.inl (goal : Int)) hk, ?_⟩
    exact q H4 q1 o (sm.trans S.sm) (sm.free ef) w1 e2
  · rw [decide_eq_false (by simp)]
    have hhere : here < n := df.lt _ (df.sub _ (List.mem_append.mpr (.inr (List.mem_singleton.mpr rfl))))
    have dfi := df.pop
    have hlast : (nv (wr ++ [here]))[(nv (wr ++ [here])).length - 1]? = some (.int (here : Int)) := by
      rw [nv_snoc, List.length_append, List.length_singleton, Nat.add_sub_cancel, List.getElem?_append_right (Nat.le_refl _), Nat.sub_self]
      rfl
    refine iteT ⟨fun σ' H' => ∃ ks' ws' y5 y6 y7, 2 * (n - ks'.length) + ws'.length < 2 * (n - ks.length) + (wr ++ [here]).length ∧ σ' = [some (.ref a), some (.int (spot : Int)), some (.int (goal : Int)), some (.ref px), some (.ref pw), some (.ref pq), y5, y6, y7] ∧
      DL H2 H' pw pq ks' ws' ∧ Dfs n ds [] (ks'.map Prod.fst) ws' ∧ Wys ds spot ks' ∧ spot ∈ ks'.map Prod.fst, fun σ' H' ⟨ks', ws', z7, z8, z9, h1, h2⟩ => ⟨_, h1, ks', ws', z7, z8, z9, rfl, h2⟩, ?_⟩
    refine ⟨_, rfl, .inl ⟨rfl, _, SqL.of S.q⟩, pq, _, _, rfl, rfl, S.q, hlast, ?_⟩
    rw [nv_snoc, List.dropLast_concat]
    have S1 := S.setq (ws' := wr) npq2 (by have := S.le; simp at this; omega)
    generalize upd H4 pq (.lst (nv wr)) = H5 at S1
    obtain ⟨qx, hqx⟩ := get_of hpl hhere
    obtain ⟨ts, g1, g2, g3⟩ := ro2 _ _ hqx
    refine ⟨_, rfl, _, rfl, px, _, _, V.ref qx, rfl, rfl, SqL.of (S1.sm _ _ hpx2), atI_nat (v := V.ref qx) (by rw [List.getElem?_map, hqx]; rfl), qx, rfl, ⟨_, SqL.of (S1.sm _ _ g1)⟩, ?_⟩
    refine for_it (walk_list (K := K) (a := qx) (xs := ts.map V.ref)) (fun j σ H6 => ∃ ks' ws' y6 y7, 2 * (n - ks'.length) + ws'.length < 2 * (n - ks.length) + (wr ++ [here]).length ∧ σ = [some (.ref a), some (.int (spot : Int)), some (.int (goal : Int)), some (.ref px), some (.ref pw), some (.ref pq), some (.int (here : Int)), y6, y7] ∧
      DL H2 H6 pw pq ks' ws' ∧ DfsIn n ds [] (ks'.map Prod.fst) ws' here (((ex here).take j).map fun e => (e.2, e.1)) ∧ Wys ds spot ks' ∧ spot ∈ ks'.map Prod.fst)
      ⟨ks, wr, _, _, by rw [List.length_append, List.length_singleton]; omega, rfl, S1, dfi, pt, hrm⟩ (fun i σ H1 _ ⟨_, _, _, _, _, _, S, _⟩ => SqL.of (S.sm _ _ g1)) ?_ ?_
    · rintro j x σ H6 H7 hj ⟨ks', ws', y8, y9, hm, rfl, S2, di, pt', hrm'⟩ ⟨rfl, ex1⟩
      have hj' : j < ts.length := by
        rw [List.length_map] at hj
        exact hj
      obtain ⟨t, ht⟩ : ∃ t, ts[j]? = some t := get_of rfl hj'
      obtain ⟨e, he⟩ : ∃ e, (ex here)[j]? = some e := get_of g2.symm hj'
      have ex1 : (ts.map V.ref)[j]? = some x := ex1
      rw [List.getElem?_map, ht] at ex1
      cases ex1
      have htup := S2.sm _ _ (g3 j t e ht he)
      have ejoin : Joins ds e.2 here e.1 := (mem here e.2 e.1).mp (List.mem_of_getElem? he)
      have etake : ((ex here).take (j + 1)).map (fun e => (e.2, e.1)) = ((ex here).take j).map (fun e => (e.2, e.1)) ++ [(e.2, e.1)] := by
        rw [List.take_add_one, he, List.map_append]
        rfl
      obtain ⟨kvs, hk, r⟩ := S2.w
      refine ⟨t, _, rfl, SqT.of htup, rfl, _, _, rfl, _, _, rfl, rfl, ?_⟩
      refine ⟨_, rfl, _, rfl, pw, _, rfl, DGet.k (k := Sum.inl (e.1 : Int)) hk, _, rfl, ?_⟩
      by_cases hy : e.1 ∈ ks'.map Prod.fst
      · obtain ⟨v, o, hv, _, _⟩ := r.val hy
        rw [hv]
        refine iteF ?_
        exact ⟨ks', ws', _, _, hm, rfl, S2, by rw [etake]; exact di.skip (.inr hy), pt', hrm'⟩
      · rw [r.no hy]
        refine iteT ?_
        have ely := (Joins.lt tree ejoin).2.1
        have di2 := di.add (d := e.2) ely hy
        have hle := di2.le
        rw [List.length_append, List.length_singleton, List.length_map] at hle
        obtain ⟨v, o, hv, ho, io⟩ := r.val di.he
        obtain ⟨qo, rfl, nqo, _, hqo⟩ := io
        have ll : ks'.length + 1 ≤ n := by omega
        have wo := (pt' here o ho).1
        have lo := walk_short wo.w wo.nd
        have hdn := tree.len
        have big : (1000 : Nat) ≤ sizeLine := by decide
        refine ⟨_, rfl, _, rfl, pw, _, rfl, by rw [← hv]; exact DGet.k (k := Sum.inl (here : Int)) hk, _, rfl, by show 1 ≤ sizeLine; decide, fun q1 nq1 => ?_⟩
        have sq1 := Same.upd (o := .lst [V.int (e.2 : Int)]) nq1
        have hq1 : upd H7 q1 (.lst [V.int (e.2 : Int)]) q1 = some (.lst [V.int (e.2 : Int)]) := upd_same
        have Sq1 := S2.same sq1
        have hk1 := sq1 _ _ hk
        have hqo1 := sq1 _ _ hqo
        generalize upd H7 q1 (.lst [V.int (e.2 : Int)]) = H8 at sq1 hq1 Sq1 hk1 hqo1
        refine ⟨qo, q1, _, _, rfl, rfl, hqo1, hq1, by rw [nv_len]; show o.length + 1 ≤ sizeLine; omega, fun q2 nq2 => ?_⟩
        rw [← nv_snoc]
        have sq2 := Same.upd (o := .lst (nv (o ++ [e.2]))) nq2
        have hq2 : upd H8 q2 (.lst (nv (o ++ [e.2]))) q2 = some (.lst (nv (o ++ [e.2]))) := upd_same
        have Sq2 := Sq1.same sq2
        have hk2 := sq2 _ _ hk1
        have nq2p : q2 ≠ pq := (ne_of_none Sq1.q nq2).symm
        generalize upd H8 q2 (.lst (nv (o ++ [e.2]))) = H9 at sq2 hq2 Sq2 hk2
        have r2 : DicR (LsR H2 pq H9) kvs ks' := r.mono fun v o x => (x.same sq1).same sq2
        refine ⟨_, rfl, _, rfl, pw, _, rfl, DPut.k (k := Sum.inl (e.1 : Int)) hk2 (by rw [r.len]; exact small1000 (by omega)), ?_⟩
        have S3 := Sq2.add npw hk2 r2 (y := e.1) (o := o ++ [e.2]) (q := q2) hy nq2p (Sq1.sm.free nq2) hq2
        generalize (upd H9 pw (.dK (putK kvs (Sum.inl (e.1 : Int)) (.ref q2)))) = H10 at S3
        refine ⟨_, rfl, .inl ⟨rfl, _, SqL.of S3.q⟩, _, rfl, pq, _, _, rfl, rfl, S3.q, ?_, ?_⟩
        · rw [nv_len]
          have := S2.le
          exact small1000 (by omega)
        · rw [← nv_snoc]
          refine ⟨ks' ++ [(e.1, o ++ [e.2])], ws' ++ [e.1], _, _, ?_, rfl, S3.setq npq2 (by have := S2.le; simp; omega), ?_, pt'.add tree ho ejoin hy, ?_⟩
          · rw [List.length_append, List.length_append, List.length_singleton, List.length_singleton]
            omega
          · rw [etake, List.map_append]
            exact di2
          · rw [List.map_append]
            exact List.mem_append.mpr (.inl hrm')
    · rintro σ H6 ⟨ks', ws', y8, y9, hm, rfl, S2, di, pt', hrm'⟩
      refine ⟨ks', ws', _, _, _, hm, rfl, S2, di.done fun d y j => ?_, pt', hrm'⟩
      rw [List.length_map, g2, List.take_length]
      exact List.mem_map.mpr ⟨(y, d), (mem here d y).mpr j, rfl⟩
end
end K5

namespace K5
open PySem PySem.Spec PyProof.Rows L2
def spOpL (K : PySem.W.Frag) : Sp := fun vs H Q _ => ∃ (s q : Addr) (S : S2) (ts : List Addr) (l : List (Nat × Nat)), vs = [.ref s, .ref q] ∧ StateAt K H s S ∧ S.2.length ≤ 900 ∧ H q = some (.lst (ts.map V.ref)) ∧ PL2 H ts l ∧ ChOk S l ∧
  ∀ (H' : Hp) (q' : Addr), Same H H' → StateAt K H' q' (opS S l) → Q (.ref q') H'
def spIsA (K : PySem.W.Frag) : Sp := fun vs H Q _ => ∃ (a s : Addr) (n : Nat) (ds : List (Nat × Nat)) (S : S2), vs = [.ref a, .ref s] ∧ HouseAt K H a ds ∧ Tree n ds ∧ n ≤ 60 ∧ StateAt K H s S ∧ StOk n ds S ∧ ∀ (H' : Hp) (k : Bool), Same H H' → (k = true ↔ Apt ds S) → Q (.bl k) H'
section
variable {P : Program} {w : World} {K : PySem.W.Frag}
      {mg : Str → Option Value} {base : Heap}
theorem ok_l_is_apart (T : Bl mg) (D : Def K mg "_law_is_apart" s_l_is_apart) (C_l_are_apart : Cal P w K mg base "_law_are_apart" ["_law_regions_here"] 1 (spAre K)) (C_l_regions : Cal P w K mg base "_law_regions" ["_law_layout", "_law_situation"] 3 (spRegsL K)) : Cal P w K mg base "_law_is_apart" ["_law_layout", "_law_situation"] 4 (spIsA K) := by
  refine D.ok sc_l_is_apart (fun _ _ _ _ _ _ us hl => match us, hl with | [_, _], _ => rfl) (fun vs H Q E h => ?_) (fun f cdv A outer s0 H vs Q E hr h => ?_)
  · obtain ⟨a, s, n, ds, S, rfl, _⟩ := h
    rfl
  obtain ⟨a, s, n, ds, S, rfl, hH, tree, hn, st, ok, q⟩ := h
  obtain ⟨f_l_are_apart, fd_l_are_apart, g_l_are_apart, k_l_are_apart, b_l_are_apart, G_l_are_apart⟩ := C_l_are_apart
  obtain ⟨f_l_regions, fd_l_regions, g_l_regions, k_l_regions, b_l_regions, G_l_regions⟩ := C_l_regions
  have few := ok.few
  have pos := ok.one
  refine ⟨_, (pss_one (ps_ret (pe_call G_l_are_apart (hr.mono (by decide)) (by rfl) g_l_are_apart k_l_are_apart b_l_are_apart .nil pass0 (pa_cons (pe_call G_l_regions (hr.mono (by decide)) (by rfl) g_l_regions k_l_regions b_l_regions .nil pass0 (pa_cons (pv 0) (pa_cons (pv 1) pa_nil))) pa_nil)))), ?_⟩
  refine ⟨_, rfl, _, rfl, a, s, n, ds, S, rfl, hH, tree, hn, st, ok, fun H1 p Ls s1 np la rg asc => ?_⟩
  refine ⟨p, Ls, rfl, la, by rw [rg.len]; omega, ?_, fun H2 s2 => ?_⟩
  · have : ∀ (M : List (List Nat)) (B : Nat), (∀ L ∈ M, L.length ≤ B) → M.flatten.length ≤ M.length * B := by
      intro M B
      induction M with
      | nil => exact fun _ => Nat.zero_le _
      | cons L r ih =>
        intro h
        rw [List.flatten_cons, List.length_append, List.length_cons, Nat.succ_mul]
        have := ih fun x hx => h x (List.mem_cons_of_mem _ hx)
        have := h L List.mem_cons_self
        omega
    have z := this Ls 60 fun L hL => ?_
    · rw [rg.len] at z
      have := Nat.mul_le_mul_right 60 few
      omega
    · obtain ⟨p, hp⟩ := List.mem_iff_getElem?.mp hL
      have rs := rg.at_ p L hp
      obtain ⟨x, hx⟩ : ∃ x, S.1[p]? = some x := get_of rfl (by rw [← rg.len]; exact get_lt hp)
      have := nd_sub2 rs.nd fun z hz => (show z ∈ List.range n by
        obtain ⟨w, W, _⟩ := (rs.mem z).mp hz
        rw [getD_of hx] at W
        exact List.mem_range.mpr (walk_in tree W (ok.rooms x (List.mem_of_getElem? hx))))
      rw [List.length_range] at this
      omega
  · exact q H2 _ (s1.trans s2) (by rw [decide_eq_true_eq]; exact rg.apt)
theorem ok_l_opened (T : Bl mg) (D : Def K mg "_law_opened" s_l_opened) : Cal P w K mg base "_law_opened" ["_law_situation", "_law_changes"] 1 (spOpL K) := by
  refine D.ok sc_l_opened (fun _ _ _ _ _ _ us hl => match us, hl with | [_, _], _ => rfl) (fun vs H Q E h => ?_) (fun f cdv A outer s0 H vs Q E hr h => ?_)
  · obtain ⟨s, q, S, ts, l, rfl, _⟩ := h
    rfl
  obtain ⟨s, q, S, ts, l, rfl, st, hb, hq, pl, chs, qn⟩ := h
  obtain ⟨r, b, h1, h2, h3⟩ := id st
  refine ⟨_, (pss_cons (ps_set (i := 2) sc_l_opened.nd rfl (.inl rfl) (pe_callTy call_list_of (by rfl) T.list (by decide +kernel) (pa_cons (pe_ix ix_tup (pv 0) pe_int (fun _ _ => rfl)) pa_nil)))
    (pss_cons (ps_for PassesOwn.never rfl (pi_list (pv 1)) (pg_tup (n := 2) rfl (pgs_cons (pg_name (i := 3) sc_l_opened.nd rfl (.inl rfl)) (pgs_cons (pg_name (i := 4) sc_l_opened.nd rfl (.inl rfl)) pgs_nil)))
    (pss_one (ps_asg (pv 4) (pg_sub (pv 2) (pv 3) set_list))))
    (pss_one (ps_ret (pe_tup (pa_cons (pe_ix ix_tup (pv 0) pe_int (fun _ _ => rfl)) (pa_cons (pe_callTy call_tuple_of (by rfl) T.tuple (by decide +kernel) (pa_cons (pv 2) pa_nil)) pa_nil))))))), ?_⟩
  refine ⟨_, rfl, s, _, _, V.ref b, rfl, rfl, h1, atI_nat (j := 1) rfl, b, _, rfl, .inr h3, fun pb npb => ?_⟩
  refine ⟨_, rfl, q, rfl, ⟨_, SqL.of ((Same.upd npb) _ _ hq)⟩, ?_⟩
  refine for_it (walk_list (K := K) (a := q) (xs := ts.map V.ref)) (fun i σ H1 => ∃ (y3 y4 : Option V), σ = [some (.ref s), some (.ref q), some (.ref pb), y3, y4] ∧ Same H H1 ∧ H1 pb = some (.lst (nv (opB S.2 (l.take i)))))
    ⟨_, _, rfl, Same.upd npb, by rw [List.take_zero]; exact upd_same⟩ (fun i σ H1 _ ⟨_, _, _, s1, _⟩ => SqL.of (s1 _ _ hq)) ?_ ?_
  · rintro i x σ H1' H1 hi ⟨y3, y4, rfl, s1, hp⟩ ⟨rfl, ex⟩
    rw [List.length_map, pl.1] at hi
    obtain ⟨t, ht⟩ : ∃ t, ts[i]? = some t := get_of pl.1 hi
    obtain ⟨e, he⟩ : ∃ e, l[i]? = some e := get_of rfl hi
    have ex : (ts.map V.ref)[i]? = some x := ex
    rw [List.getElem?_map, ht] at ex
    cases ex
    have htt := s1 _ _ (pl.2 i t e ht he)
    obtain ⟨c1, c2⟩ := chs e (List.mem_of_getElem? he)
    have et : opB S.2 (l.take (i + 1)) = (opB S.2 (l.take i)).set e.1 e.2 := by
      rw [take_succ_get he]
      unfold opB
      rw [List.foldl_append]
      rfl
    refine ⟨t, _, rfl, SqT.of htt, rfl, _, _, rfl, _, _, rfl, rfl, ?_⟩
    refine ⟨_, rfl, _, rfl, _, rfl, pb, _, _, e.1, rfl, rfl, hp, ixN_nat (by rw [nv_len, opB_len]; exact c1), ?_⟩
    refine ⟨_, _, rfl, s1.at npb, ?_⟩
    rw [upd_same, et]
    unfold nv
    rw [List.map_set]
  · rintro σ H1 ⟨y3, y4, rfl, s1, hp⟩
    rw [List.length_map, pl.1, List.take_length] at hp
    refine ⟨_, rfl, s, _, _, V.ref r, rfl, rfl, s1.tup h1, atI_nat (j := 0) rfl, _, rfl, pb, _, rfl, .inl ⟨SqL.of hp, fun p2 n2 => ?_⟩⟩
    have s2 := Same.upd (o := .tup (nv (opB S.2 l))) n2
    have hp2 : upd H1 p2 (.tup (nv (opB S.2 l))) p2 = some (.tup (nv (opB S.2 l))) := upd_same
    generalize upd H1 p2 (.tup (nv (opB S.2 l))) = H2 at s2 hp2
    refine ⟨by show 2 ≤ sizeLine; decide, fun t nt => ?_⟩
    have s3 := Same.upd (o := .tup [.ref r, .ref p2]) nt
    exact qn _ t ((s1.trans s2).trans s3) ⟨r, p2, SqT.of upd_same, s3.tup (s2.tup (s1.tup h2)), SqT.of (s3 _ _ hp2)⟩
end
end K5

namespace K5
open PySem PySem.Spec PyProof.Rows L2
/-- the doors of a way that bar the person -/
def cnt (S : S2) (p : Nat) (w : List Nat) : Nat := (w.filter fun d => decide (S.2[d]? = some p)).length
theorem cnt_map (S : S2) (p : Nat) (l : List Mv) : (l.filter fun m => decide (S.2[m.1]? = some p)).length = cnt S p (l.map Prod.fst) := by
  unfold cnt
  rw [List.filter_map, List.length_map]
  rfl
theorem cnt_rev (S : S2) (p : Nat) (w : List Nat) : cnt S p w.reverse = cnt S p w := by
  unfold cnt
  rw [List.filter_reverse, List.length_reverse]
theorem cl_len (S : S2) (c : Enc) : (c.cl S).length = cnt S c.i (c.A.map Prod.fst) + cnt S c.j (c.B.map Prod.fst) := by
  unfold Enc.cl
  rw [(srtP_perm _).length_eq]
  unfold clsF
  rw [List.length_append, List.length_map, List.length_map, cnt_map, cnt_map]
theorem encOf_num {n : Nat} {ds : List (Nat × Nat)} (T : Tree n ds) {S : S2} (o : StOk n ds S) {i j k x y : Nat} {w : List Nat} (hx : S.1[i]? = some x) (hy : S.1[j]? = some y) (W : Way ds [] y x w) (hk : k ≤ w.length) :
    ((encOf ds S i j k).cl S).length = cnt S j (w.take (w.length - k)) + cnt S i (w.drop (w.length - k)) ∧ (trF ds (S.1.getD i 0) (S.1.getD j 0)).length = w.length := by
  have xn := o.rooms x (List.mem_of_getElem? hx)
  have yn := o.rooms y (List.mem_of_getElem? hy)
  obtain ⟨t1, n1⟩ := trF_spec T xn yn
  obtain ⟨t2, n2⟩ := trF_spec T yn xn
  have e2 : (trF ds y x).map Prod.fst = w := way_unique T t2.walk W.w n2 W.nd
  have e1 : (trF ds x y).map Prod.fst = w.reverse := way_unique T t1.walk W.w.rev n1 (List.pairwise_reverse.mpr (W.nd.imp Ne.symm))
  have l1 : (trF ds x y).length = w.length := by
    have := congrArg List.length e1
    rwa [List.length_map, List.length_reverse] at this
  rw [cl_len]
  unfold encOf
  rw [getD_of hx, getD_of hy]
  refine ⟨?_, l1⟩
  show cnt S i (((trF ds x y).take k).map Prod.fst) + cnt S j (((trF ds y x).take ((trF ds x y).length - k)).map Prod.fst) = _
  rw [List.map_take, List.map_take, e1, e2, l1, List.take_reverse, cnt_rev]
  exact Nat.add_comm _ _
/-- a number that the law finds -/
def FoundO (ds : List (Nat × Nat)) (S : S2) (N : Nat) : Prop := ∃ i j x y w cut, i < j ∧ S.1[i]? = some x ∧ S.1[j]? = some y ∧ Way ds [] y x w ∧ cut ≤ w.length ∧ N = cnt S j (w.take cut) + cnt S i (w.drop cut)
theorem foundO_of {n : Nat} {ds : List (Nat × Nat)} (T : Tree n ds) {S : S2} (o : StOk n ds S) {c : Enc} (h : c ∈ encs ds S S.1.length) : FoundO ds S (c.cl S).length := by
  obtain ⟨i, j, k, ij, jl, hk, rfl⟩ := mem_encs.mp h
  obtain ⟨x, hx⟩ : ∃ x, S.1[i]? = some x := get_of rfl (by omega)
  obtain ⟨y, hy⟩ : ∃ y, S.1[j]? = some y := get_of rfl jl
  have xn := o.rooms x (List.mem_of_getElem? hx)
  have yn := o.rooms y (List.mem_of_getElem? hy)
  obtain ⟨t2, n2⟩ := trF_spec T yn xn
  have W : Way ds [] y x ((trF ds y x).map Prod.fst) := ⟨t2.walk, n2, fun _ _ h => nomatch h⟩
  have e := (encOf_num T o (k := 0) hx hy W (Nat.zero_le _)).2
  rw [e] at hk
  exact ⟨i, j, x, y, _, _, ij, hx, hy, W, Nat.sub_le _ _, (encOf_num T o hx hy W hk).1⟩
theorem foundO_to {n : Nat} {ds : List (Nat × Nat)} (T : Tree n ds) {S : S2} (o : StOk n ds S) {N : Nat} (h : FoundO ds S N) : ∃ c ∈ encs ds S S.1.length, (c.cl S).length = N := by
  obtain ⟨i, j, x, y, w, cut, ij, hx, hy, W, hc, rfl⟩ := h
  obtain ⟨e1, e2⟩ := encOf_num T o (k := w.length - cut) hx hy W (Nat.sub_le _ _)
  refine ⟨encOf ds S i j (w.length - cut), mem_encs.mpr ⟨i, j, _, ij, get_lt hy, by rw [e2]; exact Nat.sub_le _ _, rfl⟩, ?_⟩
  rw [e1, Nat.sub_sub_self hc]
theorem least_found {n : Nat} {ds : List (Nat × Nat)} (T : Tree n ds) {S : S2} (o : StOk n ds S) {c : Enc} (so : LeastO ds S c) {m : Nat} (hm : FoundO ds S m) (le : ∀ N, FoundO ds S N → m ≤ N) : m = (c.cl S).length := by
  refine Nat.le_antisymm (le _ (foundO_of T o so.mem)) ?_
  obtain ⟨c', hc', e⟩ := foundO_to T o hm
  rw [← e]
  exact so.least c' hc'
end K5

namespace L2
open PySem PySem.Spec PyProof.Rows
/-! own rule: max(l, default=d) of a list of whole numbers -/
section
variable {prog : Program} {w : World} {A : Around} {R : Result → Shared → Prop} {I : Addr}
      {fp wr : List Addr} {n : Nat} {P : Nat → Value → Prop} {St : Nat → Heap → Prop}
theorem maxD_loop (walk : Walks prog w A.in1 I fp wr n P St) (beats : Nat → Nat → Bool) (above : CmpOf prog w A.in1 .Gt P beats) (S : Addr) (offF : S ∉ fp) (d : Value) :
    ∀ (k j : Nat) (s : Shared) (top : Value) (c : Nat), n - (j + 1) = k → j + 1 ≤ n → St (j + 1) s.heap → P (argBest beats j) top →
    s.heap.get? S = some { cls := .type "list", dict := none, data := .seq #[top, top] c, slots := #[] } →
    (∀ v hp1 tk1, P (argBest beats (n - 1)) v → (∀ b o, b ∉ wr → b ≠ S → s.heap.get? b = some o → hp1.get? b = some o) → R (.ok (.ret v)) { s with heap := hp1, toks := tk1 }) →
    codeAny (model prog w) A (.builtin "max.loop" ⟨[.ref I, .none, .ref S], [(Str.ofString "default", d)]⟩) R s := by
  have offW : S ∉ wr := fun h => offF (walk.sub _ h)
  have nm : toString "max" ++ toString ".loop" = "max.loop" := by decide
  intro k
  induction k with
  | zero =>
    intro j s top c left within stand best cell out
    have fin1 : j + 1 = n := by omega
    refine codeAny_builtin F.entry_max_loop ?_
    rw [Around.under_plainId F.plain_max_loop _]
    show wpAny _ A.in1 (seqItems?
          (.ref S) >>= _) _ _ s
    refine wpAny_bind (wpAny_seqItems cell rfl ?_)
    show wpAny _ A.in1 (tryCatch (pyNext
          (.ref I)) _ >>= _) _ _ s
    refine wpAny_bind (wpAny_tryCatch (walk.done s _ _ (fin1 ▸ stand) fun hp1 tk1 still => ?_))
    have cell1 := still S _ offW cell
    show wpAny _ A.in1 (updateSeq
          S (fun _ => #[]) >>= _) _ _ _
    refine wpAny_bind ?_
    refine wpAny_updateSeq cell1 rfl (wpAny_bind (wpAny_letGo (wpAny_pure ?_)))
    refine out top _ tk1 (by rw [← fin1]; exact best) fun b o nb1 nb2 e => (Heap.get?_update_other _ _ (Ne.symm nb2)).trans (still b o nb1 e)
  | succ k again =>
    intro j s top c left within stand best cell out
    have more : j + 1 < n := by omega
    refine codeAny_builtin F.entry_max_loop ?_
    rw [Around.under_plainId F.plain_max_loop _]
    show wpAny _ A.in1 (seqItems?
          (.ref S) >>= _) _ _ s
    refine wpAny_bind (wpAny_seqItems cell rfl ?_)
    show wpAny _ A.in1 (tryCatch (pyNext
          (.ref I)) _ >>= _) _ _ s
    refine wpAny_bind (wpAny_tryCatch (walk.item (j + 1) s _ _ more stand fun v hp1 tk1 val stand1 still => ?_))
    have cell1 := still S _ offW cell
    show wpAny _ A.in1 (tryCatch (holding [v, v] (richCompare .Gt v top >>= _)) _ >>= _) _ _ _
    refine wpAny_bind (wpAny_tryCatch (wpAny_holding (wpAny_bind (above (j + 1) (argBest beats j) v top _ _ _ val best ?_))))
    refine wpAny_bind (wpAny_holding
          (wpAny_truthy_bool ?_))
    refine wpAny_bind (wpAny_letGo
          (wpAny_pure ?_))
    cases wins : beats (j + 1) (argBest beats j) with
    | true =>
      simp only [if_true]
      refine wpAny_bind ?_
      refine wpAny_updateSeq cell1 rfl (wpAny_bind (wpAny_letGo ?_))
      rw [nm]
      refine wpAny_pure ⟨plainId_quiet F.plain_max_loop _, again (j + 1) _ v _ (by omega) more (walk.frame _ _ _ stand1 fun b nb3 o e => ?_) (by simp only [argBest, wins, if_true]; exact val) (Heap.get?_update_self _ cell1 rfl)
        fun v1 hp2 tk2 val1 still2 => ?_⟩
      · exact (Heap.get?_update_other _ _ (fun h : S = b => offF (by rw [h]; exact nb3))).trans e
      · exact out v1 hp2 tk2 val1 fun b o nb1 nb2 e => still2 b o nb1 nb2 ((Heap.get?_update_other _ _ (Ne.symm nb2)).trans (still b o nb1 e))
    | false =>
      simp only [Bool.false_eq_true, if_false]
      refine wpAny_bind (wpAny_letGo ?_)
      rw [nm]
      refine wpAny_pure ⟨plainId_quiet F.plain_max_loop _, again (j + 1) _ top c (by omega) more stand1 (by simp only [argBest, wins, Bool.false_eq_true, if_false]; exact best) cell1 fun v1 hp2 tk2 val1 still2 => ?_⟩
      exact out v1 hp2 tk2 val1 fun b o nb1 nb2 e => still2 b o nb1 nb2 (still b o nb1 e)

theorem maxD_loop_first (walk : Walks prog w A.in1 I fp wr n P St) (beats : Nat → Nat → Bool) (above : CmpOf prog w A.in1 .Gt P beats) (S : Addr) (offF : S ∉ fp) (d : Value) (some1 : 0 < n) {s : Shared} {c : Nat} (stand : St 0 s.heap)
    (cell : s.heap.get? S = some { cls := .type "list", dict := none, data := .seq #[] c, slots := #[] })
    (out : ∀ v hp1 tk1, P (argBest beats (n - 1)) v → (∀ b o, b ∉ wr → b ≠ S → s.heap.get? b = some o → hp1.get? b = some o) → R (.ok (.ret v)) { s with heap := hp1, toks := tk1 }) :
    codeAny (model prog w) A (.builtin "max.loop" ⟨[.ref I, .none, .ref S], [(Str.ofString "default", d)]⟩) R s := by
  have offW : S ∉ wr := fun h => offF (walk.sub _ h)
  have nm : toString "max" ++ toString ".loop" = "max.loop" := by decide
  refine codeAny_builtin F.entry_max_loop ?_
  rw [Around.under_plainId F.plain_max_loop _]
  show wpAny _ A.in1 (seqItems?
        (.ref S) >>= _) _ _ s
  refine wpAny_bind (wpAny_seqItems cell rfl ?_)
  show wpAny _ A.in1 (tryCatch (pyNext
        (.ref I)) _ >>= _) _ _ s
  refine wpAny_bind (wpAny_tryCatch (walk.item 0 s _ _ some1 stand fun v hp1 tk1 val stand1 still => ?_))
  have cell1 := still S _ offW cell
  show wpAny _ A.in1 (updateSeq S
        (fun _ => #[v, v]) >>= _) _ _ _
  refine wpAny_bind ?_
  refine wpAny_updateSeq cell1 rfl ?_
  rw [nm]
  refine wpAny_pure ⟨plainId_quiet F.plain_max_loop _, maxD_loop walk beats above S offF d _ 0 _ v _ rfl some1 (walk.frame _ _ _ stand1 fun b nb3 o e => ?_) val (Heap.get?_update_self _ cell1 rfl) fun v1 hp2 tk2 val1 still2 => ?_⟩
  · exact (Heap.get?_update_other _ _ (fun h : S = b => offF (by rw [h]; exact nb3))).trans e
  · exact out v1 hp2 tk2 val1 fun b o nb1 nb2 e => still2 b o nb1 nb2 ((Heap.get?_update_other _ _ (Ne.symm nb2)).trans (still b o nb1 e))

theorem maxD_none (walk : Walks prog w A.in1 I fp wr 0 P St) (S : Addr) (offF : S ∉ fp) (d : Value) {s : Shared} {c : Nat} (stand : St 0 s.heap)
    (cell : s.heap.get? S = some { cls := .type "list", dict := none, data := .seq #[] c, slots := #[] })
    (out : ∀ hp1 tk1, (∀ b o, b ∉ wr → b ≠ S → s.heap.get? b = some o → hp1.get? b = some o) → R (.ok (.ret d)) { s with heap := hp1, toks := tk1 }) :
    codeAny (model prog w) A (.builtin "max.loop" ⟨[.ref I, .none, .ref S], [(Str.ofString "default", d)]⟩) R s := by
  have offW : S ∉ wr := fun h => offF (walk.sub _ h)
  have nm : toString "max" ++ toString ".loop" = "max.loop" := by decide
  refine codeAny_builtin F.entry_max_loop ?_
  rw [Around.under_plainId F.plain_max_loop _]
  show wpAny _ A.in1 (seqItems?
        (.ref S) >>= _) _ _ s
  refine wpAny_bind (wpAny_seqItems cell rfl ?_)
  show wpAny _ A.in1 (tryCatch (pyNext
        (.ref I)) _ >>= _) _ _ s
  refine wpAny_bind (wpAny_tryCatch (walk.done s _ _ stand fun hp1 tk1 still => ?_))
  refine wpAny_bind (wpAny_rule
        (wpAny_pure ?_))
  exact out hp1 tk1 fun b o h1 _ e => still b o h1 e
end
section
variable {P : Program} {w : World} {A : Around}
      {E : Value → Shared → Prop} {s : Shared}
theorem max_tree_kw {args : List Value} {kw : List (Str × Value)} {Q : Value → Shared → Prop} (fits : argsOk "max" ⟨args, kw⟩)
    (does : wpAny (model P w) A.in1 (Builtin.«max» ⟨args, kw⟩) (fun fin s' => match fin with
      | .done fl => (match (Except.ok fl : Result) with | .ok (.ret u) => Q u s' | .ok _ => False | .error er => E er s')
      | .again c' => c'.quiet = true ∧ codeAny (model P w) A c' (fun r s' => match r with | .ok (.ret v) => Q v s' | .ok _ => False | .error e => E e s') s') E s) :
    wpAny (model P w) A (call (.builtin "max") args kw) Q E s := by
  refine wpAny_call (codeAny_call_builtin F.plain_max F.entry_max ?_)
  simp only [checkBuiltinCall, F.kind_max]
  cases sg : Manifest.signature? "max" with
  | none => exact wpAny_pure does
  | some sig =>
    simp only [argsOk, sg] at fits
    have chk : Bind.checkArgs "max" sig ⟨args, kw⟩ = pure () := fits
    show wpAny _ A.in1 (Bind.checkArgs "max" sig ⟨args, kw⟩) _ _ s
    rw [chk]; exact wpAny_pure does
theorem maxD_walk {x d : Value} {Q : Value → Shared → Prop}
    (h : wpAny (model P w) A.in1 (pyIter x) (fun it s₂ => ∃ I fp wr n Pv St beats, it = .ref I ∧ Walks P w A.in1 I fp wr n Pv St ∧ St 0 s₂.heap ∧ (∀ b ∈ fp, b < s₂.heap.objs.size) ∧ CmpOf P w A.in1 .Gt Pv beats ∧
      (0 < n → ∀ v hp1 tk1, Pv (argBest beats (n - 1)) v → (∀ b o, b ∉ wr → s₂.heap.get? b = some o → hp1.get? b = some o) → Q v { s₂ with heap := hp1, toks := tk1 }) ∧
      (n = 0 → ∀ hp1 tk1, (∀ b o, b ∉ wr → s₂.heap.get? b = some o → hp1.get? b = some o) → Q d { s₂ with heap := hp1, toks := tk1 })) E s) :
    wpAny (model P w) A (call (.builtin "max") [x] [(Str.ofString "default", d)]) Q E s := by
  have nm : toString "max" ++ toString ".loop" = "max.loop" := by decide
  refine max_tree_kw (by unfold argsOk; kernel_rfl) ?_
  show wpAny _ A.in1 (Builtin.Builtins.bindParams "max" ["key",
        "default"] 0 ⟨[], [(Str.ofString "default", d)]⟩ >>= _) _ _ s
  have given : Builtin.Builtins.bindParams "max" ["key", "default"] 0 ⟨[], [(Str.ofString "default", d)]⟩ = pure [none, some d] := rfl
  refine wpAny_bind (wpAny_of_eq given ?_)
  refine wpAny_bind (wpAny_pure ?_)
  refine wpAny_bind (wpAny_mono h (fun
        it s₂ h₂ => ?_) fun _ _ e => e)
  obtain ⟨I, fp, wr, n, Pv, St, beats, rfl, walk, stand, inside, above, one, none1⟩ := h₂
  refine wpAny_bind (wpAny_newObj_type ?_)
  have offF : s₂.heap.objs.size ∉ fp := fun isIn => Nat.lt_irrefl _ (inside _ isIn)
  rw [nm]
  have stand2 := walk.frame _ _ _ stand fun b (_ : b ∈ fp) o e => Heap.get?_push_of_some { cls := .type "list", dict := none, data := .seq #[] : Obj } e
  by_cases some1 : 0 < n
  · refine wpAny_pure ⟨plainId_quiet F.plain_max_loop _, maxD_loop_first walk beats above s₂.heap.objs.size offF d some1 stand2 (Heap.get?_push_size _ rfl) fun v hp1 tk1 val left => ?_⟩
    exact one some1 v hp1 tk1 val fun b o nb1 e => left b o nb1 (Nat.ne_of_lt (Heap.lt_size e)) (Heap.get?_push_of_some _ e)
  · have e0 : n = 0 := by omega
    subst e0
    refine wpAny_pure ⟨plainId_quiet F.plain_max_loop _, maxD_none walk s₂.heap.objs.size offF d stand2 (Heap.get?_push_size _ rfl) fun hp1 tk1 left => ?_⟩
    exact none1 rfl hp1 tk1 fun b o nb1 e => left b o nb1 (Nat.ne_of_lt (Heap.lt_size e)) (Heap.get?_push_of_some _ e)
theorem maxD_ints {l : Addr} {its : List Value} {ns : List Int} {d : Value} {Q : Value → Shared → Prop} (hh : A.handled = none) (hl : s.heap.IsList l its.toArray) (hi : IntsAre its ns)
    (h1 : ∀ hp1 tk1 M t', (∀ b o, s.heap.get? b = some o → hp1.get? b = some o) → M ∈ ns → (∀ a, a ∈ ns → a ≤ M) → Q (.int M t') { s with heap := hp1, toks := tk1 })
    (chk : ns = [] → ∀ hp1 tk1, (∀ b o, s.heap.get? b = some o → hp1.get? b = some o) → Q d { s with heap := hp1, toks := tk1 }) :
    wpAny (model P w) A (call (.builtin "max") [.ref l] [(Str.ofString "default", d)]) Q E s := by
  obtain ⟨xs, e⟩ := hi.allInts.items
  have some1 : numsOf (intItems xs).toList = ns := by rw [← e]; exact hi.numsOf
  rw [nums_intItems] at some1
  subst some1
  rw [e] at hl
  refine maxD_walk (iter_intList hl fun s₂ e st inside hlI => ?_)
  subst e
  refine ⟨_, _, _, _, _, _, _, rfl, Walks.list (A := A.in1) hh _ l hlI (intItems xs), st, inside, CmpOf.ints_gt (numAt xs) (fun _ _ => intItems_at), fun hpos v hp1 tk1 val left => ?_, fun hz hp1 tk1 left => ?_⟩
  · have hsz : 0 < xs.size := by simpa [intItems] using hpos
    have hv : (intItems xs)[argBest (fun i j => decide (numAt xs i > numAt xs j)) (xs.size - 1)]? = some v := by simpa [intItems] using val
    obtain ⟨t, rfl⟩ := intItems_at hv
    obtain ⟨g1, g2⟩ := argBest_gt (numAt xs) (xs.size - 1)
    refine h1 hp1 tk1 _ t (old_kept left) ?_ fun a fits => ?_
    · rw [numAt_eq]; exact PySem.getD_mem (by rw [List.length_map, Array.length_toList]; omega)
    · obtain ⟨j, within, rfl⟩ := mem_getD fits
      rw [List.length_map, Array.length_toList] at within
      rw [← numAt_eq]
      exact g2 j (by omega)
  · refine chk ?_ hp1 tk1 (old_kept left)
    have hsz : xs.size = 0 := by simpa [intItems] using hz
    rw [← Array.length_toList, List.length_eq_zero_iff] at hsz
    rw [hsz]
    rfl
end
def rMaxDf (K : PySem.W.Frag) : List V → List V → Hp → VK → Prop := fun vs zs H Q => ∃ (a : Addr) (ns : List Int) (d : V), vs = [V.ref a] ∧ zs = [d] ∧ SqL K H a (ns.map V.int) ∧ (∀ m, m ∈ ns → (∀ y, y ∈ ns → y ≤ m) → Q (.int m) H) ∧ (ns = [] → Q d H)
theorem cr_maxDf {X : Cx} (does : X.calm = true) : CallRK X (.builtin "max") [Str.ofString "default"] (rMaxDf X.K) := by
  rintro pins s σ H xs zs us ws Q I r rz ⟨a, ns, d, rfl, rfl, hs, q1, q2⟩
  obtain ⟨its, rv, hl, _⟩ := I.list hs
  obtain ⟨u, rfl, ru⟩ : ∃ u, ws = [u] ∧ RelV d u := by
    cases rz with
    | cons h t => cases t; exact ⟨_, rfl, h⟩
  rw [Vals.ref1 r]
  exact maxD_ints (I.ok.hd does) hl.isList rv.ints (fun hp1 tk1 m t' left h1 chk => ⟨.int _, H, I.kept left, ⟨_, rfl⟩, q1 m h1 chk⟩) (fun e hp1 tk1 left => ⟨d, H, I.kept left, ru, q2 e⟩)
end L2

namespace L2
open PySem PySem.Spec PyProof.Rows PySem.W
/-! own rule: min(l, default=d) of a list of whole numbers -/
theorem dp_ns {K : PySem.W.Frag} {H : Hp} : ∀ ns : List Int, DpAll K H (ns.map V.int) (ns.map PyData.int)
  | [] => .nil
  | n :: r => .cons (.int n) (dp_ns r)
theorem fold_min : ∀ (ns : List Int) (n : Int), ns.foldl min n ∈ n :: ns ∧ ∀ y ∈ n :: ns, ns.foldl min n ≤ y
  | [], n => ⟨List.mem_cons_self, fun y hy => by rw [List.mem_singleton.mp hy]; exact Int.le_refl _⟩
  | a :: r, n => by
    obtain ⟨h1, h2⟩ := fold_min r (min n a)
    rw [List.foldl_cons]
    refine ⟨?_, fun y hy => ?_⟩
    · rcases List.mem_cons.mp h1 with e | e
      · rw [e]
        by_cases c : n ≤ a
        · rw [Int.min_eq_left c]; exact List.mem_cons_self
        · rw [Int.min_eq_right (by omega)]; exact List.mem_cons_of_mem _ List.mem_cons_self
      · exact List.mem_cons_of_mem _ (List.mem_cons_of_mem _ e)
    · have m := h2 (min n a) List.mem_cons_self
      rcases List.mem_cons.mp hy with e | e
      · rw [e]; omega
      · rcases List.mem_cons.mp e with e | e
        · rw [e]; omega
        · exact h2 y (List.mem_cons_of_mem _ e)
theorem alike_ns (ns : List Int) : AlikeAll (ns.map PyData.int) := by
  refine ⟨fun x hx y hy => ?_, fun x hx => ?_⟩
  · obtain ⟨a, _, rfl⟩ := List.mem_map.mp hx
    obtain ⟨b, _, rfl⟩ := List.mem_map.mp hy
    simp [alike]
  · obtain ⟨a, _, rfl⟩ := List.mem_map.mp hx
    exact fun e => by cases e
theorem dep_ns : ∀ ns : List Int, PyData.depthAll (ns.map .int) = 0
  | [] => rfl
  | n :: r => by
    rw [List.map_cons, PyData.depthAll, dep_ns r]
    rfl
def rMinDf (K : PySem.W.Frag) : List V → List V → Hp → VK → Prop := fun vs zs H Q => ∃ (a : Addr) (ns : List Int) (d : V), vs = [V.ref a] ∧ zs = [d] ∧ SqL K H a (ns.map V.int) ∧ (∀ m, m ∈ ns → (∀ y, y ∈ ns → m ≤ y) → Q (.int m) H) ∧ (ns = [] → Q d H)
theorem cr_minDf {X : Cx} (does : X.calm = true) (hu : X.A.units + 64 < cLine) : CallRK X (.builtin "min") [Str.ofString "default"] (rMinDf X.K) := by
  rintro pins s σ H xs zs us ws Q I r rz ⟨a, ns, d, rfl, rfl, hs, q1, q2⟩
  obtain ⟨its, rv, hl, _⟩ := I.list hs
  obtain ⟨u, rfl, ru⟩ : ∃ u, ws = [u] ∧ RelV d u := by
    cases rz with
    | cons h t => cases t; exact ⟨_, rfl, h⟩
  rw [Vals.ref1 r]
  obtain ⟨as, ra⟩ := Dp.readsAll I (ns.map PyData.int) (ns.map V.int) its (dp_ns ns) rv
  refine min_list_default (I.ok.hd does) hl.isList ra (alike_ns ns) (by rw [dep_ns]; omega) (fun e h' tk k => ⟨d, H, I.kept k, ru, q2 (List.map_eq_nil_iff.mp e)⟩) fun y ys i v h' tk bs e hv rd k => ?_
  cases ns with
  | nil => cases e
  | cons n rest =>
    rw [List.map_cons] at e
    obtain ⟨e1, e2⟩ := List.cons.inj e
    subst e1
    subst e2
    rw [minD_ints] at rd
    obtain ⟨f1, f2⟩ := fold_min rest n
    have hi := rv.ints
    have hv' : its[i]? = some
          v := by simpa using hv
    obtain ⟨t, rfl⟩ := PyProof.Rows.IntsAre.int_at hi i v hv'
    have eq : ((n :: rest).getD i 0) = rest.foldl min n := by
      generalize (n :: rest).getD i 0 = p at rd ⊢
      generalize rest.foldl min n = q at rd ⊢
      cases rd
      rfl
    rw [eq]
    exact ⟨.int _, H, I.kept k, ⟨_, rfl⟩, q1 _ f1 f2⟩
end L2

namespace K5
open PySem PySem.Spec PyProof.Rows L2
theorem cut_head (L : List Nat) {k : Nat} (h : k ≤ L.length) : cutV (nv L) none (some (k : Int)) = nv (L.take k) := by
  show ((nv L).drop (HT.sIx _ 0 none)).take (HT.sIx _ _ (some (k : Int)) - HT.sIx _ 0 none) = _
  rw [HT.sIx_none, HT.sIx_nat, List.drop_zero, Nat.sub_zero, Nat.min_eq_left (by rw [nv_len]; exact h)]
  unfold nv
  rw [List.map_take]
theorem cut_tail (L : List Nat) {k : Nat} (h : k ≤ L.length) : cutV (nv L) (some (k : Int)) none = nv (L.drop k) := by
  show ((nv L).drop (HT.sIx _ 0 (some (k : Int)))).take (HT.sIx _ _ none - HT.sIx _ 0 (some (k : Int))) = _
  rw [HT.sIx_none, HT.sIx_nat, Nat.min_eq_left (by rw [nv_len]; exact h), List.take_of_length_le (by rw [List.length_drop]; exact Nat.le_refl _)]
  unfold nv
  rw [List.map_drop]
def spFewL (K : PySem.W.Frag) : Sp := fun vs H Q _ => ∃ (a s : Addr) (n : Nat) (ds : List (Nat × Nat)) (S : S2), vs = [.ref a, .ref s] ∧ HouseAt K H a ds ∧ Tree n ds ∧ n ≤ 60 ∧ StateAt K H s S ∧ StOk n ds S ∧ (S.1.length = 1 → ∀ H', Same H H' → Q .non H') ∧
  (2 ≤ S.1.length → ∀ (H' : Hp) (N : Nat), Same H H' → FoundO ds S N → (∀ M, FoundO ds S M → N ≤ M) → Q (.int (N : Int)) H')
/-- what is found up to a pair -/
structure Fo (ds : List (Nat × Nat)) (S : S2) (J I C : Nat) (ns : List Nat) : Prop where
  are : ∀ N ∈ ns, FoundO ds S N
  all : ∀ i j x y w cut, i < j → S.1[i]? = some x → S.1[j]? = some y → Way ds [] y x w → cut ≤ w.length → (j < J ∨ (j = J ∧ i < I) ∨ (j = J ∧ i = I ∧ cut < C)) → cnt S j (w.take cut) + cnt S i (w.drop cut) ∈ ns
  len : ns.length ≤ 610 * J + 61 * I + C
section
variable {P : Program} {w : World} {K : PySem.W.Frag}
      {mg : Str → Option Value} {base : Heap}
theorem ok_l_fewest (T : Bl mg) (D : Def K mg "_law_fewest" s_l_fewest) (C_l_path : Cal P w K mg base "_law_path" ["_law_layout", "_law_start", "_law_end"] 2 (spPathL K)) : Cal P w K mg base "_law_fewest" ["_law_layout", "_law_situation"] 3 (spFewL K) := by
  refine D.ok sc_l_fewest (fun _ _ _ _ _ _ us hl => match us, hl with | [_, _], _ => rfl) (fun vs H Q E h => ?_) (fun f cdv A outer s0 H vs Q E hr h => ?_)
  · obtain ⟨a, s, n, ds, S, rfl, _⟩ := h
    rfl
  obtain ⟨a, s, n, ds, S, rfl, hH, tree, hn, st, ok, q1, q2⟩ := h
  obtain ⟨f_l_path, fd_l_path, g_l_path, k_l_path, b_l_path, G_l_path⟩ := C_l_path
  have few := ok.few
  have pos := ok.one
  have hdn := tree.len
  have big : (10000 : Nat) ≤ sizeLine := by decide
  obtain ⟨r, b, h1, h2, h3⟩ := id st
  refine ⟨_, (pss_cons (ps_asg (pv 1) (pg_tup (n := 2) rfl (pgs_cons (pg_name (i := 2) sc_l_fewest.nd rfl (.inl rfl)) (pgs_cons (pg_name (i := 3) sc_l_fewest.nd rfl (.inr rfl)) pgs_nil))))
    (pss_cons (ps_set (i := 4) sc_l_fewest.nd rfl (.inl rfl) (pe_lst pa_nil))
    (pss_cons (ps_for PassesOwn.never rfl (pi_range1 rfl T.range (pa_cons (pe_callB call_len_seq (by rfl) T.len PySem.boot_len (pa_cons (pv 2) pa_nil)) pa_nil)) (pg_name (i := 5) sc_l_fewest.nd rfl (.inr rfl))
    (pss_one (ps_for PassesOwn.never rfl (pi_range1 rfl T.range (pa_cons (pv 5) pa_nil)) (pg_name (i := 6) sc_l_fewest.nd rfl (.inr rfl))
    (pss_cons (ps_set (i := 7) sc_l_fewest.nd rfl (.inl rfl) (pe_call G_l_path (hr.mono (by decide)) (by rfl) g_l_path k_l_path b_l_path .nil pass0 (pa_cons (pv 0) (pa_cons (pe_ix ix_tup (pv 2) (pv 5) (fun _ _ => rfl)) (pa_cons (pe_ix ix_tup (pv 2) (pv 6) (fun _ _ => rfl)) pa_nil)))))
    (pss_one (ps_for PassesOwn.never rfl (pi_range1 rfl T.range (pa_cons (pe_op op_add (pe_callB call_len_seq (by rfl) T.len PySem.boot_len (pa_cons (pv 7) pa_nil)) pe_int) pa_nil)) (pg_name (i := 8) sc_l_fewest.nd rfl (.inl rfl))
    (pss_cons (ps_set (i := 9) sc_l_fewest.nd rfl (.inl rfl) (pe_callB call_len_seq (by rfl) T.len PySem.boot_len (pa_cons (pe_lc (own := [("_law_door", 10)]) (g := gName 10)  (tt := (tTest (tOp rEq (tOp (rIxT K) (tVar 3) (tVar 10)) (tVar 5)))) rfl sc_l_fewest.nd (pi_list (pe_slice sl_list (pv 7) po_none (po_some (pv 8)))) (blkOk_by (N := N_l_fewest) (sc := defScope s_l_fewest) (own := [("_law_door", 10)]) (by decide +kernel)) (fun _ _ _ _ _ => (pg_name (i := 10) sc_l_fewest.nd rfl (.inl rfl) (.inr rfl))) (fun _ _ _ _ _ => (pts_one (pt_cmpR op_eq (pe_ix ix_tup (pv 3) (pv 10) (fun _ _ => rfl)) (pv 5) (nomark _)))) (fun _ _ _ _ _ => (pv 10))) pa_nil)))
    (pss_one (ps_expr (pe_bm PySem.F.plainAttrs_list PySem.F.slot_list_append PySem.F.type_list_append mt_append (pv 4) (pa_cons (pe_op op_add (pv 9) (pe_callB call_len_seq (by rfl) T.len PySem.boot_len (pa_cons (pe_lc (own := [("_law_door", 10)]) (g := gName 10)  (tt := (tTest (tOp rEq (tOp (rIxT K) (tVar 3) (tVar 10)) (tVar 6)))) rfl sc_l_fewest.nd (pi_list (pe_slice sl_list (pv 7) (po_some (pv 8)) po_none)) (blkOk_by (N := N_l_fewest) (sc := defScope s_l_fewest) (own := [("_law_door", 10)]) (by decide +kernel)) (fun _ _ _ _ _ => (pg_name (i := 10) sc_l_fewest.nd rfl (.inl rfl) (.inr rfl))) (fun _ _ _ _ _ => (pts_one (pt_cmpR op_eq (pe_ix ix_tup (pv 3) (pv 10) (fun _ _ => rfl)) (pv 6) (nomark _)))) (fun _ _ _ _ _ => (pv 10))) pa_nil))) pa_nil)))))))))))
    (pss_one (ps_ret (pe_callBK (cr_minDf rfl hr.units) (by rfl) T.min (by decide +kernel) (pa_cons (pv 4) pa_nil) (pk_cons pe_non pk_nil))))))), ?_⟩
  refine ⟨_, rfl, _, _, rfl, h1, rfl, _, _, rfl, _, _, rfl, rfl, ?_⟩
  refine ⟨Nat.zero_le _, fun pf npf => ?_⟩
  refine ⟨_, rfl, r, _, rfl, .inr ((Same.upd npf).tup h2), ((S.1.length : Nat) : Int), by rw [nv_len], by omega, by omega, ?_⟩
  refine for_range (lo := 0) (n := S.1.length) (fun j σ H1 => ∃ (ns : List Nat) (y5 y6 y7 y8 y9 y10 : Option V), σ = [some (.ref a), some (.ref s), some (.ref r), some (.ref b), some (.ref pf), y5, y6, y7, y8, y9, y10] ∧ Same H H1 ∧ H1 pf = some (.lst (nv ns)) ∧ Fo ds S j 0 0 ns)
    ⟨[], _, _, _, _, _, _, rfl, Same.upd npf, upd_same, ⟨fun N h => (List.not_mem_nil h).elim, fun i j x y w cut a b c d e h => by omega, Nat.zero_le _⟩⟩ ?_ ?_
  · rintro j σ H1 hj ⟨ns, y5, y6, y7, y8, y9, y10, rfl, s1, hf1, fo1⟩
    rw [Int.zero_add]
    obtain ⟨y, hy⟩ : ∃ y, S.1[j]? = some y := get_of rfl hj
    have yn := ok.rooms y (List.mem_of_getElem? hy)
    refine ⟨_, rfl, (j : Int), rfl, by omega, by omega, ?_⟩
    refine for_range (lo := 0) (n := j) (fun i σ H2 => ∃ (ns : List Nat) (y6 y7 y8 y9 y10 : Option V), σ = [some (.ref a), some (.ref s), some (.ref r), some (.ref b), some (.ref pf), some (.int (j : Int)), y6, y7, y8, y9, y10] ∧ Same H H2 ∧ H2 pf = some (.lst (nv ns)) ∧ Fo ds S j i 0 ns)
      ⟨ns, _, _, _, _, _, rfl, s1, hf1, fo1⟩ ?_ ?_
    · rintro i σ H2 hi ⟨ns, y6, y7, y8, y9, y10, rfl, s2, hf2, fo2⟩
      rw [Int.zero_add]
      obtain ⟨x, hx⟩ : ∃ x, S.1[i]? = some x := get_of rfl (by omega)
      have xn := ok.rooms x (List.mem_of_getElem? hx)
      refine ⟨_, rfl, _, rfl, _, rfl, r, _, _, V.int (y : Int), rfl, rfl, s2.tup h2, nv_at hy, _, rfl, _, rfl, r, _, _, V.int (x : Int), rfl, rfl, s2.tup h2, nv_at hx, ?_⟩
      refine ⟨a, ds, n, y, x, rfl, hH.same s2, tree, by omega, yn, xn, fun H3 qp w s3 nqp W hqp => ?_⟩
      have s23 := s2.trans s3
      have hf3 := s3 _ _ hf2
      have nqf : qp ≠ pf := (ne_of_none hf2 nqp).symm
      have lw := walk_short W.w W.nd
      have wl : ∀ d ∈ w, d < ds.length := walk_doors W.w
      refine ⟨_, rfl, qp, _, rfl, .inl (SqL.of hqp), _, _, rfl, rfl, ?_⟩
      have eW : (fun i j : Int => V.int (i + j)) (((nv w).length : Nat) : Int) 1 = V.int ((w.length + 1 : Nat) : Int) := by
        rw [nv_len]
        exact congrArg V.int (by omega)
      rw [eW]
      refine ⟨((w.length + 1 : Nat) : Int), rfl, by omega, by omega, ?_⟩
      refine for_range (lo := 0) (n := w.length + 1) (fun cut σ H4 => ∃ (ns : List Nat) (y8 y9 y10 : Option V), σ = [some (.ref a), some (.ref s), some (.ref r), some (.ref b), some (.ref pf), some (.int (j : Int)), some (.int (i : Int)), some (.ref qp), y8, y9, y10] ∧ But pf H3 H4 ∧ H4 pf = some (.lst (nv ns)) ∧ Fo ds S j i cut ns)
        ⟨ns, _, _, _, rfl, But.refl _ _, hf3, fo2⟩ ?_ ?_
      · rintro cut σ H4 hcut ⟨ns, y8, y9, y10, rfl, bt4, hf4, fo4⟩
        rw [Int.zero_add]
        have cw : cut ≤ w.length := by omega
        have s4 : Same H H4 := But.same s23 npf bt4
        have hqp4 := bt4 _ _ nqf hqp
        -- the doors ahead
        refine ⟨_, rfl, _, rfl, _, rfl, qp, _, rfl, SqL.of hqp4, fun pc npc => ?_⟩
        rw [cut_head w cw]
        have s5 := Same.upd (o := .lst (nv (w.take cut))) npc
        have hpc : upd H4 pc (.lst (nv (w.take cut))) pc = some (.lst (nv (w.take cut))) := upd_same
        generalize upd H4 pc (.lst (nv (w.take cut))) = H5 at s5 hpc
        refine ⟨pc, rfl, ⟨_, SqL.of hpc⟩, fun pd npd => ?_⟩
        refine lc_it (walk_list (K := K) (a := pc) (xs := nv (w.take cut))) (fun t H6 => Same H5 H6 ∧ H6 pd = some (.lst (nv (((w.take cut).take t).filter fun d => decide (S.2[d]? = some j))))) ⟨Same.upd npd, upd_same⟩ (fun t H6 _ h => SqL.of (h.1 _ _ hpc)) ?_ ?_
        · rintro t x' Hz H6 ht ⟨s6, hpd⟩ ⟨rfl, ex⟩
          obtain ⟨v, hv, rfl⟩ := nv_some ex
          have vl := wl v (by first | exact List.mem_of_mem_take (List.mem_of_getElem? hv) | exact List.mem_of_mem_drop (List.mem_of_getElem? hv))
          obtain ⟨bv, hbv⟩ : ∃ y, S.2[v]? = some y := get_of ok.doors vl
          have lt := List.length_filter_le (fun d => decide (S.2[d]? = some j)) (((w.take cut)).take t)
          have lt2 : (((w.take cut)).take t).length ≤ w.length := by
            rw [List.length_take]
            have : (w.take cut).length ≤ w.length := by first | (rw [List.length_take]; omega) | (rw [List.length_drop]; omega)
            omega
          have etk : ((w.take cut)).take (t + 1) = ((w.take cut)).take t ++ [v] := take_succ_get hv
          refine ⟨rfl, ?_⟩
          refine ⟨_, rfl, _, rfl, b, _, _, V.int (bv : Int), rfl, rfl, ((s4.trans s5).trans s6).tup h3, nv_at hbv, _, rfl, rfl, _, rfl, ?_⟩
          rw [etk, List.filter_append]
          by_cases c : bv = j
          · refine iteT' (by rw [c]; simp) ?_
            refine ⟨_, rfl, _, hpd, by rw [nv_len]; exact small1000 (by omega), s6.at npd, ?_⟩
            have e1 : [v].filter (fun d => decide (S.2[d]? = some j)) = [v] := by simp [hbv, c]
            rw [upd_same, e1, nv_snoc]
          · refine iteF' (decide_eq_false fun z => c (by have := V.int.inj z; omega)) ?_
            have e1 : [v].filter (fun d => decide (S.2[d]? = some j)) = [] := by simp [hbv, c]
            rw [e1, List.append_nil]
            exact ⟨s6, hpd⟩
        rintro H6 ⟨s6, hpd⟩
        rw [nv_len, List.take_length] at hpd
        refine ⟨pd, _, rfl, .inl (SqL.of hpd), ?_⟩
        rw [nv_len]
        have s46 := s5.trans s6
        have s06 := s4.trans s46
        have hf6 := s46 _ _ hf4
        have hqp6 := s46 _ _ hqp4
        refine ⟨_, rfl, .inl ⟨rfl, _, SqL.of hf6⟩, _, rfl, _, rfl, _, rfl, _, rfl, qp, _, rfl, SqL.of hqp6, fun pc2 npc2 => ?_⟩
        rw [cut_tail w cw]
        have s7 := Same.upd (o := .lst (nv (w.drop cut))) npc2
        have hpc2 : upd H6 pc2 (.lst (nv (w.drop cut))) pc2 = some (.lst (nv (w.drop cut))) := upd_same
        generalize upd H6 pc2 (.lst (nv (w.drop cut))) = H7 at s7 hpc2
        refine ⟨pc2, rfl, ⟨_, SqL.of hpc2⟩, fun pd2 npd2 => ?_⟩
        refine lc_it (walk_list (K := K) (a := pc2) (xs := nv (w.drop cut))) (fun t H8 => Same H7 H8 ∧ H8 pd2 = some (.lst (nv (((w.drop cut).take t).filter fun d => decide (S.2[d]? = some i))))) ⟨Same.upd npd2, upd_same⟩ (fun t H8 _ h => SqL.of (h.1 _ _ hpc2)) ?_ ?_
        · rintro t x' Hz H8 ht ⟨s8, hpd2⟩ ⟨rfl, ex⟩
          obtain ⟨v, hv, rfl⟩ := nv_some ex
          have vl := wl v (by first | exact List.mem_of_mem_take (List.mem_of_getElem? hv) | exact List.mem_of_mem_drop (List.mem_of_getElem? hv))
          obtain ⟨bv, hbv⟩ : ∃ y, S.2[v]? = some y := get_of ok.doors vl
          have lt := List.length_filter_le (fun d => decide (S.2[d]? = some i)) (((w.drop cut)).take t)
          have lt2 : (((w.drop cut)).take t).length ≤ w.length := by
            rw [List.length_take]
            have : (w.drop cut).length ≤ w.length := by first | (rw [List.length_take]; omega) | (rw [List.length_drop]; omega)
            omega
          have etk : ((w.drop cut)).take (t + 1) = ((w.drop cut)).take t ++ [v] := take_succ_get hv
          refine ⟨rfl, ?_⟩
          refine ⟨_, rfl, _, rfl, b, _, _, V.int (bv : Int), rfl, rfl, ((s06.trans s7).trans s8).tup h3, nv_at hbv, _, rfl, rfl, _, rfl, ?_⟩
          rw [etk, List.filter_append]
          by_cases c : bv = i
          · refine iteT' (by rw [c]; simp) ?_
            refine ⟨_, rfl, _, hpd2, by rw [nv_len]; exact small1000 (by omega), s8.at npd2, ?_⟩
            have e1 : [v].filter (fun d => decide (S.2[d]? = some i)) = [v] := by simp [hbv, c]
            rw [upd_same, e1, nv_snoc]
          · refine iteF' (decide_eq_false fun z => c (by have := V.int.inj z; omega)) ?_
            have e1 : [v].filter (fun d => decide (S.2[d]? = some i)) = [] := by simp [hbv, c]
            rw [e1, List.append_nil]
            exact ⟨s8, hpd2⟩
        rintro H8 ⟨s8, hpd2⟩
        rw [nv_len, List.take_length] at hpd2
        refine ⟨pd2, _, rfl, .inl (SqL.of hpd2), ?_⟩
        rw [nv_len]
        have s68 := s7.trans s8
        have hf8 := s68 _ _ hf6
        refine ⟨_, _, rfl, rfl, ?_⟩
        have eN : (fun i j : Int => V.int (i + j)) (((w.take cut).filter fun d => decide (S.2[d]? = some j)).length : Int) (((w.drop cut).filter fun d => decide (S.2[d]? = some i)).length : Int) = V.int ((cnt S j (w.take cut) + cnt S i (w.drop cut) : Nat) : Int) := by
          unfold cnt
          exact congrArg V.int (by omega)
        rw [eN]
        have fl := fo4.len
        refine ⟨pf, _, _, rfl, rfl, hf8, by rw [nv_len]; omega, ?_⟩
        rw [← nv_snoc]
        refine ⟨ns ++ [cnt S j (w.take cut) + cnt S i (w.drop cut)], _, _, _, rfl, (bt4.trans (s46.trans s68).but).upd _, upd_same, ⟨fun N hN => ?_, fun i' j' x' y' w' cut' a b c d e h => ?_, by rw [List.length_append, List.length_singleton]; omega⟩⟩
        · rcases List.mem_append.mp hN with hN | hN
          · exact fo4.are N hN
          · rw [List.mem_singleton.mp hN]
            exact ⟨i, j, x, y, w, cut, hi, hx, hy, W, cw, rfl⟩
        · by_cases new : j' = j ∧ i' = i ∧ cut' = cut
          · obtain ⟨rfl, rfl, rfl⟩ := new
            rw [hx] at b
            rw [hy] at c
            cases b
            cases c
            have := W.unique tree d
            subst this
            exact List.mem_append.mpr (.inr (List.mem_singleton.mpr rfl))
          · exact List.mem_append.mpr (.inl (fo4.all i' j' x' y' w' cut' a b c d e (by omega)))
      · rintro σ H4 ⟨ns, y8, y9, y10, rfl, bt4, hf4, fo4⟩
        refine ⟨ns, _, _, _, _, _, rfl, But.same s23 npf bt4, hf4, ⟨fo4.are, fun i' j' x' y' w' cut a b c d e h => ?_, ?_⟩⟩
        · refine fo4.all i' j' x' y' w' cut a b c d e ?_
          rcases Nat.lt_or_ge j' j with z | z
          · exact .inl z
          · have ej : j' = j := by omega
            subst ej
            rcases Nat.lt_or_ge i' i with z2 | z2
            · exact .inr (.inl ⟨rfl, z2⟩)
            · have ei : i' = i := by omega
              subst ei
              rw [hx] at b
              rw [hy] at c
              cases b
              cases c
              have := W.unique tree d
              subst this
              exact .inr (.inr ⟨rfl, rfl, by omega⟩)
        · have := fo4.len
          omega
    · rintro σ H2 ⟨ns, y6, y7, y8, y9, y10, rfl, s2, hf2, fo2⟩
      exact ⟨ns, _, _, _, _, _, _, rfl, s2, hf2, ⟨fo2.are, fun i' j' x y w cut a b c d e h => fo2.all i' j' x y w cut a b c d e (by omega), by have := fo2.len; omega⟩⟩
  · rintro σ H1 ⟨ns, y5, y6, y7, y8, y9, y10, rfl, s1, hf1, fo1⟩
    refine ⟨_, rfl, pf, ns.map (fun x : Nat => (x : Int)), .non, rfl, rfl, by rw [← nv_int]; exact SqL.of hf1, fun m hm le => ?_, fun e => ?_⟩
    · obtain ⟨N, hN, rfl⟩ := List.mem_map.mp hm
      have fN := fo1.are N hN
      have two : 2 ≤ S.1.length := by
        obtain ⟨i, j, _, _, _, _, ij, _, hy, _⟩ := fN
        have := get_lt hy
        omega
      refine q2 two H1 N s1 fN fun M fM => ?_
      obtain ⟨i, j, x, y, w, cut, ij, hx, hy, W, hc, rfl⟩ := fM
      have := le _ (List.mem_map.mpr ⟨_, fo1.all i j x y w cut ij hx hy W hc (.inl (get_lt hy)), rfl⟩)
      omega
    · have e0 : ns = [] := List.map_eq_nil_iff.mp e
      refine q1 (Classical.byContradiction fun z => ?_) H1 s1
      obtain ⟨c, hc⟩ := List.exists_mem_of_length_pos (encs_some (ds := ds) (show 2 ≤ S.1.length by omega))
      obtain ⟨i, j, x, y, w, cut, ij, hx, hy, W, hc, e⟩ := foundO_of tree ok hc
      have := fo1.all i j x y w cut ij hx hy W hc (.inl (get_lt hy))
      rw [e0] at this
      exact List.not_mem_nil this
end
end K5

namespace K5
open PySem PySem.Spec PyProof.Rows L2
/-! ### a change of one door alters what is found by at most one -/
theorem cnt_cons (S : S2) (p e : Nat) (r : List Nat) : cnt S p (e :: r) = (if S.2[e]? = some p then 1 else 0) + cnt S p r := by
  unfold cnt
  by_cases c : S.2[e]? = some p
  · rw [if_pos c, List.filter_cons_of_pos (by simpa using c), List.length_cons, Nat.add_comm]
  · rw [if_neg c, List.filter_cons_of_neg (by simpa using c), Nat.zero_add]
theorem cnt_other {S S' : S2} {d p : Nat} (same : ∀ e : Nat, e ≠ d → S'.2[e]? = S.2[e]?) : ∀ {l : List Nat}, d ∉ l → cnt S' p l = cnt S p l
  | [], _ => rfl
  | e :: r, h => by
    rw [cnt_cons, cnt_cons, same e (fun z => h (by rw [z]; exact List.mem_cons_self)), cnt_other same fun z => h (List.mem_cons_of_mem _ z)]
theorem cnt_near {S S' : S2} {d p : Nat} (same : ∀ e : Nat, e ≠ d → S'.2[e]? = S.2[e]?) : ∀ {l : List Nat}, l.Nodup → cnt S' p l ≤ cnt S p l + 1
  | [], _ => Nat.zero_le _
  | e :: r, nd => by
    obtain ⟨n1, n2⟩ := List.nodup_cons.mp nd
    rw [cnt_cons, cnt_cons]
    by_cases c : e = d
    · subst c
      rw [cnt_other same n1]
      split <;> omega
    · rw [same e c]
      have := cnt_near (p := p) same n2
      omega
def tot (S : S2) (i j : Nat) (w : List Nat) (cut : Nat) : Nat := cnt S j (w.take cut) + cnt S i (w.drop cut)
theorem tot_near {S S' : S2} {d i j cut : Nat} {w : List Nat} (same : ∀ e : Nat, e ≠ d → S'.2[e]? = S.2[e]?) (nd : w.Nodup) : tot S' i j w cut ≤ tot S i j w cut + 1 := by
  unfold tot
  have n1 : (w.take cut).Nodup := nd.sublist (List.take_sublist _ _)
  have n2 : (w.drop cut).Nodup := nd.sublist (List.drop_sublist _ _)
  by_cases c : d ∈ w.take cut
  · have c2 : d ∉ w.drop cut := fun z => by
      rw [← List.take_append_drop cut w] at nd
      exact (List.nodup_append.mp nd).2.2 d c d z rfl
    rw [cnt_other same c2]
    have := cnt_near (p := j) same n1
    omega
  · rw [cnt_other same c]
    have := cnt_near (p := i) same n2
    omega
/-- the number of a state -/
def NumO (ds : List (Nat × Nat)) (S : S2) (N : Nat) : Prop := FoundO ds S N ∧ ∀ M, FoundO ds S M → N ≤ M
theorem num_near {n : Nat} {ds : List (Nat × Nat)} {S S' : S2} {d N N' : Nat} (rooms : S'.1 = S.1) (same : ∀ e : Nat, e ≠ d → S'.2[e]? = S.2[e]?) (h : NumO ds S N) (h' : NumO ds S' N') : N' ≤ N + 1 := by
  obtain ⟨i, j, x, y, w, cut, ij, hx, hy, W, hc, e⟩ := h.1
  have := h'.2 (tot S' i j w cut) ⟨i, j, x, y, w, cut, ij, by rw [rooms]; exact hx, by rw [rooms]; exact hy, W, hc, rfl⟩
  have := tot_near (i := i) (j := j) (cut := cut) same W.nd
  unfold tot at *
  omega
theorem opS_one {S : S2} {e : Nat × Nat} : ∀ x : Nat, x ≠ e.1 → (opS S [e]).2[x]? = S.2[x]? := fun x h => by
  show (S.2.set e.1 e.2)[x]? = _
  rw [List.getElem?_set_ne (fun z => h z.symm)]
theorem opS_cons {S : S2} {e : Nat × Nat} {r : List (Nat × Nat)} : opS S (e :: r) = opS (opS S [e]) r := rfl
theorem num_one {n : Nat} {ds : List (Nat × Nat)} {S : S2} {e : Nat × Nat} {N N' : Nat} (h : NumO ds S N) (h' : NumO ds (opS S [e]) N') : N' ≤ N + 1 ∧ N ≤ N' + 1 :=
  ⟨num_near (n := n) (S := S) (S' := opS S [e]) rfl opS_one h h', num_near (n := n) (S := opS S [e]) (S' := S) (d := e.1) rfl (fun x hx => (opS_one x hx).symm) h' h⟩
theorem numO_of {n : Nat} {ds : List (Nat × Nat)} (T : Tree n ds) {S : S2} (o : StOk n ds S) {c : Enc} (so : LeastO ds S c) : NumO ds S (c.cl S).length := by
  refine ⟨foundO_of T o so.mem, fun M hM => ?_⟩
  obtain ⟨c', hc', e⟩ := foundO_to T o hM
  rw [← e]
  exact so.least c' hc'
theorem NumO.unique {ds : List (Nat × Nat)} {S : S2} {N N' : Nat} (h : NumO ds S N) (h' : NumO ds S N') : N = N' := Nat.le_antisymm (h.2 _ h'.1) (h'.2 _ h.1)
/-- there is a number where there are two -/
theorem numO_ex {n : Nat} {ds : List (Nat × Nat)} (T : Tree n ds) {S : S2} (o : StOk n ds S) (two : 2 ≤ S.1.length) : ∃ N, NumO ds S N := by
  have : ∀ k N, N ≤ k → FoundO ds S N → ∃ M, NumO ds S M := by
    intro k
    induction k with
    | zero =>
      intro N hN f
      have : N = 0 := by omega
      subst this
      exact ⟨0, f, fun M _ => Nat.zero_le _⟩
    | succ k ih =>
      intro N hN f
      by_cases c : ∃ M, FoundO ds S M ∧ M < N
      · obtain ⟨M, fM, lM⟩ := c
        exact ih M (by omega) fM
      · exact ⟨N, f, fun M fM => Nat.le_of_not_lt fun z => c ⟨M, fM, z⟩⟩
  obtain ⟨c, hc⟩ := List.exists_mem_of_length_pos (encs_some (ds := ds) two)
  exact this _ _ (Nat.le_refl _) (foundO_of T o hc)
/-- so many changes lower the number by no more -/
theorem num_many {n : Nat} {ds : List (Nat × Nat)} (T : Tree n ds) : ∀ {l : List (Nat × Nat)} {S : S2} {N N' : Nat}, StOk n ds S → 2 ≤ S.1.length → ChOk S l → NumO ds S N → NumO ds (opS S l) N' → N ≤ N' + l.length
  | [], S, N, N', o, two, ch, h, h' => by
    rw [h.unique h']
    exact Nat.le_refl _
  | e :: r, S, N, N', o, two, ch, h, h' => by
    have ch1 : ChOk S [e] := fun x hx => ch x (by rw [List.mem_singleton.mp hx]; exact List.mem_cons_self)
    have o1 := opB_rooms o ch1
    obtain ⟨M, hM⟩ := numO_ex T o1 two
    have ch2 : ChOk (opS S [e]) r := fun x hx => by
      have := ch x (List.mem_cons_of_mem _ hx)
      exact ⟨by show x.1 < (opB S.2 [e]).length; rw [opB_len]; exact this.1, this.2⟩
    have := num_many T o1 two ch2 hM (by rw [opS_cons] at h'; exact h')
    have := (num_one (n := n) h hM).2
    rw [List.length_cons]
    omega
/-! ### the changes of an encounter lower its number by one each -/
theorem cnt_less {S S' : S2} {d p q : Nat} (same : ∀ e : Nat, e ≠ d → S'.2[e]? = S.2[e]?) (was : S.2[d]? = some p) (now : S'.2[d]? ≠ some p) : ∀ {l : List Nat}, l.Nodup → d ∈ l → cnt S' p l + 1 = cnt S p l
  | [], _, h => (List.not_mem_nil h).elim
  | e :: r, nd, h => by
    obtain ⟨n1, n2⟩ := List.nodup_cons.mp nd
    rw [cnt_cons, cnt_cons]
    by_cases c : e = d
    · subst c
      rw [cnt_other same n1, if_pos was, if_neg now]
      omega
    · rw [same e c]
      have := cnt_less (q := q) same was now n2 ((List.mem_cons.mp h).resolve_left fun z => c z.symm)
      omega
/-- a door and whom it is to bar: the changes along a way -/
def IsChg (S : S2) (i j : Nat) (w : List Nat) (cut : Nat) (e : Nat × Nat) : Prop := (e.1 ∈ w.take cut ∧ S.2[e.1]? = some j ∧ e.2 = i) ∨ (e.1 ∈ w.drop cut ∧ S.2[e.1]? = some i ∧ e.2 = j)
theorem tot_less {S : S2} {i j cut : Nat} {w : List Nat} {e : Nat × Nat} (ij : i ≠ j) (nd : w.Nodup) (h : IsChg S i j w cut e) : tot (opS S [e]) i j w cut + 1 = tot S i j w cut := by
  have n1 : (w.take cut).Nodup := nd.sublist (List.take_sublist _ _)
  have n2 : (w.drop cut).Nodup := nd.sublist (List.drop_sublist _ _)
  have dj : ∀ d, d ∈ w.take cut → d ∈ w.drop cut → False := fun d a b => by
    rw [← List.take_append_drop cut w] at nd
    exact (List.nodup_append.mp nd).2.2 d a d b rfl
  have lt : e.1 < S.2.length := by rcases h with ⟨_, z, _⟩ | ⟨_, z, _⟩ <;> exact get_lt z
  have now : (opS S [e]).2[e.1]? = some e.2 := by
    show (S.2.set e.1 e.2)[e.1]? = _
    rw [List.getElem?_set_self lt]
  unfold tot
  rcases h with ⟨m, was, e2⟩ | ⟨m, was, e2⟩
  · rw [cnt_other opS_one fun z => dj _ m z]
    have := cnt_less (q := i) (p := j) opS_one was (by rw [now, e2]; intro z; exact ij (Option.some.inj z)) n1 m
    omega
  · rw [cnt_other opS_one fun z => dj _ z m]
    have := cnt_less (q := j) (p := i) opS_one was (by rw [now, e2]; intro z; exact ij (Option.some.inj z).symm) n2 m
    omega
theorem tot_many {i j cut : Nat} {w : List Nat} (ij : i ≠ j) (nd : w.Nodup) : ∀ {l : List (Nat × Nat)} {S : S2}, (l.map Prod.fst).Nodup → (∀ e ∈ l, IsChg S i j w cut e) → tot (opS S l) i j w cut + l.length = tot S i j w cut
  | [], S, _, _ => rfl
  | e :: r, S, n0, h => by
    obtain ⟨n1, n2⟩ := List.nodup_cons.mp n0
    have h1 := tot_less ij nd (h e List.mem_cons_self)
    have h2 := tot_many ij nd (S := opS S [e]) n2 fun x hx => by
      have ne : x.1 ≠ e.1 := fun z => n1 (by rw [← z]; exact List.mem_map.mpr ⟨x, hx, rfl⟩)
      have := h x (List.mem_cons_of_mem _ hx)
      unfold IsChg at this ⊢
      rw [opS_one x.1 ne]
      exact this
    rw [opS_cons, List.length_cons]
    omega
end K5

namespace K5
open PySem PySem.Spec PyProof.Rows L2 PySem.W
theorem encOf_parts {n : Nat} {ds : List (Nat × Nat)} (T : Tree n ds) {S : S2} (o : StOk n ds S) {i j k x y : Nat} {w : List Nat} (hx : S.1[i]? = some x) (hy : S.1[j]? = some y) (W : Way ds [] y x w) (hk : k ≤ w.length) :
    (encOf ds S i j k).A.map Prod.fst = (w.drop (w.length - k)).reverse ∧ (encOf ds S i j k).B.map Prod.fst = w.take (w.length - k) := by
  have xn := o.rooms x (List.mem_of_getElem? hx)
  have yn := o.rooms y (List.mem_of_getElem? hy)
  obtain ⟨t1, n1⟩ := trF_spec T xn yn
  obtain ⟨t2, n2⟩ := trF_spec T yn xn
  have e2 : (trF ds y x).map Prod.fst = w := way_unique T t2.walk W.w n2 W.nd
  have e1 : (trF ds x y).map Prod.fst = w.reverse := way_unique T t1.walk W.w.rev n1 (List.pairwise_reverse.mpr (W.nd.imp Ne.symm))
  have l1 : (trF ds x y).length = w.length := by
    have := congrArg List.length e1
    rwa [List.length_map, List.length_reverse] at this
  unfold encOf
  rw [getD_of hx, getD_of hy]
  refine ⟨?_, ?_⟩
  · show ((trF ds x y).take k).map Prod.fst = _
    rw [List.map_take, e1, List.take_reverse]
  · show ((trF ds y x).take ((trF ds x y).length - k)).map Prod.fst = _
    rw [List.map_take, e2, l1]
theorem cl_chg {n : Nat} {ds : List (Nat × Nat)} (T : Tree n ds) {S : S2} (o : StOk n ds S) {i j k x y : Nat} {w : List Nat} (hx : S.1[i]? = some x) (hy : S.1[j]? = some y) (W : Way ds [] y x w) (hk : k ≤ w.length) {e : Nat × Nat} (he : e ∈ (encOf ds S i j k).cl S) : IsChg S i j w (w.length - k) e := by
  obtain ⟨pA, pB⟩ := encOf_parts T o hx hy W hk
  have he : e ∈ clsF S i j (encOf ds S i j k).A (encOf ds S i j k).B := (srtP_perm _).mem_iff.mp he
  unfold clsF at he
  rcases List.mem_append.mp he with he | he
  · obtain ⟨m, hm, rfl⟩ := List.mem_map.mp he
    obtain ⟨m1, m2⟩ := List.mem_filter.mp hm
    refine .inr ⟨?_, of_decide_eq_true m2, rfl⟩
    have : m.1 ∈ (encOf ds S i j k).A.map Prod.fst := List.mem_map.mpr ⟨m, m1, rfl⟩
    rw [pA] at this
    exact List.mem_reverse.mp this
  · obtain ⟨m, hm, rfl⟩ := List.mem_map.mp he
    obtain ⟨m1, m2⟩ := List.mem_filter.mp hm
    refine .inl ⟨?_, of_decide_eq_true m2, rfl⟩
    have : m.1 ∈ (encOf ds S i j k).B.map Prod.fst := List.mem_map.mpr ⟨m, m1, rfl⟩
    rw [pB] at this
    exact this
theorem cl_nodup {n : Nat} {ds : List (Nat × Nat)} (T : Tree n ds) {S : S2} (o : StOk n ds S) {i j k x y : Nat} {w : List Nat} (hx : S.1[i]? = some x) (hy : S.1[j]? = some y) (W : Way ds [] y x w) (hk : k ≤ w.length) : (((encOf ds S i j k).cl S).map Prod.fst).Nodup := by
  obtain ⟨pA, pB⟩ := encOf_parts T o hx hy W hk
  have nd := W.nd
  rw [← List.take_append_drop (w.length - k) w] at nd
  obtain ⟨d1, d2, d3⟩ := List.nodup_append.mp nd
  refine ((srtP_perm _).map Prod.fst).nodup_iff.mpr ?_
  show ((clsF S i j (encOf ds S i j k).A (encOf ds S i j k).B).map Prod.fst).Nodup
  unfold clsF
  rw [List.map_append, List.map_map, List.map_map]
  have sA : (((encOf ds S i j k).A.filter fun m => decide (S.2[m.1]? = some i)).map (Prod.fst ∘ fun m => (m.1, j))).Sublist ((encOf ds S i j k).A.map Prod.fst) := List.Sublist.map _ List.filter_sublist
  have sB : (((encOf ds S i j k).B.filter fun m => decide (S.2[m.1]? = some j)).map (Prod.fst ∘ fun m => (m.1, i))).Sublist ((encOf ds S i j k).B.map Prod.fst) := List.Sublist.map _ List.filter_sublist
  rw [pA] at sA
  rw [pB] at sB
  refine List.nodup_append.mpr ⟨(List.pairwise_reverse.mpr (d2.imp Ne.symm)).sublist sA, d1.sublist sB, fun a ha b hb e => ?_⟩
  have h1 := List.mem_reverse.mp (sA.subset ha)
  have h2 := sB.subset hb
  exact d3 b h2 a h1 e.symm
theorem le_door {a b : Nat × Nat} (h : dataLe false dP2 a b = true) : a.1 ≤ b.1 := by
  refine Classical.byContradiction fun c => ?_
  have h2 : (!(listOrd itemOrd).blt (keyToks (dP2 b)) (keyToks (dP2 a))) = true := h
  have e : (listOrd itemOrd).blt (keyToks (dP2 b)) (keyToks (dP2 a)) = true := by
    have lt : (b.1 : Int) < (a.1 : Int) := by omega
    simp only [dP2, keyToks, keyToksAll, List.cons_append, List.nil_append, PyProof.Rows.lexLt, itemLt]
    simp [lt]
  rw [e] at h2
  cases h2
/-- what the changes of the fewest openings are good for -/
structure ClF (n : Nat) (ds : List (Nat × Nat)) (S : S2) (c : Enc) : Prop where
  asc : (c.cl S).Pairwise fun x y => x.1 < y.1
  ch : ChOk S (c.cl S)
  diff : ∀ x ∈ c.cl S, S.2[x.1]? ≠ some x.2
  apt : ¬ Apt ds (opS S (c.cl S))
  sub : ∀ (l : List (Nat × Nat)) (N : Nat), l.Sublist (c.cl S) → NumO ds (opS S l) N → N + l.length = (c.cl S).length
theorem LeastO.facts {n : Nat} {ds : List (Nat × Nat)} (T : Tree n ds) {S : S2} (o : StOk n ds S) {c : Enc} (so : LeastO ds S c) : ClF n ds S c := by
  have nu := numO_of T o so
  obtain ⟨i, j, k, ij, jl, hk, ec⟩ := mem_encs.mp so.mem
  obtain ⟨x, hx⟩ : ∃ x, S.1[i]? = some x := get_of rfl (by omega)
  obtain ⟨y, hy⟩ : ∃ y, S.1[j]? = some y := get_of rfl jl
  have xn := o.rooms x (List.mem_of_getElem? hx)
  have yn := o.rooms y (List.mem_of_getElem? hy)
  obtain ⟨t2, n2⟩ := trF_spec T yn xn
  obtain ⟨w, ew⟩ : ∃ w, w = (trF ds y x).map Prod.fst := ⟨_, rfl⟩
  have W : Way ds [] y x w := by rw [ew]; exact ⟨t2.walk, n2, fun _ _ h => nomatch h⟩
  rw [(encOf_num T o (k := 0) hx hy W (Nat.zero_le _)).2] at hk
  subst ec
  have chg := fun {e} he => cl_chg T o hx hy W hk (e := e) he
  have nd := cl_nodup T o hx hy W hk
  have num := (encOf_num T o hx hy W hk).1
  have ne : i ≠ j := by omega
  have two : 2 ≤ S.1.length := by omega
  have bars : ∀ {d p : Nat}, S.2[d]? = some p → d < S.2.length ∧ p < S.1.length := fun {d p} h => ⟨get_lt h, o.bars p (List.mem_of_getElem? h)⟩
  have ch : ChOk S ((encOf ds S i j k).cl S) := fun e he => by
    rcases chg he with ⟨_, z, e2⟩ | ⟨_, z, e2⟩
    · exact ⟨get_lt z, by rw [e2]; omega⟩
    · exact ⟨get_lt z, by rw [e2]; exact jl⟩
  refine ⟨?_, ch, fun e he => ?_, ?_, fun l N sl hN => ?_⟩
  · have s := srtP_sorted (clsF S i j (encOf ds S i j k).A (encOf ds S i j k).B)
    have nd2 : ((srtP (clsF S i j (encOf ds S i j k).A (encOf ds S i j k).B)).map Prod.fst).Nodup := nd
    unfold List.Nodup at nd2
    rw [List.pairwise_map] at nd2
    refine List.Pairwise.imp₂ (fun a b h1 h2 => ?_) s nd2
    have := le_door h1
    omega
  · rcases chg he with ⟨_, z, e2⟩ | ⟨_, z, e2⟩
    · rw [z, e2]
      intro q
      exact ne (Option.some.inj q).symm
    · rw [z, e2]
      intro q
      exact ne (Option.some.inj q)
  · have tm := tot_many ne W.nd nd fun e he => chg he
    have o2 := opB_rooms o ch
    have hx2 : (opS S ((encOf ds S i j k).cl S)).1[i]? = some x := hx
    have hy2 : (opS S ((encOf ds S i j k).cl S)).1[j]? = some y := hy
    obtain ⟨q1, q2⟩ := encOf_num T o2 hx2 hy2 W hk
    have z0 : ((encOf ds (opS S ((encOf ds S i j k).cl S)) i j k).cl (opS S ((encOf ds S i j k).cl S))).length = 0 := by
      rw [q1]
      unfold tot at tm
      omega
    have cl0 : clsF (opS S ((encOf ds S i j k).cl S)) i j (encOf ds (opS S ((encOf ds S i j k).cl S)) i j k).A (encOf ds (opS S ((encOf ds S i j k).cl S)) i j k).B = [] := by
      have e := List.length_eq_zero_iff.mp z0
      have p := srtP_perm (clsF (opS S ((encOf ds S i j k).cl S)) i j (encOf ds (opS S ((encOf ds S i j k).cl S)) i j k).A (encOf ds (opS S ((encOf ds S i j k).cl S)) i j k).B)
      have e : srtP (clsF (opS S ((encOf ds S i j k).cl S)) i j (encOf ds (opS S ((encOf ds S i j k).cl S)) i j k).A (encOf ds (opS S ((encOf ds S i j k).cl S)) i j k).B) = [] := e
      rw [e] at p
      exact p.nil_eq.symm
    intro ap
    have ce := (cands_apt T o2).mpr ap
    have mem : encOf ds (opS S ((encOf ds S i j k).cl S)) i j k ∈ cands ds (opS S ((encOf ds S i j k).cl S)) := List.mem_filter.mpr ⟨mem_encs.mpr ⟨i, j, k, ij, jl, by rw [q2]; exact hk, rfl⟩, decide_eq_true cl0⟩
    rw [ce] at mem
    exact List.not_mem_nil mem
  · have chl : ChOk S l := fun e he => ch e (sl.subset he)
    have ndl : (l.map Prod.fst).Nodup := nd.sublist (sl.map _)
    have tm := tot_many ne W.nd ndl fun e he => chg (sl.subset he)
    have low := num_many T o two chl nu hN
    have up := hN.2 (tot (opS S l) i j w (w.length - k)) ⟨i, j, x, y, w, _, ij, hx, hy, W, Nat.sub_le _ _, rfl⟩
    rw [num] at low ⊢
    unfold tot at tm up
    omega
end K5

namespace L2
open PySem
/-! how long a text of nested data may be -/
theorem shown_int64 : ∀ x : Fin 64, (PyData.shown (.int (x.val : Int))).length ≤ 2 := by decide +kernel
theorem shown_nat {x : Nat} (h : x < 64) : (PyData.shown (.int (x : Int))).length ≤ 2 := shown_int64 ⟨x, h⟩
theorem textFrom_le : ∀ (ts : List Str) (m k : Nat) (acc : Str), (∀ t ∈ ts, t.length ≤ m) → (textFrom k acc ts).length ≤ acc.length + ts.length * (m + 2)
  | [], m, k, acc, h => by show acc.length ≤ _; simp
  | t :: r, m, k, acc, h => by
    have ih := textFrom_le r m (k + 1) (acc ++ (if k > 0 then ", " else "" : String) ++ t) fun t ht => h t (List.mem_cons_of_mem _ ht)
    have h1 := h t List.mem_cons_self
    have e : (acc ++ Str.ofString (if k > 0 then ", " else "" : String) ++ t).length ≤ acc.length + 2 + t.length := by
      rw [strLen_append, strLen_append]
      have : (Str.ofString (if k > 0 then ", " else "" : String)).length ≤ 2 := by
        split <;> decide +kernel
      omega
    show (textFrom (k + 1) (acc ++ Str.ofString (if k > 0 then ", " else "" : String) ++ t) r).length ≤ _
    refine Nat.le_trans ih ?_
    rw [List.length_cons, Nat.succ_mul]
    exact Nat.le_trans (Nat.add_le_add_right e _) (by omega)
theorem piled_le : ∀ (ts : List Str) (m : Nat), (∀ t ∈ ts, t.length ≤ m) → piled ts ≤ ts.length * (m + 2)
  | [], m, h => by simp [piled]
  | t :: r, m, h => by
    have ih := piled_le r m fun t ht => h t (List.mem_cons_of_mem _ ht)
    have h1 := h t List.mem_cons_self
    rw [piled_cons, List.length_cons, Nat.succ_mul]
    omega
theorem listText_le (ts : List Str) (m : Nat) (h : ∀ t ∈ ts, t.length ≤ m) : (listText ts).length ≤ ts.length * (m + 2) + 2 := by
  unfold listText
  rw [strLen_append]
  have := textFrom_le ts m 0 "[" h
  have e1 : ((("[" : String) : Str)).length = 1 := rfl
  have e2 : ((("]" : String) : Str)).length = 1 := rfl
  omega
theorem tupleText_le (ts : List Str) (m : Nat) (h : ∀ t ∈ ts, t.length ≤ m) : (tupleText ts).length ≤ ts.length * (m + 2) + 3 := by
  unfold tupleText
  rw [strLen_append, strLen_append]
  have e1 : ((("(" : String)
        : Str)).length = 1 := rfl
  have e3 : (((if ts.length == 1 then ",)" else ")" : String) : Str)).length ≤ 2 := by split <;> decide
  have h2 := piled_le ts m h
  cases ts with
  | nil =>
    have e4 : (Str.join ", " ([] : List Str)).length = 0 := rfl
    omega
  | cons x r =>
    have := join_length_add (x :: r) (by simp)
    omega
theorem shownAll_map : ∀ l : List PyData, PyData.shownAll l = l.map PyData.shown
  | [] => rfl
  | x :: r => by
    rw [PyData.shownAll, shownAll_map r]
    rfl
theorem shown_tup_le (l : List PyData) (m : Nat) (h : ∀ d ∈ l, d.shown.length ≤ m) : (PyData.tuple l).shown.length ≤ l.length * (m + 2) + 3 := by
  have := tupleText_le (l.map PyData.shown) m fun t ht => by
    obtain ⟨d, hd, rfl⟩ := List.mem_map.mp ht
    exact h d hd
  rw [List.length_map] at this
  rw [PyData.shown, shownAll_map]
  exact this
theorem shown_list_le (l : List PyData) (m : Nat) (h : ∀ d ∈ l, d.shown.length ≤ m) : (PyData.list l).shown.length ≤ l.length * (m + 2) + 2 := by
  have := listText_le (l.map PyData.shown) m fun t ht => by
    obtain ⟨d, hd, rfl⟩ := List.mem_map.mp ht
    exact h d hd
  rw [List.length_map] at this
  rw [PyData.shown, shownAll_map]
  exact this
end L2

namespace L2
open PySem PySem.Spec PyProof.Rows
/-- as Cal, where no guard stands -/
def CalG (P : Program) (w : World) (K : PySem.W.Frag) (mg : Str → Option Value) (base : Heap) (x : Str) (ps : List Str) (k : Nat) (sp : Sp) : Prop :=
  ∃ (f : Addr) (fd : FuncData), mg x = some (.ref f) ∧ PySem.W.keepIn K (.ref f) = true ∧ Binds K fd ps [] ∧ FnG P w K mg base k f fd ps sp
theorem Def.okG {P : Program} {w : World} {K : PySem.W.Frag} {mg : Str → Option Value} {base : Heap} {x : Str} {st : Stmt} {N ps : List Str} {k : Nat} {sp : Sp} (D : Def K mg x st) (S : FnScope N ps (defScope st))
    (hb : ∀ (kV doc pm : Value) (an : Option Addr) (cdv ct : Value) (us : List Value), us.length = ps.length → bindArgs (PySem.W.fnOf x x (defArgs st) (defBody st) (defScope st) .none kV doc pm an cdv ct) ⟨us, []⟩ = pure (ps.zip us))
    (ar : ∀ vs H Q E, sp vs H Q E → vs.length = ps.length)
    (hbody : ∀ (f : Addr) (cdv : Value) (A : Around) (outer : List Env) (s : Shared) (H : Hp) (vs : List V) (Q : VK) (E : XK), Room k (A.deeper (envOfC x (defScope st) s.heap.objs.size f cdv)) → (A.deeper (envOfC x (defScope st) s.heap.objs.size f cdv)).guards = some [] → sp vs H Q E →
      ∃ t, PSs (cxOf CX0 P w K mg base N x (defScope st) f cdv A outer s H E).nox (defBody st) t ∧ t { nx := fun _ H' => Q .non H', rt := Q } (start N vs) H) : CalG P w K mg base x ps (k + 1) sp := by
  obtain ⟨f, fd, F, m⟩ := D
  exact ⟨f, fd, m, F.kp, F.binds hb, F.okG S ar fun cdv A outer s H vs Q E hr hq h => hbody f cdv A outer s H vs Q E hr hq h⟩
end L2

namespace K5
open PySem PySem.Spec PyProof.Rows L2
/-! the house and the state as text -/
def dE (e : Nat × Nat) : PyData := .tuple [.int (e.1 : Int), .int (e.2 : Int)]
def dH (ds : List (Nat × Nat)) : PyData := .tuple (ds.map dE)
def dHS (ds : List (Nat × Nat)) (S : S2) : PyData := .list [dH ds, dS S]
section
variable {K : PySem.W.Frag} {H : Hp} {a s : Addr} {ds : List (Nat × Nat)} {S : S2}
theorem dp_Es : ∀ (rs : List Addr) (ds : List (Nat × Nat)), rs.length = ds.length → (∀ (d : Nat) (r : Addr) (e : Nat × Nat), rs[d]? = some r → ds[d]? = some e → SqT K H r [.int e.1, .int e.2]) → DpAll K H (rs.map V.ref) (ds.map dE)
  | [], [], _, _ => .nil
  | [], _ :: _, h, _ => by simp at h
  | _ :: _, [], h, _ => by simp at h
  | r :: rs, e :: ds, h, hd => .cons (.tup (hd 0 r e rfl rfl) (.cons (.int _) (.cons (.int _) .nil))) (dp_Es rs ds (by simpa using h) fun d r' e' x y => hd (d + 1) r' e' x y)
theorem dp_H (h : HouseAt K H a ds) : Dp K H (.ref a) (dH ds) := by
  obtain ⟨rs, h1, h2, h3⟩ := h
  exact .tup h1 (dp_Es rs ds h2 h3)
theorem dp_HS {p : Addr} (hp : SqL K H p [.ref a, .ref s]) (h : HouseAt K H a ds) (st : StateAt K H s S) : Dp K H (.ref p) (dHS ds S) := .lst hp (.cons (dp_H h) (.cons (dp_S st) .nil))
theorem dE_lay (z : Nat × Nat) : (dE z).canLay0 = true := by simp [dE, PyData.canLay0, PyData.canLayAll0]
theorem dEs_lay : ∀ zs : List (Nat × Nat), PyData.canLayAll0 (zs.map dE) = true
  | [] => by simp [PyData.canLayAll0]
  | z :: zs => by simp [PyData.canLayAll0, dE_lay z, dEs_lay zs]
theorem dE_depth (z : Nat × Nat) : (dE z).depth ≤ 2 := by simp [dE, PyData.depth, PyData.depthAll]
theorem dEs_depth : ∀ zs : List (Nat × Nat), PyData.depthAll (zs.map dE) ≤ 2
  | [] => by simp [PyData.depthAll]
  | z :: zs => by
    have h1 := dEs_depth zs
    have h2 := dE_depth z
    simp only [List.map_cons, PyData.depthAll]
    omega
theorem dHS_nodict : (dHS ds S).hasDict = false := by
  refine PyData.hasDict_of_canLay _ ?_
  simp only [dHS, dH, dS, PyData.canLay0, PyData.canLayAll0, dEs_lay, dIs_lay, Bool.and_true]
theorem dHS_depth : (dHS ds S).depth ≤ 20 := by
  have h1 := dEs_depth ds
  have h2 := dIs_depth S.1
  have h3 := dIs_depth S.2
  simp only [dHS, dH, dS, PyData.depth, PyData.depthAll]
  omega
theorem small_show {x : Nat} (h : x < 64) : PyData.showable (.int (x : Int)) = true := by
  have : ∀ x : Fin 64, PyData.showable (.int (x.val : Int)) = true := by decide +kernel
  exact this ⟨x, h⟩
theorem showIs : ∀ l : List Nat, (∀ x ∈ l, x < 64) → PyData.showableAll (dIs l) = true
  | [], _ => by simp [dIs, PyData.showableAll]
  | x :: r, h => by
    have ih := showIs r fun y hy => h y (List.mem_cons_of_mem _ hy)
    unfold dIs at ih ⊢
    rw [List.map_cons, List.map_cons, PyData.showableAll, ih, small_show (h x List.mem_cons_self)]
    rfl
theorem showEs : ∀ l : List (Nat × Nat), (∀ e ∈ l, e.1 < 64 ∧ e.2 < 64) → PyData.showableAll (l.map dE) = true
  | [], _ => by simp [PyData.showableAll]
  | e :: r, h => by
    have ih := showEs r fun y hy => h y (List.mem_cons_of_mem _ hy)
    obtain ⟨h1, h2⟩ := h e List.mem_cons_self
    rw [List.map_cons, PyData.showableAll, ih, dE]
    simp only [PyData.showable, PyData.showableAll] at *
    have a1 := small_show h1
    have a2 := small_show h2
    simp only [PyData.showable] at a1 a2
    rw [a1, a2]
    rfl
theorem dHS_show {n : Nat} (T : Tree n ds) (ok : StOk n ds S) (hn : n ≤ 60) : (dHS ds S).showable = true := by
  have h1 := showEs ds fun e he => by
    have := T.lt e he
    omega
  have h2 := showIs S.1 fun x hx => by
    have := ok.rooms x hx
    omega
  have h3 := showIs S.2 fun x hx => by
    have := ok.bars x hx
    have := ok.few
    omega
  simp only [dHS, dH, dS, PyData.showable, PyData.showableAll, h1, h2, h3]
  rfl
theorem dHS_len {n : Nat} (T : Tree n ds) (ok : StOk n ds S) (hn : n ≤ 60) : (dHS ds S).shown.length ≤ sizeLine := by
  have hdn := T.len
  have hE : ∀ d ∈ ds.map dE, d.shown.length ≤ 11 := fun d hd => by
    obtain ⟨e, he, rfl⟩ := List.mem_map.mp hd
    have hl := T.lt e he
    refine shown_tup_le [.int (e.1 : Int), .int (e.2 : Int)] 2 fun d hd => ?_
    simp only [List.mem_cons, List.not_mem_nil, or_false] at hd
    rcases hd with rfl | rfl
    · exact shown_nat (by omega)
    · exact shown_nat (by omega)
  have hI : ∀ l : List Nat, (∀ x ∈ l, x < 64) → ∀ d ∈ dIs l, d.shown.length ≤ 2 := fun l h d hd => by
    unfold dIs at hd
    rw [List.map_map] at hd
    obtain ⟨x, hx, rfl⟩ := List.mem_map.mp hd
    exact shown_nat (h x hx)
  have l1 := shown_tup_le (ds.map dE) 11 hE
  have l2 := shown_tup_le (dIs S.1) 2 (hI S.1 fun x hx => by have := ok.rooms x hx; omega)
  have l3 := shown_tup_le (dIs S.2) 2 (hI S.2 fun x hx => by have := ok.bars x hx; have := ok.few; omega)
  have e2 : (dIs S.1).length = S.1.length := by simp [dIs]
  have e3 : (dIs S.2).length = S.2.length := by simp [dIs]
  rw [List.length_map] at l1
  rw [e2] at l2
  rw [e3] at l3
  have few := ok.few
  have hd := ok.doors
  have l4 := shown_tup_le [.tuple (dIs S.1), .tuple (dIs S.2)] 400 fun d hd => by
    simp only [List.mem_cons, List.not_mem_nil, or_false] at hd
    rcases hd with rfl | rfl <;> omega
  have l5 := shown_list_le [dH ds, dS S] 2000 fun d hd => by
    simp only [List.mem_cons, List.not_mem_nil, or_false] at hd
    rcases hd with rfl | rfl
    · show (PyData.tuple (ds.map dE)).shown.length ≤ 2000
      omega
    · show (PyData.tuple [.tuple (dIs S.1), .tuple (dIs S.2)]).shown.length ≤ 2000
      have : ([.tuple (dIs S.1), .tuple (dIs S.2)] : List PyData).length = 2 := rfl
      omega
  refine Nat.le_trans l5 ?_
  show 2 * 2002 + 2 ≤ sizeLine
  decide
end
end K5

namespace K5
open PySem PySem.Spec PyProof.Rows L2
/-! ### the text of a number and its changes -/
def dRO (l : List (Nat × Nat)) : PyData := .tuple [.int (l.length : Int), .list (l.map dP2)]
theorem dP2_E (l : List (Nat × Nat)) : l.map dP2 = l.map dE := rfl
theorem dRO_nodict (l : List (Nat × Nat)) : (dRO l).hasDict = false := by
  refine PyData.hasDict_of_canLay _ ?_
  simp only [dRO, PyData.canLay0, PyData.canLayAll0, dP2_E, dEs_lay, Bool.and_true]
theorem dRO_depth (l : List (Nat × Nat)) : (dRO l).depth ≤ 20 := by
  have := dEs_depth l
  simp only [dRO, PyData.depth, PyData.depthAll, dP2_E]
  omega
theorem dRO_show {l : List (Nat × Nat)} (h : ∀ e ∈ l, e.1 < 64 ∧ e.2 < 64) (ll : l.length < 64) : (dRO l).showable = true := by
  have a := showEs l h
  have b := small_show ll
  simp only [dRO, PyData.showable, PyData.showableAll, dP2_E] at b ⊢
  rw [a]
  try rw [b]
  try rfl
theorem dRO_len {l : List (Nat × Nat)} (h : ∀ e ∈ l, e.1 < 64 ∧ e.2 < 64) (ll : l.length < 64) : (dRO l).shown.length ≤ sizeLine := by
  have h1 : ∀ d ∈ l.map dE, d.shown.length ≤ 15 := fun d hd => by
    obtain ⟨m, hm, rfl⟩ := List.mem_map.mp hd
    obtain ⟨a1, a2⟩ := h m hm
    have := shown_tup_le [.int (m.1 : Int), .int (m.2 : Int)] 2 fun d hd => by
      simp only [List.mem_cons, List.not_mem_nil, or_false] at hd
      rcases hd with rfl | rfl
      · exact shown_nat a1
      · exact shown_nat a2
    refine Nat.le_trans this ?_
    show 2 * 4 + 3 ≤ 15
    decide
  have l1 := shown_list_le (l.map dE) 15 h1
  rw [List.length_map] at l1
  have l2 := shown_tup_le [.int (l.length : Int), .list (l.map dE)] 40000 fun d hd => by
    simp only [List.mem_cons, List.not_mem_nil, or_false] at hd
    rcases hd with rfl | rfl
    · have := shown_nat ll
      omega
    · show (PyData.list (l.map dE)).shown.length ≤ _
      omega
  refine Nat.le_trans l2 ?_
  show 2 * 40002 + 3 ≤ sizeLine
  decide
theorem dH_shaped (ds : List (Nat × Nat)) : SeqAt.shaped (dH ds) = true := by
  have := dEs_depth ds
  refine shaped_mk ?_ ?_
  · simp only [dH, PyData.canLay0]
    exact dEs_lay ds
  · simp only [dH, PyData.depth]
    omega
theorem dH_nil (ds : List (Nat × Nat)) : PyData.eqv (dH ds) (.tuple []) = decide (ds = []) := by
  cases ds with
  | nil => exact d_refl (dH_shaped [])
  | cons m r =>
    rw [decide_eq_false (by simp)]
    simp only [dH, List.map_cons, PyData.eqv, PyData.eqvAll]
end K5

namespace K5
open PySem PySem.Spec PyProof.Rows L2
def spHoldsO (K : PySem.W.Frag) : Sp := fun vs H Q _ => ∃ (g a s : Addr) (b n : Nat) (ds : List (Nat × Nat)) (S : S2), vs = [.ref g, .ref a, .ref s] ∧ GenAt H g b ∧ b < 2 ^ 50 ∧ HouseAt K H a ds ∧ Tree n ds ∧ n ≤ 60 ∧ StateAt K H s S ∧ StOk n ds S ∧ 2 ≤ S.1.length ∧
  ∀ H', But g H H' → GenAt H' g (b + 100) → Q (.bl true) H'
section
variable {P : Program} {w : World} {K : PySem.W.Frag} {mg : Str → Option Value} {base : Heap} {C_Encounter : Addr}
theorem ok_l_holds (T : Bl mg) (D : Def K mg "_law_holds" s_l_holds) (C_fewest_openings : CalK P w K mg base "fewest_openings" ["house", "state"] 8 (spFew K C_Encounter) ["state", "house"] rev2 rev2) (C_l_fewest : Cal P w K mg base "_law_fewest" ["_law_layout", "_law_situation"] 3 (spFewL K))
    (C_check_openings : CalK P w K mg base "check_openings" ["house", "state", "claim"] 10 (spCheckO K) ["claim", "state", "house"] rev3 rev3) (C_l_is_apart : Cal P w K mg base "_law_is_apart" ["_law_layout", "_law_situation"] 4 (spIsA K)) (C_l_opened : Cal P w K mg base "_law_opened" ["_law_situation", "_law_changes"] 1 (spOpL K))
    (C_l_random : Cal P w K mg base "_law_random" ["_law_generator_here", "_law_bound"] 2 spRand) : CalG P w K mg base "_law_holds" ["_law_generator_here", "_law_layout", "_law_situation"] 11 (spHoldsO K) := by
  refine D.okG sc_l_holds (fun _ _ _ _ _ _ us hl => match us, hl with | [_, _, _], _ => rfl) (fun vs H Q E h => ?_) (fun f cdv A outer s0 H vs Q E hr hq h => ?_)
  · obtain ⟨g, a, s, b, n, ds, S, rfl, _⟩ := h
    rfl
  obtain ⟨g, a, s, b, n, ds, S, rfl, gen, hb, hH, tree, hn, st, ok, two, qn⟩ := h
  obtain ⟨f_fewest_openings, fd_fewest_openings, g_fewest_openings, k_fewest_openings, b_fewest_openings, G_fewest_openings, KB_fewest_openings⟩ := C_fewest_openings
  obtain ⟨f_l_fewest, fd_l_fewest, g_l_fewest, k_l_fewest, b_l_fewest, G_l_fewest⟩ := C_l_fewest
  obtain ⟨f_check_openings, fd_check_openings, g_check_openings, k_check_openings, b_check_openings, G_check_openings, KB_check_openings⟩ := C_check_openings
  obtain ⟨f_l_is_apart, fd_l_is_apart, g_l_is_apart, k_l_is_apart, b_l_is_apart, G_l_is_apart⟩ := C_l_is_apart
  obtain ⟨f_l_opened, fd_l_opened, g_l_opened, k_l_opened, b_l_opened, G_l_opened⟩ := C_l_opened
  obtain ⟨f_l_random, fd_l_random, g_l_random, k_l_random, b_l_random, G_l_random⟩ := C_l_random
  have few := ok.few
  have hdn := tree.len
  have hdl := ok.doors
  have one1 : (1 : Nat) ≤ sizeLine := by decide
  refine ⟨_, (pss_cons (ps_set (i := 3) sc_l_holds.nd rfl (.inl rfl) (pe_callB (call_reprD hq hr.units) (by rfl) T.repr (by decide +kernel) (pa_cons (pe_lst (pa_cons (pv 1) (pa_cons (pv 2) pa_nil))) pa_nil)))
    (pss_cons (ps_set (i := 4) sc_l_holds.nd rfl (.inl rfl) (pe_call G_fewest_openings (hr.mono (by decide)) (by rfl) g_fewest_openings k_fewest_openings b_fewest_openings .nil pass0 (pa_cons (pv 1) (pa_cons (pv 2) pa_nil))))
    (pss_cons (ps_asg (pv 4) (pg_tup (n := 2) rfl (pgs_cons (pg_name (i := 5) sc_l_holds.nd rfl (.inl rfl)) (pgs_cons (pg_name (i := 6) sc_l_holds.nd rfl (.inl rfl)) pgs_nil))))
    (pss_cons (ps_if (PW.pt (pw_or (pt_cmpR op_ne (pv 5) (pe_call G_l_fewest (hr.mono (by decide)) (by rfl) g_l_fewest k_l_fewest b_l_fewest .nil pass0 (pa_cons (pv 1) (pa_cons (pv 2) pa_nil))) (nomark _)) (pw_or1 (pt_cmpR op_ne (pe_callB call_len_seq (by rfl) T.len PySem.boot_len (pa_cons (pv 6) pa_nil)) (pv 5) (nomark _))))) (pss_one (ps_ret pe_bl)) pss_nil)
    (pss_cons (ps_if (pt_cmpR op_notN (pe_callK0 G_check_openings (hr.mono (by decide)) (by rfl) g_check_openings k_check_openings KB_check_openings pass0 (pk_cons (pv 4) (pk_cons (pv 2) (pk_cons (pv 1) pk_nil)))) pe_non (nomark _)) (pss_one (ps_ret pe_bl)) pss_nil)
    (pss_cons (ps_if (pt_val (pe_call G_l_is_apart (hr.mono (by decide)) (by rfl) g_l_is_apart k_l_is_apart b_l_is_apart .nil pass0 (pa_cons (pv 1) (pa_cons (pe_call G_l_opened (hr.mono (by decide)) (by rfl) g_l_opened k_l_opened b_l_opened .nil pass0 (pa_cons (pv 2) (pa_cons (pv 6) pa_nil))) pa_nil)))) (pss_one (ps_ret pe_bl)) pss_nil)
    (pss_cons (ps_setLc (i := 7) (own := [("_law_change", 8)]) (g := gName 8)  (tt := (tTest (tOp rEq (tCall spRand [] E0 (tCons (tVar 0) (tCons (tC (.int 2)) tNil))) (tC (.int 0))))) rfl sc_l_holds.nd rfl rfl (sw_true rfl rfl rfl (by decide +kernel)) (pi_list (pv 6)) (blkOk_by (N := N_l_holds) (sc := defScope s_l_holds) (own := [("_law_change", 8)]) (by decide +kernel)) (fun _ _ _ _ _ => (pg_name (i := 8) sc_l_holds.nd rfl (.inl rfl) (.inr rfl))) (fun _ _ _ _ _ => (pts_one (pt_cmpR op_eq (pe_call G_l_random (hr.mono (by decide)) (by rfl) g_l_random k_l_random b_l_random .nil pass0 (pa_cons (pv 0) (pa_cons pe_int pa_nil))) pe_int (nomark _)))) (fun _ _ _ _ _ => (pv 8)))
    (pss_cons (ps_if (pt_cmpR op_ne (pe_ix ix_tup (pe_call G_fewest_openings (hr.mono (by decide)) (by rfl) g_fewest_openings k_fewest_openings b_fewest_openings .nil pass0 (pa_cons (pv 1) (pa_cons (pe_call G_l_opened (hr.mono (by decide)) (by rfl) g_l_opened k_l_opened b_l_opened .nil pass0 (pa_cons (pv 2) (pa_cons (pv 7) pa_nil))) pa_nil))) pe_int (fun _ _ => rfl)) (pe_op op_sub (pv 5) (pe_callB call_len_seq (by rfl) T.len PySem.boot_len (pa_cons (pv 7) pa_nil))) (nomark _)) (pss_one (ps_ret pe_bl)) pss_nil)
    (Evl.pss_cut (ps_if (pt_cmpR (op_neD hr.units) (pv 1) (pe_tup pa_nil) (nomark _)) (pss_cons (ps_set (i := 8) sc_l_holds.nd rfl (.inl rfl) (pe_tup (pa_cons (pe_call G_l_random (hr.mono (by decide)) (by rfl) g_l_random k_l_random b_l_random .nil pass0 (pa_cons (pv 0) (pa_cons (pe_callB call_len_seq (by rfl) T.len PySem.boot_len (pa_cons (pv 1) pa_nil)) pa_nil))) (pa_cons (pe_call G_l_random (hr.mono (by decide)) (by rfl) g_l_random k_l_random b_l_random .nil pass0 (pa_cons (pv 0) (pa_cons (pe_callB call_len_seq (by rfl) T.len PySem.boot_len (pa_cons (pe_ix ix_tup (pv 2) pe_int (fun _ _ => rfl)) pa_nil)) pa_nil))) pa_nil))))
    (pss_one (ps_if (pt_cmpR op_gt (pe_callB call_abs (by rfl) T.abs (by decide +kernel) (pa_cons (pe_op op_sub (pe_ix ix_tup (pe_call G_fewest_openings (hr.mono (by decide)) (by rfl) g_fewest_openings k_fewest_openings b_fewest_openings .nil pass0 (pa_cons (pv 1) (pa_cons (pe_call G_l_opened (hr.mono (by decide)) (by rfl) g_l_opened k_l_opened b_l_opened .nil pass0 (pa_cons (pv 2) (pa_cons (pe_lst (pa_cons (pv 8) pa_nil)) pa_nil))) pa_nil))) pe_int (fun _ _ => rfl)) (pv 5)) pa_nil)) pe_int (nomark _)) (pss_one (ps_ret pe_bl)) pss_nil))) pss_nil)
    (pss_cons (ps_set (i := 9) sc_l_holds.nd rfl (.inl rfl) (pe_callB (call_reprD hq hr.units) (by rfl) T.repr (by decide +kernel) (pa_cons (pv 4) pa_nil)))
    (pss_cons (ps_expr (pe_bm PySem.F.plainAttrs_list PySem.F.slot_list_append PySem.F.type_list_append mt_append (pv 6) (pa_cons pe_int pa_nil)))
    (pss_one (ps_ret (pe_and (pe_cmpR op_eq (pe_callB (call_reprD hq hr.units) (by rfl) T.repr (by decide +kernel) (pa_cons (pe_callK0 G_fewest_openings (hr.mono (by decide)) (by rfl) g_fewest_openings k_fewest_openings KB_fewest_openings pass0 (pk_cons (pv 2) (pk_cons (pv 1) pk_nil))) pa_nil)) (pv 9) (nomark _)) (pe_one (pe_cmpR op_eq (pe_callB (call_reprD hq hr.units) (by rfl) T.repr (by decide +kernel) (pa_cons (pe_lst (pa_cons (pv 1) (pa_cons (pv 2) pa_nil))) pa_nil)) (pv 3) (nomark _))))))))))))))))), ?_⟩
  refine ⟨_, rfl, _, rfl, by show 2 ≤ sizeLine; decide, fun p1 np1 => ?_⟩
  have s1 := Same.upd (o := .lst [.ref a, .ref s]) np1
  refine ⟨p1, dHS ds S, rfl, dp_HS (SqL.of upd_same) (hH.same s1) (st.same s1), dHS_show tree ok hn, dHS_nodict, dHS_depth, dHS_len tree ok hn, ?_⟩
  generalize upd H p1 (.lst [.ref a, .ref s]) = H1 at s1
  refine ⟨_, rfl, _, rfl, a, s, n, ds, S, rfl, hH.same s1, tree, hn, st.same s1, ok, fun z => by omega, fun _ H2 t q ts c so s2 ht nq hq pl => ?_⟩
  have s12 := s1.trans s2
  have fa := so.facts tree ok
  have num := numO_of tree ok so
  generalize el : c.cl S = l at fa num ht pl
  have ll : l.length ≤ 59 := by
    have nd : (l.map Prod.fst).Nodup := by
      unfold List.Nodup
      rw [List.pairwise_map]
      have := fa.asc
      rw [el] at this
      exact this.imp fun z e => by omega
    have := nd_sub2 nd fun d hd => (show d ∈ List.range S.2.length by
      obtain ⟨e, he, rfl⟩ := List.mem_map.mp hd
      have := fa.ch e (by rw [el]; exact he)
      exact List.mem_range.mpr this.1)
    rw [List.length_map, List.length_range] at this
    omega
  refine ⟨_, rfl, t, _, rfl, SqT.of ht, rfl, _, _, rfl, _, _, rfl, rfl, ?_⟩
  -- the law's own number
  refine ⟨_, rfl, _, rfl, _, rfl, a, s, n, ds, S, rfl, hH.same s12, tree, hn, st.same s12, ok, fun z => by omega, fun _ H3 N s3 fN lN => ?_⟩
  have eN : N = l.length := NumO.unique ⟨fN, lN⟩ num
  subst eN
  have s13 := s12.trans s3
  have hq3 := s3 _ _ hq
  refine ⟨rfl, _, rfl, iteF' (by simp) ?_⟩
  refine ⟨_, rfl, q, _, rfl, .inl (SqL.of hq3), _, rfl, rfl, _, rfl, iteF' (by rw [List.length_map, pl.1]; simp) ?_⟩
  -- it is accepted
  have ch : ChOk S l := by have := fa.ch; rw [el] at this; exact this
  have asc : l.Pairwise fun x y => x.1 < y.1 := by have := fa.asc; rw [el] at this; exact this
  have diff : ∀ x ∈ l, S.2[x.1]? ≠ some x.2 := by have := fa.diff; rw [el] at this; exact this
  have apt : ¬ Apt ds (opS S l) := by have := fa.apt; rw [el] at this; exact this
  have sub : ∀ (m : List (Nat × Nat)) (N : Nat), m.Sublist l → NumO ds (opS S m) N → N + m.length = l.length := by have := fa.sub; rw [el] at this; exact this
  refine ⟨_, rfl, _, rfl, _, rfl, a, s, .ref t, n, ds, S, rfl, hH.same s13, tree, hn, st.same s13, ok, .inr ⟨t, q, l.length, ts, l, rfl, s3 _ _ ht, hq3, pl.same s3, ch, asc, fun z => by omega, fun _ => ⟨fun pre e post el2 _ z => ?_, fun _ z => absurd z apt, fun _ _ z => absurd rfl z, fun _ _ c' so' z => ?_, fun _ _ c' so' _ _ H4 s4 => ?_⟩⟩⟩
  · exact absurd z (diff e (by rw [el2]; exact List.mem_append.mpr (.inr List.mem_cons_self)))
  · have := so'.unique so
    subst this
    rw [el] at z
    exact absurd rfl z
  refine ⟨rfl, _, rfl, iteF' (by simp) ?_⟩
  have s14 := s13.trans s4
  have s24 := s3.trans s4
  have hq4 := s24 _ _ hq
  have pl4 := pl.same s24
  refine ⟨_, rfl, _, rfl, _, rfl, s, q, S, ts, l, rfl, st.same s14, by omega, hq4, pl4, ch, fun H5 q5 s5 st5 => ?_⟩
  refine ⟨a, q5, n, ds, opS S l, rfl, hH.same (s14.trans s5), tree, hn, st5, opB_rooms ok ch, fun H6 k s6 iff => ?_⟩
  have ek : k = false := by
    cases k
    · rfl
    · exact absurd (iff.mp rfl) apt
  subst ek
  refine ⟨_, rfl, iteF ?_⟩
  have s46 := s5.trans s6
  have s16 := s14.trans s46
  have s26 := s24.trans s46
  have hq6 := s26 _ _ hq
  have pl6 := pl.same s26
  have g6 := gen.same s16
  obtain ⟨gx, hgx⟩ := gen.lst
  have nqg : q ≠ g := (ne_of_none (s1 _ _ hgx) nq).symm
  obtain ⟨gy, hgy⟩ := g6.lst
  -- some of the changes
  refine ⟨_, rfl, q, rfl, ⟨_, SqL.of hq6⟩, fun pd npd => ?_⟩
  have npdg := g6.ne npd
  refine lc_it (walk_list (K := K) (a := q) (xs := ts.map V.ref)) (fun i H7 => ∃ (ts' : List Addr) (m : List (Nat × Nat)), But g H6 H7 ∧ GenAt H7 g (b + i) ∧ H7 pd = some (.lst (ts'.map V.ref)) ∧ PL2 H6 ts' m ∧ m.Sublist (l.take i))
    ⟨[], [], (But.refl _ _).at npd _, g6.at npdg, upd_same, PL2.nil, List.nil_sublist _⟩ (fun i H7 _ ⟨_, _, bt, _⟩ => SqL.of (bt _ _ nqg hq6)) ?_ ?_
  · rintro i x Hz H7 hi ⟨ts', m, bt7, g7, hpd7, plm, sl⟩ ⟨rfl, ex⟩
    rw [List.length_map, pl.1] at hi
    obtain ⟨t1, ht1⟩ : ∃ t, ts[i]? = some t := get_of pl.1 hi
    obtain ⟨e, he⟩ : ∃ e, l[i]? = some e := get_of rfl hi
    have ex : (ts.map V.ref)[i]? = some x := ex
    rw [List.getElem?_map, ht1] at ex
    cases ex
    have sll := sl.length_le
    rw [List.length_take] at sll
    refine ⟨rfl, ?_⟩
    refine ⟨_, rfl, g, b + i, 2, rfl, g7, by decide, by decide, by omega, fun H8 v bt8 g8 hv => ?_⟩
    have hpd8 := bt8 _ _ npdg hpd7
    refine ⟨rfl, _, rfl, ?_⟩
    rw [take_succ_get he]
    by_cases cv : v = 0
    · refine iteT' (by rw [cv]; rfl) ?_
      exact ⟨_, rfl, _, hpd8, by rw [List.length_map, plm.1]; exact small1000 (by omega), ts' ++ [t1], m ++ [e], (bt7.trans bt8).at npd _, g8.at npdg, by rw [upd_same, List.map_append]; rfl, plm.snoc (pl6.2 i t1 e ht1 he), List.Sublist.append sl (List.Sublist.refl _)⟩
    · refine iteF' (decide_eq_false fun z => cv (by have := V.int.inj z; omega)) ?_
      exact ⟨ts', m, bt7.trans bt8, g8, hpd8, plm, sl.trans (List.sublist_append_left _ _)⟩
  rintro H7 ⟨ts', m, bt7, g7, hpd7, plm, sl⟩
  rw [List.length_map, pl.1, List.take_length] at sl
  rw [List.length_map, pl.1] at g7
  have chm : ChOk S m := fun e he => ch e (sl.subset he)
  have pl7 : PL2 H7 ts' m := ⟨plm.1, fun i t e x y => bt7 _ _ (ne_lt hgy (plm.2 i t e x y)) (plm.2 i t e x y)⟩
  have hH7 := (hH.same s16).but hgy bt7
  have st7 := (st.same s16).but hgy bt7
  refine ⟨_, rfl, _, rfl, _, rfl, s, pd, S, ts', m, rfl, st7, by omega, hpd7, pl7, chm, fun H8 q8 s8 st8 => ?_⟩
  refine ⟨a, q8, n, ds, opS S m, rfl, hH7.same s8, tree, hn, st8, opB_rooms ok chm, fun z => by have z : S.1.length = 1 := z; omega, fun _ H9 t9 q9 ts9 c9 so9 s9 ht9 nq9 hq9 pl9 => ?_⟩
  have num9 := sub m _ sl (numO_of tree (opB_rooms ok chm) so9)
  have s79 := s8.trans s9
  have hpd9 := s79 _ _ hpd7
  refine ⟨t9, _, _, V.int (((c9.cl (opS S m)).length : Nat) : Int), rfl, rfl, SqT.of ht9, atI_nat (j := 0) rfl, ?_⟩
  refine ⟨_, rfl, _, rfl, pd, _, rfl, .inl (SqL.of hpd9), _, _, rfl, rfl, rfl, _, rfl, ?_⟩
  refine iteF' (by
    rw [List.length_map, plm.1, show (fun i j : Int => V.int (i - j)) (l.length : Int) (m.length : Int) = V.int (((c9.cl (opS S m)).length : Nat) : Int) from congrArg V.int (by omega)]
    simp) ?_
  have bt9 : But g H6 H9 := bt7.trans s79.but
  have g9 := g7.same s79
  obtain ⟨gz, hgz⟩ := g9.lst
  have hH9 := hH7.same s79
  have st9 := st7.same s79
  refine ⟨fun σ Hx => ∃ (y8 y9 : Option V), σ = [some (.ref g), some (.ref a), some (.ref s), some (.str (dHS ds S).shown), some (.ref t), some (.int ((l.length : Nat) : Int)), some (.ref q), some (.ref pd), y8, y9] ∧ But g H6 Hx ∧ GenAt Hx g (b + 70), ?_, ?_⟩
  · refine ⟨_, rfl, Nat.zero_le _, fun pt npt => ?_⟩
    have sp := Same.upd (o := .tup []) npt
    have hpt : upd H9 pt (.tup []) pt = some (.tup []) := upd_same
    have hHa := hH9.same sp
    have sta := st9.same sp
    have ga := g9.same sp
    have bta := bt9.trans sp.but
    generalize upd H9 pt (.tup []) = Ha at sp hpt hHa sta ga bta
    refine ⟨dH ds, .tuple [], dp_H hHa, .tup (SqT.of hpt) .nil, dH_shaped ds, dH_shaped [], _, rfl, ?_⟩
    rw [dH_nil]
    by_cases c0 : ds = []
    · refine iteF' (by rw [decide_eq_true c0]; rfl) ?_
      exact ⟨_, _, rfl, bta, ga.mono (by omega)⟩
    refine iteT' (by rw [decide_eq_false c0]; rfl) ?_
    have dpos : 0 < ds.length := List.length_pos_iff.mpr c0
    obtain ⟨rs, hrs, hlen, hds⟩ := id hHa
    obtain ⟨ra, ba, e1, e2, e3⟩ := id sta
    obtain ⟨gw, hgw⟩ := ga.lst
    refine ⟨_, rfl, _, rfl, a, _, rfl, .inr hrs, ?_⟩
    rw [List.length_map, hlen]
    refine ⟨g, b + l.length, ds.length, rfl, ga, dpos, by omega, by omega, fun Hb v btb gb hv => ?_⟩
    refine ⟨_, rfl, _, rfl, s, _, _, V.ref ra, rfl, rfl, btb.tup hgw e1, atI_nat (j := 0) rfl, ra, _, rfl, .inr (btb.tup hgw e2), ?_⟩
    rw [nv_len]
    obtain ⟨gv, hgv⟩ := gb.lst
    refine ⟨g, b + l.length + 1, S.1.length, rfl, gb, by omega, by omega, by omega, fun Hc u btc gc hu => ?_⟩
    have hHc := (hHa.but hgw btb).but hgv btc
    have stc := (sta.but hgw btb).but hgv btc
    refine ⟨by show 2 ≤ sizeLine; decide, fun tc ntc => ?_⟩
    have sd := Same.upd (o := .tup [.int (v : Int), .int (u : Int)]) ntc
    have htc : upd Hc tc (.tup [.int (v : Int), .int (u : Int)]) tc = some (.tup [.int (v : Int), .int (u : Int)]) := upd_same
    generalize upd Hc tc (.tup [.int (v : Int), .int (u : Int)]) = Hd at sd htc
    refine ⟨_, rfl, _, rfl, _, rfl, one1, fun pe npe => ?_⟩
    have se := Same.upd (o := .lst [.ref tc]) npe
    have hpe : upd Hd pe (.lst [.ref tc]) pe = some (.lst ([tc].map V.ref)) := upd_same
    generalize upd Hd pe (.lst [.ref tc]) = He at se hpe
    have sce := sd.trans se
    have ch1 : ChOk S [(v, u)] := fun e he => by
      rw [List.mem_singleton.mp he]
      exact ⟨by omega, hu⟩
    refine ⟨s, pe, S, [tc], [(v, u)], rfl, stc.same sce, by omega, hpe, PL2.snoc PL2.nil (se _ _ htc), ch1, fun Hf qf sf stf => ?_⟩
    have scf := sce.trans sf
    refine ⟨a, qf, n, ds, opS S [(v, u)], rfl, hHc.same scf, tree, hn, stf, opB_rooms ok ch1, fun z => by have z : S.1.length = 1 := z; omega, fun _ Hg t1 q1 ts1 c1 so1 sg ht1 nq1 hq1 pl1 => ?_⟩
    obtain ⟨n1, n2⟩ := num_one (n := n) num (numO_of tree (opB_rooms ok ch1) so1)
    refine ⟨t1, _, _, V.int (((c1.cl (opS S [(v, u)])).length : Nat) : Int), rfl, rfl, SqT.of ht1, atI_nat (j := 0) rfl, ?_⟩
    generalize (c1.cl (opS S [(v, u)])).length = N1 at n1 n2
    refine ⟨_, rfl, _, _, rfl, rfl, _, rfl, ?_⟩
    have ab : ¬ (1 : Int) < (if (N1 : Int) - (l.length : Int) < 0 then -((N1 : Int) - (l.length : Int)) else (N1 : Int) - (l.length : Int)) := by split <;> omega
    refine ⟨_, _, rfl, rfl, _, rfl, iteF' (decide_eq_false ab) ?_⟩
    exact ⟨_, _, rfl, ((bta.trans btb).trans btc).trans (scf.trans sg).but, (gc.same (scf.trans sg)).mono (by omega)⟩
  rintro σ Hx ⟨y8, y9, rfl, btx, gnx⟩
  have hHx := (hH.same s16).but hgy btx
  have stx := (st.same s16).but hgy btx
  have htx : Hx t = some (.tup [.int ((l.length : Nat) : Int), .ref q]) := by
    have z := s26 _ _ ht
    exact btx _ _ (ne_lt hgy z) z
  have hqx := btx _ _ nqg hq6
  have plx : PL2 Hx ts l := ⟨pl6.1, fun i t e x y => btx _ _ (ne_lt hgy (pl6.2 i t e x y)) (pl6.2 i t e x y)⟩
  have sm : ∀ e ∈ l, e.1 < 64 ∧ e.2 < 64 := fun e he => by
    have := ch e he
    omega
  refine ⟨_, rfl, t, dRO l, rfl, .tup (SqT.of htx) (.cons (.int _) (.cons (.lst (SqL.of hqx) (dp_PL2 plx)) .nil)), dRO_show sm (by omega), dRO_nodict _, dRO_depth _, dRO_len sm (by omega), ?_⟩
  refine ⟨_, rfl, .inl ⟨rfl, _, SqL.of hqx⟩, q, _, _, rfl, rfl, hqx, by rw [List.length_map, pl.1]; exact small1000 (by omega), ?_⟩
  have bt1 : But g H1 Hx := (s2.trans s26).but.trans btx
  have btU := bt1.at nq (.lst (ts.map V.ref ++ [V.int 0]))
  have gnU := gnx.at (o := .lst (ts.map V.ref ++ [V.int 0])) nqg
  have hgx1 := s1 _ _ hgx
  have hHU := (hH.same s1).but hgx1 btU
  have stU := (st.same s1).but hgx1 btU
  generalize upd Hx q (.lst (ts.map V.ref ++ [V.int 0])) = HU at btU gnU hHU stU
  refine ⟨_, rfl, _, rfl, a, s, n, ds, S, rfl, hHU, tree, hn, stU, ok, fun z => by omega, fun _ H10 t10 q10 ts10 c10 so10 s10 ht10 nq10 hq10 pl10 => ?_⟩
  have ec := so10.unique so
  subst ec
  rw [el] at ht10 pl10
  refine ⟨t10, dRO l, rfl, .tup (SqT.of ht10) (.cons (.int _) (.cons (.lst (SqL.of hq10) (dp_PL2 pl10)) .nil)), dRO_show sm (by omega), dRO_nodict _, dRO_depth _, dRO_len sm (by omega), ?_⟩
  refine ⟨_, rfl, rfl, _, rfl, ?_⟩
  refine iteT' (by simp) ?_
  refine ⟨_, rfl, _, rfl, by show 2 ≤ sizeLine; decide, fun p11 np11 => ?_⟩
  have s11 := Same.upd (o := .lst [.ref a, .ref s]) np11
  refine ⟨p11, dHS ds S, rfl, dp_HS (SqL.of upd_same) (hHU.same (s10.trans s11)) (stU.same (s10.trans s11)), dHS_show tree ok hn, dHS_nodict, dHS_depth, dHS_len tree ok hn, _, rfl, rfl, ?_⟩
  rw [decide_eq_true rfl]
  exact qn _ ((s1.but.trans btU).trans (s10.trans s11).but) ((gnU.same (s10.trans s11)).mono (by omega))
end
end K5

namespace PySem
open Sem (wp)
/-! own rule: sum(lists, []) where there may be no list: then it is the start itself -/
section
variable {prog : Program} {w : World} {A : Around} {R : Result → Shared → Prop} {I l : Addr}
theorem codeAny_sum_none (hh : A.handled = none) (S tot : Addr) (s : Shared) (c : Nat) (hit : s.heap.IsListIter I l 0) (hl : s.heap.IsList l #[]) (hS : s.heap.get? S = some { cls := .type "list", dict := none, data := .seq #[.ref tot] c, slots := #[] })
    (hR : ∀ h' : Heap, (∀ b o, b ≠ I → s.heap.get? b = some o → h'.get? b = some o) → R (.ok (.ret (.ref tot))) { s with heap := h' }) :
    codeAny (model prog w) A (.builtin "sum.loop" ⟨[.ref I, .ref S, rawInt 2, rawInt 0], []⟩) R s := by
  refine codeAny_builtin F.entry_sum_loop ?_
  rw [Around.under_plainId F.plain_sum_loop _]
  show wpAny _ A.in1 (seqItems?
        (.ref S) >>= _) _ _ s
  refine wpAny_bind (wpAny_seqItems hS rfl ?_)
  show wpAny _ A.in1 (tryCatch (pyNext
        (.ref I)) _ >>= _) _ _ s
  refine wpAny_bind (wpAny_tryCatch (wpAny_pyNext_list_end (A := A.in1) hh hit hl (by simp) fun h' he => ?_))
  exact wpAny_pure (hR h' he)
end
section
variable {prog : Program} {w : World} {A : Around} {E : Value → Shared → Prop} {s : Shared} {l e : Addr}
theorem call_sum_none {Q : Value → Shared → Prop} (hh : A.handled = none) (hl : s.heap.IsList l #[]) {me : Nat} (he : s.heap.get? e = some { cls := .type "list", data := .seq #[] me })
    (h : ∀ h' : Heap, (∀ b o, s.heap.get? b = some o → h'.get? b = some o) → Q (.ref e) { s with heap := h' }) :
    wpAny (model prog w) A (call (.builtin "sum") [.ref l, .ref e]) Q E s := by
  refine call_function_tree F.kind_sum F.plain_sum F.entry_sum (args_sum2 _ _) ?_
  unfold Builtin.«sum»
  simp only [List.length_cons,
        List.length_nil]
  rw [if_neg (by decide)]
  refine wpAny_bind (wpAny_of_eq (show Builtin.Builtins.bindParams "sum" ["start"] 0 ⟨[.ref e], []⟩ = pure [some (.ref e)] from rfl) ?_)
  have hlt : l < s.heap.objs.size := match hl with | ⟨_, z, _⟩ => Heap.lt_size z
  have helt : e < s.heap.objs.size
        := Heap.lt_size he
  refine wpAny_bind (wpAny_pyIter_list hl ?_)
  refine wpAny_bind (wpAny_pure ?_)
  have he1 : (s.heap.push { cls := .type "list_iterator", data := .fields #[.ref l, .int 0 0] }).get? e = some _ := Heap.get?_push_of_some _ he
  have ty : ∀ s' : Shared, s'.heap.get? e = some { cls := .type "list", data := .seq #[] me } → s'.TypeIs (.ref e) "list" := fun s' q => ⟨_, q, rfl⟩
  simp only [List.forIn_cons, List.forIn_nil]
  refine wpAny_bind (wpAny_bind (wpAny_bind (wpAny_isInstance (T := "list") (b := false) (ty _ he1) F.sub_list_str ?_)))
  simp only [Bool.false_eq_true, if_false]
  refine wpAny_pure (wpAny_bind (wpAny_bind (wpAny_isInstance (T := "list") (b := false) (ty _ he1) F.sub_list_bytes ?_)))
  simp only [Bool.false_eq_true, if_false]
  refine wpAny_pure (wpAny_bind (wpAny_bind (wpAny_isInstance (T := "list") (b := false) (ty _ he1) F.sub_list_bytearray ?_)))
  simp only [Bool.false_eq_true, if_false]
  refine wpAny_pure (wpAny_pure ?_)
  refine wpAny_bind (wpAny_newObj_type ?_)
  have free : ∀ b, s.heap.objs.size ≤ b → s.heap.get? b = none := fun b hb => by
    cases q : s.heap.get? b with
    | none => rfl
    | some o => exact absurd (Heap.lt_size q) (Nat.not_lt.mpr hb)
  have sz1 : (s.heap.push { cls := .type "list_iterator", data := .fields #[.ref l, .int 0 0] }).objs.size = s.heap.objs.size + 1 := Heap.size_push _ _
  refine wpAny_pure ⟨plainId_quiet F.plain_sum_loop _, codeAny_sum_none (A := A) hh _ e _ 0 ⟨_, Heap.get?_push_of_some _ (Heap.get?_push_size _ rfl), rfl, rfl⟩ ((hl.push _).push _) (Heap.get?_push_size _ rfl) fun h' k => ?_⟩
  exact h h' fun b o z => k b o (Nat.ne_of_lt (Heap.lt_size z)) (Heap.get?_push_of_some _ (Heap.get?_push_of_some _ z))
end
end PySem
namespace L2
open PySem PySem.Spec PyProof.Rows
def rSumE (K : PySem.W.Frag) : List V → Hp → VK → Prop := fun vs H Q => ∃ (q e : Addr) (rs : List Addr) (Ls : List (List V)), vs = [V.ref q, V.ref e] ∧ H q = some (.lst (rs.map V.ref)) ∧ H e = some (.lst []) ∧ rs.length = Ls.length ∧
  (∀ (i : Nat) (r : Addr) (L : List V), rs[i]? = some r → Ls[i]? = some L → H r = some (.lst L)) ∧ Ls.flatten.length ≤ sizeLine ∧ (rs = [] → Q (.ref e) H) ∧ (rs ≠ [] → ∀ p, H p = none → Q (.ref p) (upd H p (.lst Ls.flatten)))
theorem cr_sumE {X : Cx} (hc : X.calm = true) : CallR X (.builtin "sum") (rSumE X.K) := by
  rintro pins s σ H vs us Q I r ⟨q, e, rs, Ls, rfl, hq, he, hlen, hl, hsz, h0, hQ⟩
  by_cases c : rs = []
  · subst c
    cases r with
    | cons r1 r =>
      cases r with
      | cons r2 r =>
        cases r
        cases r1
        cases r2
        obtain ⟨z, its, n, rv, hlen1, eq⟩ := I.lstM hq
        obtain ⟨z2, its2, n2, rv2, hlen2, ee⟩ := I.lstM he
        cases rv2
        cases rv
        exact call_sum_none (I.ok.hd hc) ⟨_, eq, rfl, _, rfl⟩ ee fun h' k => ⟨.ref e, H, I.kept (t' := s.toks) k, rfl, h0 rfl⟩
  · exact cr_sumL hc pins s σ H _ us Q I r ⟨q, e, rs, Ls, rfl, hq, he, hlen, List.length_pos_iff.mpr c, hl, hsz, hQ c⟩
end L2

namespace K5
open PySem PySem.Spec PyProof.Rows L2
theorem flat_bound : ∀ (M : List (List Nat)) (B : Nat), (∀ L ∈ M, L.length ≤ B) → M.flatten.length ≤ M.length * B
  | [], _, _ => Nat.zero_le _
  | L :: r, B, h => by
    rw [List.flatten_cons, List.length_append, List.length_cons, Nat.succ_mul]
    have := flat_bound r B fun x hx => h x (List.mem_cons_of_mem _ hx)
    have := h L List.mem_cons_self
    omega
theorem reg_short {n : Nat} {ds : List (Nat × Nat)} (T : Tree n ds) {S : S2} (o : StOk n ds S) {Ls : List (List Nat)} (rg : RegsL ds S S.1.length Ls) : ∀ L ∈ Ls, L.length ≤ n := fun L hL => by
  obtain ⟨p, hp⟩ := List.mem_iff_getElem?.mp hL
  have rs := rg.at_ p L hp
  obtain ⟨x, hx⟩ : ∃ x, S.1[p]? = some x := get_of rfl (by rw [← rg.len]; exact get_lt hp)
  have := nd_sub2 rs.nd fun z hz => (show z ∈ List.range n by
    obtain ⟨w, W, _⟩ := (rs.mem z).mp hz
    rw [getD_of hx] at W
    exact List.mem_range.mpr (walk_in T W (o.rooms x (List.mem_of_getElem? hx))))
  rwa [List.length_range] at this
theorem cut_headV (L : List V) {k : Nat} (h : k ≤ L.length) : cutV L none (some (k : Int)) = L.take k := by
  show (L.drop (HT.sIx _ 0 none)).take (HT.sIx _ _ (some (k : Int)) - HT.sIx _ 0 none) = _
  rw [HT.sIx_none, HT.sIx_nat, List.drop_zero, Nat.sub_zero, Nat.min_eq_left h]
theorem cut_tailV (L : List V) {k : Nat} (h : k ≤ L.length) : cutV L (some (k : Int)) none = L.drop k := by
  show (L.drop (HT.sIx _ 0 (some (k : Int)))).take (HT.sIx _ _ none - HT.sIx _ 0 (some (k : Int))) = _
  rw [HT.sIx_none, HT.sIx_nat, Nat.min_eq_left h, List.take_of_length_le (by rw [List.length_drop]; exact Nat.le_refl _)]
def spNear (K : PySem.W.Frag) : Sp := fun vs H Q _ => ∃ (a s : Addr) (n : Nat) (ds : List (Nat × Nat)) (S : S2), vs = [.ref a, .ref s] ∧ HouseAt K H a ds ∧ Tree n ds ∧ n ≤ 60 ∧ StateAt K H s S ∧ StOk n ds S ∧
  ∀ (H' : Hp) (q : Addr) (B : List Nat), Same H H' → StateAt K H' q (S.1, B) → StOk n ds (S.1, B) → Q (.ref q) H'
section
variable {P : Program} {w : World} {K : PySem.W.Frag}
      {mg : Str → Option Value} {base : Heap}
theorem ok_l_nearly_apart (T : Bl mg) (D : Def K mg "_law_nearly_apart" s_l_nearly_apart) (C_l_regions : Cal P w K mg base "_law_regions" ["_law_layout", "_law_situation"] 3 (spRegsL K)) : Cal P w K mg base "_law_nearly_apart" ["_law_layout", "_law_situation"] 4 (spNear K) := by
  refine D.ok sc_l_nearly_apart (fun _ _ _ _ _ _ us hl => match us, hl with | [_, _], _ => rfl) (fun vs H Q E h => ?_) (fun f cdv A outer s0 H vs Q E hr h => ?_)
  · obtain ⟨a, s, n, ds, S, rfl, _⟩ := h
    rfl
  obtain ⟨a, s, n, ds, S, rfl, hH, tree, hn, st, ok, qn⟩ := h
  obtain ⟨f_l_regions, fd_l_regions, g_l_regions, k_l_regions, b_l_regions, G_l_regions⟩ := C_l_regions
  have few := ok.few
  have hdn := tree.len
  obtain ⟨rs, hrs, hlen, hds⟩ := id hH
  obtain ⟨r, b, h1, h2, h3⟩ := id st
  refine ⟨_, (pss_cons (ps_asg (pv 1) (pg_tup (n := 2) rfl (pgs_cons (pg_name (i := 2) sc_l_nearly_apart.nd rfl (.inl rfl)) (pgs_cons (pg_name (i := 3) sc_l_nearly_apart.nd rfl (.inl rfl)) pgs_nil))))
    (pss_cons (ps_for PassesOwn.never rfl (pi_enumT (by rfl) T.enumerate (pa_cons (pv 0) pa_nil)) (pg_tup (n := 2) rfl (pgs_cons (pg_name (i := 4) sc_l_nearly_apart.nd rfl (.inl rfl)) (pgs_cons (pg_tup (n := 2) rfl (pgs_cons (pg_name (i := 5) sc_l_nearly_apart.nd rfl (.inl rfl)) (pgs_cons (pg_name (i := 6) sc_l_nearly_apart.nd rfl (.inl rfl)) pgs_nil))) pgs_nil)))
    (pss_cons (ps_set (i := 7) sc_l_nearly_apart.nd rfl (.inl rfl) (pe_call G_l_regions (hr.mono (by decide)) (by rfl) g_l_regions k_l_regions b_l_regions .nil pass0 (pa_cons (pv 0) (pa_cons (pe_tup (pa_cons (pv 2) (pa_cons (pv 3) pa_nil))) pa_nil))))
    (pss_one (ps_for PassesOwn.never rfl (pi_enum (by rfl) T.enumerate (pa_cons (pv 7) pa_nil)) (pg_tup (n := 2) rfl (pgs_cons (pg_name (i := 8) sc_l_nearly_apart.nd rfl (.inl rfl)) (pgs_cons (pg_name (i := 9) sc_l_nearly_apart.nd rfl (.inl rfl)) pgs_nil)))
    (pss_cons (ps_set (i := 10) sc_l_nearly_apart.nd rfl (.inl rfl) (pe_callB (cr_sumE rfl) (by rfl) T.sum (by decide +kernel) (pa_cons (pe_op op_cat (pe_slice sl_list (pv 7) po_none (po_some (pv 8))) (pe_slice sl_list (pv 7) (po_some (pe_op op_add (pv 8) pe_int)) po_none)) (pa_cons (pe_lst pa_nil) pa_nil))))
    (pss_one (ps_if (PW.pt (pw_and (pt_cmpR op_in_seq (pv 5) (pv 9) (by rfl)) (pw_and (pt_cmpR op_in_seq (pv 6) (pv 9) (by rfl)) (pw_and1 (PW.pt (pw_or (pt_cmpR op_in_seq (pv 5) (pv 10) (by rfl)) (pw_or1 (pt_cmpR op_in_seq (pv 6) (pv 10) (by rfl))))))))) (pss_one (ps_set (i := 3) sc_l_nearly_apart.nd rfl (.inl rfl) (pe_op op_catA (pe_op op_catA (pe_slice sl_tup (pv 3) po_none (po_some (pv 4))) (pe_tup (pa_cons (pv 8) pa_nil))) (pe_slice sl_tup (pv 3) (po_some (pe_op op_add (pv 4) pe_int)) po_none)))) pss_nil)))))))
    (pss_one (ps_ret (pe_tup (pa_cons (pv 2) (pa_cons (pv 3) pa_nil))))))), ?_⟩
  refine ⟨_, rfl, _, _, rfl, h1, rfl, _, _, rfl, _, _, rfl, rfl, ?_⟩
  refine ⟨_, rfl, a, _, rfl, hrs, ?_⟩
  refine for_it (walk_enumT (K := K) (a := a) (xs := rs.map V.ref)) (fun k σ H1 => ∃ (b' : Addr) (B : List Nat) (y4 y5 y6 y7 y8 y9 y10 : Option V), σ = [some (.ref a), some (.ref s), some (.ref r), some (.ref b'), y4, y5, y6, y7, y8, y9, y10] ∧ Same H H1 ∧ SqT K H1 b' (nv B) ∧ StOk n ds (S.1, B))
    ⟨b, S.2, _, _, _, _, _, _, _, rfl, Same.refl _, h3, ok⟩ (fun k σ H1 _ ⟨_, _, _, _, _, _, _, _, _, _, s1, _⟩ => s1.tup hrs) ?_ ?_
  · rintro k x σ H1 Hz hk ⟨b', B, y4, y5, y6, y7, y8, y9, y10, rfl, s1, hb, okB⟩ ⟨t, x1, x2, rfl, nt, rfl, ex1, ex2⟩
    cases ex1
    have hk' : k < ds.length := by
      rw [List.length_map, hlen] at hk
      exact hk
    obtain ⟨e, he⟩ : ∃ e, ds[k]? = some e := get_of rfl hk'
    obtain ⟨r0, hr0⟩ : ∃ r, rs[k]? = some r := get_of hlen hk'
    have ex2 : (rs.map V.ref)[k]? = some x2 := ex2
    rw [List.getElem?_map, hr0] at ex2
    cases ex2
    have s2 : Same H1 (upd H1 t (.tup [.int (k : Nat), .ref r0])) := Same.upd nt
    have hrd := s2.tup (s1.tup (hds k r0 e hr0 he))
    have hb2 := s2.tup hb
    have s12 := s1.trans s2
    refine ⟨t, _, rfl, SqT.of upd_same, rfl, _, _, rfl, _, _, rfl, ⟨r0, _, rfl, hrd, rfl, _, _, rfl, _, _, rfl, rfl, rfl, ?_⟩⟩
    generalize upd H1 t (.tup [.int (k : Nat), .ref r0]) = H2 at s2 hrd hb2 s12
    refine ⟨_, rfl, _, rfl, _, rfl, by show 2 ≤ sizeLine; decide, fun t2 nt2 => ?_⟩
    have s3 := Same.upd (o := .tup [.ref r, .ref b']) nt2
    have ht2 : upd H2 t2 (.tup [.ref r, .ref b']) t2 = some (.tup [.ref r, .ref b']) := upd_same
    generalize upd H2 t2 (.tup [.ref r, .ref b']) = H3 at s3 ht2
    have s13 := s12.trans s3
    have stB : StateAt K H3 t2 (S.1, B) := ⟨r, b', SqT.of ht2, s13.tup h2, s3.tup hb2⟩
    refine ⟨a, t2, n, ds, (S.1, B), rfl, hH.same s13, tree, hn, stB, okB, fun H4 q Ls s4 nq la rg _ => ?_⟩
    have s14 := s13.trans s4
    have hb4 := s4.tup (s3.tup hb2)
    have short := reg_short tree okB rg
    have lLs : Ls.length = S.1.length := rg.len
    obtain ⟨qs, hq, lq, each⟩ := la
    refine ⟨_, rfl, q, _, rfl, SqL.of hq, ?_⟩
    refine for_it (walk_enum (K := K) (a := q) (xs := qs.map V.ref)) (fun w σ H5 => ∃ (b' : Addr) (B : List Nat) (y8 y9 y10 : Option V), σ = [some (.ref a), some (.ref s), some (.ref r), some (.ref b'), some (.int (k : Nat)), some (.int (e.1 : Int)), some (.int (e.2 : Int)), some (.ref q), y8, y9, y10] ∧ Same H4 H5 ∧ SqT K H5 b' (nv B) ∧ StOk n ds (S.1, B))
      ⟨b', B, _, _, _, rfl, Same.refl _, hb4, okB⟩ (fun w σ H5 _ ⟨_, _, _, _, _, _, s5, _⟩ => SqL.of (s5 _ _ hq)) ?_ ?_
    · rintro w x σ H5 Hz hw ⟨b2, B2, y8, y9, y10, rfl, s5, hb5, ok5⟩ ⟨tt, x1, x2, rfl, ntt, rfl, ex1, ex2⟩
      cases ex1
      have hw' : w < Ls.length := by
        rw [List.length_map, lq] at hw
        exact hw
      obtain ⟨q1, hq1⟩ : ∃ r, qs[w]? = some r := get_of lq hw'
      obtain ⟨L1, hL1⟩ : ∃ r, Ls[w]? = some r := get_of rfl hw'
      have ex2 : (qs.map V.ref)[w]? = some x2 := ex2
      rw [List.getElem?_map, hq1] at ex2
      cases ex2
      have s6 : Same H5 (upd H5 tt (.tup [.int (w : Nat), .ref q1])) := Same.upd ntt
      have htt : upd H5 tt (.tup [.int (w : Nat), .ref q1]) tt = some (.tup [.int (w : Nat), .ref q1]) := upd_same
      refine ⟨tt, _, rfl, SqT.of upd_same, rfl, _, _, rfl, _, _, rfl, rfl, ?_⟩
      generalize upd H5 tt (.tup [.int (w : Nat), .ref q1]) = H6 at s6 htt
      have s46 := s5.trans s6
      have hq6 := s46 _ _ hq
      have lqs : w ≤ (qs.map V.ref).length := by rw [List.length_map, lq]; omega
      refine ⟨_, rfl, _, rfl, _, rfl, q, _, rfl, SqL.of hq6, fun p1 np1 => ?_⟩
      rw [cut_headV _ lqs, ← List.map_take]
      have s7 := Same.upd (o := .lst ((qs.take w).map V.ref)) np1
      have hp1 : upd H6 p1 (.lst ((qs.take w).map V.ref)) p1 = some (.lst ((qs.take w).map V.ref)) := upd_same
      generalize upd H6 p1 (.lst ((qs.take w).map V.ref)) = H7 at s7 hp1
      refine ⟨_, rfl, _, rfl, _, _, rfl, rfl, _, rfl, q, _, rfl, SqL.of (s7 _ _ hq6), fun p2 np2 => ?_⟩
      have ec : cutV (qs.map V.ref) (some ((w : Int) + 1)) none = (qs.drop (w + 1)).map V.ref := by
        have z := cut_tailV (qs.map V.ref) (k := w + 1) (by rw [List.length_map, lq]; omega)
        rw [List.map_drop, ← z]
        rfl
      rw [ec]
      have s8 := Same.upd (o := .lst ((qs.drop (w + 1)).map V.ref)) np2
      have hp2 : upd H7 p2 (.lst ((qs.drop (w + 1)).map V.ref)) p2 = some (.lst ((qs.drop (w + 1)).map V.ref)) := upd_same
      generalize upd H7 p2 (.lst ((qs.drop (w + 1)).map V.ref)) = H8 at s8 hp2
      have lqn : qs.length ≤ 10 := by rw [lq, lLs]; exact few
      refine ⟨p1, p2, _, _, rfl, rfl, s8 _ _ hp1, hp2, by
        rw [List.length_map, List.length_map, List.length_take, List.length_drop]
        have : (10000 : Nat) ≤ sizeLine := by decide
        omega, fun p3 np3 => ?_⟩
      rw [← List.map_append]
      have s9 := Same.upd (o := .lst ((qs.take w ++ qs.drop (w + 1)).map V.ref)) np3
      have hp3 : upd H8 p3 (.lst ((qs.take w ++ qs.drop (w + 1)).map V.ref)) p3 = some (.lst ((qs.take w ++ qs.drop (w + 1)).map V.ref)) := upd_same
      generalize upd H8 p3 (.lst ((qs.take w ++ qs.drop (w + 1)).map V.ref)) = H9 at s9 hp3
      refine ⟨Nat.zero_le _, fun pe npe => ?_⟩
      have s10 := Same.upd (o := .lst []) npe
      have hpe : upd H9 pe (.lst []) pe = some (.lst []) := upd_same
      generalize upd H9 pe (.lst []) = H10 at s10 hpe
      have s6_10 := ((s7.trans s8).trans s9).trans s10
      have s4_10 := s46.trans s6_10
      have pick : ∀ (i : Nat) (x : Addr) (L : List Nat), (qs.take w ++ qs.drop (w + 1))[i]? = some x → (Ls.take w ++ Ls.drop (w + 1))[i]? = some L → H10 x = some (.lst (nv L)) := fun i x L h1 h2 => by
        have lt1 : (qs.take w).length = w := by rw [List.length_take, lq]; omega
        have lt2 : (Ls.take w).length = w := by rw [List.length_take]; omega
        by_cases c : i < w
        · rw [List.getElem?_append_left (by omega), List.getElem?_take_of_lt c] at h1
          rw [List.getElem?_append_left (by omega), List.getElem?_take_of_lt c] at h2
          exact s4_10 _ _ (each i x L h1 h2).2
        · rw [List.getElem?_append_right (by omega), lt1, List.getElem?_drop] at h1
          rw [List.getElem?_append_right (by omega), lt2, List.getElem?_drop] at h2
          exact s4_10 _ _ (each _ x L h1 h2).2
      have shortO : (Ls.take w ++ Ls.drop (w + 1)).flatten.length ≤ 1000 := by
        have z := flat_bound (Ls.take w ++ Ls.drop (w + 1)) 60 fun L hL => by
          have : L ∈ Ls := by
            rcases List.mem_append.mp hL with z | z
            · exact List.mem_of_mem_take z
            · exact List.mem_of_mem_drop z
          have := short L this
          omega
        have : (Ls.take w ++ Ls.drop (w + 1)).length ≤ 10 := by
          rw [List.length_append, List.length_take, List.length_drop]
          rw [lLs]
          have : S.1.length ≤ 10 := few
          omega
        have := Nat.mul_le_mul_right 60 this
        omega
      refine ⟨p3, pe, qs.take w ++ qs.drop (w + 1), (Ls.take w ++ Ls.drop (w + 1)).map nv, rfl, s10 _ _ hp3, hpe, by rw [List.length_map, List.length_append, List.length_append, List.length_take, List.length_take, List.length_drop, List.length_drop, lq], fun i x L h1 h2 => ?_, ?_, fun e0 => ?ca, fun ne p np => ?cb⟩
      · rw [List.getElem?_map] at h2
        obtain ⟨M, hM, rfl⟩ := Option.map_eq_some_iff.mp h2
        exact pick i x M h1 hM
      · rw [nv_flat, nv_len]
        have : (1000 : Nat) ≤ sizeLine := by decide
        omega
      case' ca =>
        obtain ⟨O, hO⟩ : ∃ O : List Nat, H10 pe = some (.lst (nv O)) := ⟨[], hpe⟩
        have sO : Same H5 H10 := s6.trans s6_10
        have s4O := s4_10
        generalize pe = p at hO
      case' cb =>
        rw [nv_flat]
        have sO : Same H5 (upd H10 p (.lst (nv (Ls.take w ++ Ls.drop (w + 1)).flatten))) := (s6.trans s6_10).trans (Same.upd np)
        have s4O : Same H4 (upd H10 p (.lst (nv (Ls.take w ++ Ls.drop (w + 1)).flatten))) := s4_10.trans (Same.upd np)
        obtain ⟨O, hO⟩ : ∃ O : List Nat, upd H10 p (.lst (nv (Ls.take w ++ Ls.drop (w + 1)).flatten)) p = some (.lst (nv O)) := ⟨_, upd_same⟩
        generalize upd H10 p (.lst (nv (Ls.take w ++ Ls.drop (w + 1)).flatten)) = H10 at hO sO s4O
      all_goals
        have hL1' := s4O _ _ (each w q1 L1 hq1 hL1).2
        have hbO := sO.tup hb5
        have stay : ∀ (H11 : Hp), Same H10 H11 → ∀ (y8 y9 y10 : Option V), ∃ (b' : Addr) (B : List Nat) (z8 z9 z10 : Option V), [some (.ref a), some (.ref s), some (.ref r), some (.ref b2), some (.int (k : Nat)), some (.int (e.1 : Int)), some (.int (e.2 : Int)), some (.ref q), y8, y9, y10] = [some (.ref a), some (.ref s), some (.ref r), some (.ref b'), some (.int (k : Nat)), some (.int (e.1 : Int)), some (.int (e.2 : Int)), some (.ref q), z8, z9, z10] ∧ Same H4 H11 ∧ SqT K H11 b' (nv B) ∧ StOk n ds (S.1, B) := fun H11 s11 y8 y9 y10 => ⟨b2, B2, _, _, _, rfl, s4O.trans s11, s11.tup hbO, ok5⟩
        refine ⟨_, rfl, _, rfl, q1, _, rfl, .inl (SqL.of hL1'), rfl, flat_nv _, _, rfl, ?_⟩
        rw [inV_nv]
        by_cases m1 : e.1 ∈ L1
        rotate_left
        · refine iteF' (decide_eq_false m1) ?_
          exact stay _ (Same.refl _) _ _ _
        refine iteT' (decide_eq_true m1) ?_
        refine ⟨_, rfl, _, rfl, q1, _, rfl, .inl (SqL.of hL1'), rfl, flat_nv _, _, rfl, ?_⟩
        rw [inV_nv]
        by_cases m2 : e.2 ∈ L1
        rotate_left
        · refine iteF' (decide_eq_false m2) ?_
          exact stay _ (Same.refl _) _ _ _
        refine iteT' (decide_eq_true m2) ?_
        refine ⟨_, rfl, _, rfl, p, _, rfl, .inl (SqL.of hO), rfl, flat_nv _, _, rfl, ?_⟩
        rw [inV_nv]
        have v1 : k < B2.length := by
          have := ok5.doors
          have this : B2.length = ds.length := this
          omega
        have lB : B2.length ≤ 1000 := by
          have this : B2.length = ds.length := ok5.doors
          omega
        obtain ⟨c1, c2⟩ := cut_to v1
        obtain ⟨c3, c4⟩ := cut_from v1
        have sz4 : (4 : Nat) + 1000 ≤ sizeLine := Nat.le_of_lt (small3k (by decide))
        have okN : StOk n ds (S.1, B2.set k w) := by
          refine ⟨ok5.one, ok5.few, ok5.rooms, by show (B2.set k w).length = _; rw [List.length_set]; exact ok5.doors, fun y hy => ?_⟩
          rcases List.mem_or_eq_of_mem_set hy with z | z
          · exact ok5.bars y z
          · rw [z]
            show w < S.1.length
            rw [← lLs]
            exact hw'
        by_cases m3 : e.1 ∈ O
        case' pos => refine iteT' (decide_eq_true m3) ?_
        case' neg =>
          refine iteF' (decide_eq_false m3) ?_
          refine ⟨_, rfl, _, rfl, p, _, rfl, .inl (SqL.of hO), rfl, flat_nv _, _, rfl, ?_⟩
          rw [inV_nv]
          by_cases m4 : e.2 ∈ O
          rotate_left
          · refine iteF' (decide_eq_false m4) ?_
            exact stay _ (Same.refl _) _ _ _
          refine iteT' (decide_eq_true m4) ?_
        all_goals
          refine ⟨_, rfl, _, rfl, _, rfl, b2, _, rfl, hbO, c2, fun p1 np1 => ?_⟩
          rw [c1]
          have sa := Same.upd (o := .tup (nv (B2.take k))) np1
          have hpa : upd H10 p1 (.tup (nv (B2.take k))) p1 = some (.tup (nv (B2.take k))) := upd_same
          generalize upd H10 p1 (.tup (nv (B2.take k))) = H11 at sa hpa
          refine ⟨_, rfl, by show 1 ≤ sizeLine; decide, fun p2 np2 => ?_⟩
          have sb := Same.upd (o := .tup [.int (w : Int)]) np2
          have hpb : upd H11 p2 (.tup [.int (w : Int)]) p2 = some (.tup [.int (w : Int)]) := upd_same
          generalize upd H11 p2 (.tup [.int (w : Int)]) = H12 at sb hpb
          refine catA_of (SqT.of (sb _ _ hpa)) (SqT.of hpb) (by rw [nv_len, List.length_take, List.length_singleton]; omega) fun H13 p3 s13 h13 => ?_
          have sc := (sa.trans sb).trans s13
          refine ⟨_, rfl, _, rfl, _, _, rfl, rfl, _, rfl, b2, _, rfl, sc.tup hbO, c4, fun p4 np4 => ?_⟩
          rw [c3]
          have s5' := Same.upd (o := .tup (nv (B2.drop (k + 1)))) np4
          refine catA_of (s5'.tup h13) (SqT.of upd_same) (by rw [List.length_append, nv_len, List.length_take, List.length_singleton, nv_len, List.length_drop]; omega) fun H14 p5 s14' h14 => ?_
          rw [nv_cut _ _ _ v1] at h14
          exact ⟨p5, _, _, _, _, rfl, s4O.trans ((sc.trans s5').trans s14'), h14, okN⟩
    · rintro σ H5 ⟨b2, B2, y8, y9, y10, rfl, s5, hb5, ok5⟩
      exact ⟨b2, B2, _, _, _, _, _, _, _, rfl, s14.trans s5, hb5, ok5⟩
  · rintro σ H1 ⟨b', B, y4, y5, y6, y7, y8, y9, y10, rfl, s1, hb, okB⟩
    refine ⟨_, rfl, _, rfl, by show 2 ≤ sizeLine; decide, fun t nt => ?_⟩
    have s2 := Same.upd (o := .tup [.ref r, .ref b']) nt
    exact qn _ t B (s1.trans s2) ⟨r, b', SqT.of upd_same, s2.tup (s1.tup h2), s2.tup hb⟩ okB
end
end K5

namespace K5
open PySem PySem.Spec PyProof.Rows L2
def spLaw (K : PySem.W.Frag) : Sp := fun vs H Q _ => ∃ (a : Addr) (ns : List Int), vs = [.ref a] ∧ SqL K H a (ns.map V.int) ∧ ns.length ≤ 63 ∧ ∀ H', Q (.bl true) H'
section
variable {P : Program} {w : World} {K : PySem.W.Frag}
      {mg : Str → Option Value} {base : Heap}
theorem ok_law {f0 : Addr} {fd0 : FuncData} (T : Bl mg) (F : Fun K "law" "law" s_law f0 fd0) (C_l_generator : Cal P w K mg base "_law_generator" ["_law_script", "_law_index"] 2 (spGen K)) (C_l_random : Cal P w K mg base "_law_random" ["_law_generator_here", "_law_bound"] 2 spRand)
    (C_l_random_house : Cal P w K mg base "_law_random_house" ["_law_generator_here", "_law_size"] 4 (spHouse K)) (C_l_random_state : Cal P w K mg base "_law_random_state" ["_law_generator_here", "_law_layout", "_law_count"] 3 (spRState K))
    (C_l_nearly_apart : Cal P w K mg base "_law_nearly_apart" ["_law_layout", "_law_situation"] 4 (spNear K)) (C_l_holds : CalG P w K mg base "_law_holds" ["_law_generator_here", "_law_layout", "_law_situation"] 11 (spHoldsO K)) : FnG P w K mg base 12 f0 fd0 ["_law_script"] (spLaw K) := by
  refine F.okG sc_law (fun vs H Q E h => ?_) (fun cdv A outer s0 H vs Q E hr hq h => ?_)
  · obtain ⟨a, ns, rfl, _⟩ := h
    rfl
  obtain ⟨a, ns, rfl, hs, hns, qn⟩ := h
  obtain ⟨f_l_generator, fd_l_generator, g_l_generator, k_l_generator, b_l_generator, G_l_generator⟩ := C_l_generator
  obtain ⟨f_l_random, fd_l_random, g_l_random, k_l_random, b_l_random, G_l_random⟩ := C_l_random
  obtain ⟨f_l_random_house, fd_l_random_house, g_l_random_house, k_l_random_house, b_l_random_house, G_l_random_house⟩ := C_l_random_house
  obtain ⟨f_l_random_state, fd_l_random_state, g_l_random_state, k_l_random_state, b_l_random_state, G_l_random_state⟩ := C_l_random_state
  obtain ⟨f_l_nearly_apart, fd_l_nearly_apart, g_l_nearly_apart, k_l_nearly_apart, b_l_nearly_apart, G_l_nearly_apart⟩ := C_l_nearly_apart
  obtain ⟨f_l_holds, fd_l_holds, g_l_holds, k_l_holds, b_l_holds, G_l_holds⟩ := C_l_holds
  refine ⟨_, (pss_cons (ps_for PassesOwn.never rfl (pi_range1 rfl T.range (pa_cons pe_int pa_nil)) (pg_name (i := 1) sc_law.nd rfl (.inl rfl))
    (pss_cons (ps_set (i := 2) sc_law.nd rfl (.inl rfl) (pe_call G_l_generator (hr.mono (by decide)) (by rfl) g_l_generator k_l_generator b_l_generator .nil pass0 (pa_cons (pv 0) (pa_cons (pv 1) pa_nil))))
    (pss_cons (ps_set (i := 3) sc_law.nd rfl (.inl rfl) (pe_op op_add pe_int (pe_call G_l_random (hr.mono (by decide)) (by rfl) g_l_random k_l_random b_l_random .nil pass0 (pa_cons (pv 2) (pa_cons (pe_ix ix_list (pe_lst (pa_cons pe_int (pa_cons pe_int (pa_cons pe_int pa_nil)))) (pe_call G_l_random (hr.mono (by decide)) (by rfl) g_l_random k_l_random b_l_random .nil pass0 (pa_cons (pv 2) (pa_cons pe_int pa_nil))) (fun _ _ => rfl)) pa_nil)))))
    (pss_cons (ps_set (i := 4) sc_law.nd rfl (.inl rfl) (pe_call G_l_random_house (hr.mono (by decide)) (by rfl) g_l_random_house k_l_random_house b_l_random_house .nil pass0 (pa_cons (pv 2) (pa_cons (pv 3) pa_nil))))
    (pss_cons (ps_set (i := 5) sc_law.nd rfl (.inl rfl) (pe_call G_l_random_state (hr.mono (by decide)) (by rfl) g_l_random_state k_l_random_state b_l_random_state .nil pass0 (pa_cons (pv 2) (pa_cons (pv 4) (pa_cons (pe_op op_add pe_int (pe_call G_l_random (hr.mono (by decide)) (by rfl) g_l_random k_l_random b_l_random .nil pass0 (pa_cons (pv 2) (pa_cons pe_int pa_nil)))) pa_nil)))))
    (pss_one (ps_for PassesOwn.never rfl (pi_list (pe_lst (pa_cons (pv 5) (pa_cons (pe_call G_l_nearly_apart (hr.mono (by decide)) (by rfl) g_l_nearly_apart k_l_nearly_apart b_l_nearly_apart .nil pass0 (pa_cons (pv 4) (pa_cons (pv 5) pa_nil))) pa_nil)))) (pg_name (i := 6) sc_law.nd rfl (.inl rfl))
    (pss_one (ps_if (pt_not (pt_val (pe_callG G_l_holds (hr.mono (by decide)) hq (by rfl) g_l_holds k_l_holds b_l_holds (pa_cons (pv 2) (pa_cons (pv 4) (pa_cons (pv 6) pa_nil)))))) (pss_one (ps_ret pe_bl)) pss_nil)))))))))
    (pss_one (ps_ret pe_bl))), ?_⟩
  refine ⟨4, rfl, by decide, by decide, ?_⟩
  refine for_range (lo := 0) (n := 4) (fun i σ H1 => ∃ y1 y2 y3 y4 y5 y6, σ = [some (.ref a), y1, y2, y3, y4, y5, y6] ∧ Same H H1) ⟨_, _, _, _, _, _, rfl, Same.refl _⟩ ?_ ?_
  · rintro i σ H1 hi ⟨y1, y2, y3, y4, y5, y6, rfl, s1⟩
    rw [Int.zero_add]
    refine ⟨_, rfl, _, rfl, a, ns, i, rfl, s1.seq hs, by omega, fun H2 g s2 ng gen => ?_⟩
    refine ⟨_, rfl, by show 3 ≤ sizeLine; decide, fun pl npl => ?_⟩
    have s3 := Same.upd (o := .lst [.int 4, .int 12, .int 30]) npl
    have hpl : upd H2 pl (.lst [.int 4, .int 12, .int 30]) pl = some (.lst [.int 4, .int 12, .int 30]) := upd_same
    have g3 := gen.same s3
    have npg : pl ≠ g := gen.ne npl
    generalize upd H2 pl (.lst [.int 4, .int 12, .int 30]) = H3 at s3 hpl g3 ⊢
    refine ⟨_, rfl, g, 1000000, 3, rfl, g3, by decide, by decide, by omega, fun H4 v4 bt4 g4 hv4 => ?_⟩
    obtain ⟨m, hm, m0, ml⟩ : ∃ m : Nat, ([V.int 4, V.int 12, V.int 30])[v4]? = some (.int (m : Int)) ∧ 0 < m ∧ m ≤ 30 := by
      match v4, hv4 with
      | 0, _ => exact ⟨4, rfl, by decide, by decide⟩
      | 1, _ => exact ⟨12, rfl, by decide, by decide⟩
      | 2, _ => exact ⟨30, rfl, by decide, by decide⟩
    refine ⟨pl, _, _, _, rfl, rfl, SqL.of (bt4 _ _ npg hpl), atI_nat (j := v4) hm, ?_⟩
    refine ⟨g, 1000001, m, rfl, g4, m0, by omega, by omega, fun H5 u bt5 g5 hu => ?_⟩
    refine ⟨_, _, rfl, rfl, ?_⟩
    dsimp only
    rw [show (1 : Int) + (u : Int) = ((1 + u : Nat) : Int) by omega]
    have hun : 1 + u ≤ 31 := by omega
    have hn0 : 0 < 1 + u := by omega
    generalize 1 + u = n at hun hn0 ⊢
    refine ⟨_, rfl, _, rfl, g, 1000002, n, rfl, g5, by omega, by omega, by decide, fun H6 a4 ds bt6 g6 nag hH tree => ?_⟩
    have bt26 : But g H2 H6 := ((s3.but.trans bt4).trans bt5).trans bt6
    refine ⟨_, rfl, _, rfl, _, rfl, g, 1001002, 5, rfl, g6, by decide, by decide, by omega, fun H7 v bt7 g7 hv => ⟨_, _, rfl, rfl, ?_⟩⟩
    obtain ⟨gx, hgx⟩ := g6.lst
    have hH7 := hH.but hgx bt7
    refine ⟨g, a4, _, 2 + v, n, ds, congrArg (fun z : Int => [V.ref g, V.ref a4, V.int z]) (show (2 : Int) + (v : Int) = ((2 + v : Nat) : Int) by omega), g7, hH7, tree, by omega, by omega, by omega, by omega, fun H8 s6 S bt8 g8 st ok lenS => ?_⟩
    obtain ⟨gy, hgy⟩ := g7.lst
    have hH8 := hH7.but hgy bt8
    have bt28 := (bt26.trans bt7).trans bt8
    refine ⟨_, rfl, _, rfl, _, rfl, a4, s6, n, ds, S, rfl, hH8, tree, by omega, st, ok, fun H9 q9 B s9 st9 ok9 => ?_⟩
    refine ⟨by show 2 ≤ sizeLine; decide, fun pq npq => ?_⟩
    have s10 := Same.upd (o := .lst [.ref s6, .ref q9]) npq
    have hpq : upd H9 pq (.lst [.ref s6, .ref q9]) pq = some (.lst [.ref s6, .ref q9]) := upd_same
    have s810 := s9.trans s10
    have g10 := g8.same s810
    have npqg := (g8.same s9).ne npq
    have hH10 := hH8.same s810
    have sta := st.same s810
    have stb := st9.same s10
    generalize upd H9 pq (.lst [.ref s6, .ref q9]) = H10 at s10 hpq s810 g10 hH10 sta stb
    obtain ⟨gz, hgz⟩ := g10.lst
    have two : 2 ≤ S.1.length := by omega
    refine ⟨pq, rfl, ⟨_, SqL.of hpq⟩, ?_⟩
    refine for_it (walk_list (K := K) (a := pq) (xs := [.ref s6, .ref q9])) (fun t σ Hx => ∃ (y6 : Option V) (b' : Nat), σ = [some (.ref a), some (.int (i : Int)), some (.ref g), some (.int (n : Int)), some (.ref a4), some (.ref s6), y6] ∧ But g H10 Hx ∧ GenAt Hx g b' ∧ b' ≤ 2 ^ 40 + 100 * t)
      ⟨_, _, rfl, But.refl _ _, g10, by omega⟩ (fun t σ Hx _ ⟨_, _, _, bt, _⟩ => SqL.of (bt _ _ npqg hpq)) ?_ ?_
    · rintro t x σ Hz Hx ht ⟨y6, b', rfl, btx, gnx, lb⟩ ⟨rfl, ex⟩
      obtain ⟨sx, Sx, rfl, stx, okx, twox⟩ : ∃ sx Sx, x = V.ref sx ∧ StateAt K Hx sx Sx ∧ StOk n ds Sx ∧ 2 ≤ Sx.1.length := by
        match t, ex with
        | 0, ex => cases ex; exact ⟨s6, S, rfl, sta.but hgz btx, ok, two⟩
        | 1, ex => cases ex; exact ⟨q9, (S.1, B), rfl, stb.but hgz btx, ok9, two⟩
        | (k + 2), ex => simp at ex
      have ht2 : t < 2 := ht
      refine ⟨_, rfl, _, rfl, _, rfl, g, a4, sx, b', n, ds, Sx, rfl, gnx, by omega, hH10.but hgz btx, tree, by omega, stx, okx, twox, fun H' bt' g' => ?_⟩
      refine ⟨_, rfl, iteF ?_⟩
      exact ⟨_, _, rfl, btx.trans bt', g', by omega⟩
    · rintro σ Hx ⟨y6, b', rfl, btx, _, _⟩
      exact ⟨_, _, _, _, _, _, rfl, But.same (s1.trans s2) (s1.free ng) (bt28.trans (s810.but.trans btx))⟩
  · rintro σ H1 ⟨y1, y2, y3, y4, y5, y6, rfl, s1⟩
    exact qn H1
end
end K5

namespace K5
open PySem PySem.Spec PyProof.Rows L2
theorem def_mk {K : PySem.W.Frag} {h : Heap} {mg : Str → Option Value} {x : Str} {st : Stmt} (X : K.In h) (G : h.Ns mainGlobals mg) {f : Addr} {oc : Value} {od an : Option Addr} {osl : Array (Option Value)} {kV doc pm cdv ct : Value} (a : PySem.W.nsIn K mainGlobals x = some (some (.ref f)))
    (l : K.lookup f = some ⟨oc, od, .func (PySem.W.fnOf x x (defArgs st) (defBody st) (defScope st) .none kV doc pm an cdv ct), osl⟩) (c : PySem.W.codeIn K cdv x = true) (k : PySem.W.keepIn K (.ref f) = true) : Def K mg x st :=
  ⟨f, _, fun_mk l c k, PySem.W.mg_of X G a⟩
theorem all_mk {l : PySem.W.OpenLaw} {w : World} {K : PySem.W.Frag} {h : Heap} {mg : Str → Option Value} {fa : Addr} (X : K.In h) (G : h.Ns mainGlobals mg) (hfa : mg "law" = some (.ref fa))
    {f0 : Addr} {od0 an0 : Option Addr} {sl0 : Array (Option Value)} {oc0 kV0 dc0 pm0 cd0 ct0 : Value}
    (a0 : PySem.W.nsIn K mainGlobals "is_whole" = some (some (.ref f0))) (l0 : K.lookup f0 = some ⟨oc0, od0, .func (PySem.W.fnOf "is_whole" "is_whole" (defArgs s_is_whole) (defBody s_is_whole) (defScope s_is_whole) .none kV0 dc0 pm0 an0 cd0 ct0), sl0⟩) (c0 : PySem.W.codeIn K cd0 "is_whole" = true) (k0 : PySem.W.keepIn K (.ref f0) = true)
    {f1 : Addr} {od1 an1 : Option Addr} {sl1 : Array (Option Value)} {oc1 kV1 dc1 pm1 cd1 ct1 : Value}
    (a1 : PySem.W.nsIn K mainGlobals "is_index" = some (some (.ref f1))) (l1 : K.lookup f1 = some ⟨oc1, od1, .func (PySem.W.fnOf "is_index" "is_index" (defArgs s_is_index) (defBody s_is_index) (defScope s_is_index) .none kV1 dc1 pm1 an1 cd1 ct1), sl1⟩) (c1 : PySem.W.codeIn K cd1 "is_index" = true) (k1 : PySem.W.keepIn K (.ref f1) = true)
    {f2 : Addr} {od2 an2 : Option Addr} {sl2 : Array (Option Value)} {oc2 kV2 dc2 pm2 cd2 ct2 : Value}
    (a2 : PySem.W.nsIn K mainGlobals "is_door" = some (some (.ref f2))) (l2 : K.lookup f2 = some ⟨oc2, od2, .func (PySem.W.fnOf "is_door" "is_door" (defArgs s_is_door) (defBody s_is_door) (defScope s_is_door) .none kV2 dc2 pm2 an2 cd2 ct2), sl2⟩) (c2 : PySem.W.codeIn K cd2 "is_door" = true) (k2 : PySem.W.keepIn K (.ref f2) = true)
    {f3 : Addr} {od3 an3 : Option Addr} {sl3 : Array (Option Value)} {oc3 kV3 dc3 pm3 cd3 ct3 : Value}
    (a3 : PySem.W.nsIn K mainGlobals "check_house" = some (some (.ref f3))) (l3 : K.lookup f3 = some ⟨oc3, od3, .func (PySem.W.fnOf "check_house" "check_house" (defArgs s_check_house) (defBody s_check_house) (defScope s_check_house) .none kV3 dc3 pm3 an3 cd3 ct3), sl3⟩) (c3 : PySem.W.codeIn K cd3 "check_house" = true) (k3 : PySem.W.keepIn K (.ref f3) = true)
    {f4 : Addr} {od4 an4 : Option Addr} {sl4 : Array (Option Value)} {oc4 kV4 dc4 pm4 cd4 ct4 : Value}
    (a4 : PySem.W.nsIn K mainGlobals "first_ring" = some (some (.ref f4))) (l4 : K.lookup f4 = some ⟨oc4, od4, .func (PySem.W.fnOf "first_ring" "first_ring" (defArgs s_first_ring) (defBody s_first_ring) (defScope s_first_ring) .none kV4 dc4 pm4 an4 cd4 ct4), sl4⟩) (c4 : PySem.W.codeIn K cd4 "first_ring" = true) (k4 : PySem.W.keepIn K (.ref f4) = true)
    {f5 : Addr} {od5 an5 : Option Addr} {sl5 : Array (Option Value)} {oc5 kV5 dc5 pm5 cd5 ct5 : Value}
    (a5 : PySem.W.nsIn K mainGlobals "find_root" = some (some (.ref f5))) (l5 : K.lookup f5 = some ⟨oc5, od5, .func (PySem.W.fnOf "find_root" "find_root" (defArgs s_find_root) (defBody s_find_root) (defScope s_find_root) .none kV5 dc5 pm5 an5 cd5 ct5), sl5⟩) (c5 : PySem.W.codeIn K cd5 "find_root" = true) (k5 : PySem.W.keepIn K (.ref f5) = true)
    {f6 : Addr} {od6 an6 : Option Addr} {sl6 : Array (Option Value)} {oc6 kV6 dc6 pm6 cd6 ct6 : Value}
    (a6 : PySem.W.nsIn K mainGlobals "need_house" = some (some (.ref f6))) (l6 : K.lookup f6 = some ⟨oc6, od6, .func (PySem.W.fnOf "need_house" "need_house" (defArgs s_need_house) (defBody s_need_house) (defScope s_need_house) .none kV6 dc6 pm6 an6 cd6 ct6), sl6⟩) (c6 : PySem.W.codeIn K cd6 "need_house" = true) (k6 : PySem.W.keepIn K (.ref f6) = true)
    {f7 : Addr} {od7 an7 : Option Addr} {sl7 : Array (Option Value)} {oc7 kV7 dc7 pm7 cd7 ct7 : Value}
    (a7 : PySem.W.nsIn K mainGlobals "exits_of" = some (some (.ref f7))) (l7 : K.lookup f7 = some ⟨oc7, od7, .func (PySem.W.fnOf "exits_of" "exits_of" (defArgs s_exits_of) (defBody s_exits_of) (defScope s_exits_of) .none kV7 dc7 pm7 an7 cd7 ct7), sl7⟩) (c7 : PySem.W.codeIn K cd7 "exits_of" = true) (k7 : PySem.W.keepIn K (.ref f7) = true)
    {f8 : Addr} {od8 an8 : Option Addr} {sl8 : Array (Option Value)} {oc8 kV8 dc8 pm8 cd8 ct8 : Value}
    (a8 : PySem.W.nsIn K mainGlobals "ways_from" = some (some (.ref f8))) (l8 : K.lookup f8 = some ⟨oc8, od8, .func (PySem.W.fnOf "ways_from" "ways_from" (defArgs s_ways_from) (defBody s_ways_from) (defScope s_ways_from) .none kV8 dc8 pm8 an8 cd8 ct8), sl8⟩) (c8 : PySem.W.codeIn K cd8 "ways_from" = true) (k8 : PySem.W.keepIn K (.ref f8) = true)
    {f9 : Addr} {od9 an9 : Option Addr} {sl9 : Array (Option Value)} {oc9 kV9 dc9 pm9 cd9 ct9 : Value}
    (a9 : PySem.W.nsIn K mainGlobals "steps_along" = some (some (.ref f9))) (l9 : K.lookup f9 = some ⟨oc9, od9, .func (PySem.W.fnOf "steps_along" "steps_along" (defArgs s_steps_along) (defBody s_steps_along) (defScope s_steps_along) .none kV9 dc9 pm9 an9 cd9 ct9), sl9⟩) (c9 : PySem.W.codeIn K cd9 "steps_along" = true) (k9 : PySem.W.keepIn K (.ref f9) = true)
    {f10 : Addr} {od10 an10 : Option Addr} {sl10 : Array (Option Value)} {oc10 kV10 dc10 pm10 cd10 ct10 : Value}
    (a10 : PySem.W.nsIn K mainGlobals "steps_between" = some (some (.ref f10))) (l10 : K.lookup f10 = some ⟨oc10, od10, .func (PySem.W.fnOf "steps_between" "steps_between" (defArgs s_steps_between) (defBody s_steps_between) (defScope s_steps_between) .none kV10 dc10 pm10 an10 cd10 ct10), sl10⟩) (c10 : PySem.W.codeIn K cd10 "steps_between" = true) (k10 : PySem.W.keepIn K (.ref f10) = true)
    {f11 : Addr} {od11 an11 : Option Addr} {sl11 : Array (Option Value)} {oc11 kV11 dc11 pm11 cd11 ct11 : Value}
    (a11 : PySem.W.nsIn K mainGlobals "is_numbered" = some (some (.ref f11))) (l11 : K.lookup f11 = some ⟨oc11, od11, .func (PySem.W.fnOf "is_numbered" "is_numbered" (defArgs s_is_numbered) (defBody s_is_numbered) (defScope s_is_numbered) .none kV11 dc11 pm11 an11 cd11 ct11), sl11⟩) (c11 : PySem.W.codeIn K cd11 "is_numbered" = true) (k11 : PySem.W.keepIn K (.ref f11) = true)
    {f12 : Addr} {od12 an12 : Option Addr} {sl12 : Array (Option Value)} {oc12 kV12 dc12 pm12 cd12 ct12 : Value}
    (a12 : PySem.W.nsIn K mainGlobals "all_encounters" = some (some (.ref f12))) (l12 : K.lookup f12 = some ⟨oc12, od12, .func (PySem.W.fnOf "all_encounters" "all_encounters" (defArgs s_all_encounters) (defBody s_all_encounters) (defScope s_all_encounters) .none kV12 dc12 pm12 an12 cd12 ct12), sl12⟩) (c12 : PySem.W.codeIn K cd12 "all_encounters" = true) (k12 : PySem.W.keepIn K (.ref f12) = true)
    {f13 : Addr} {od13 an13 : Option Addr} {sl13 : Array (Option Value)} {oc13 kV13 dc13 pm13 cd13 ct13 : Value}
    (a13 : PySem.W.nsIn K mainGlobals "has_state_shape" = some (some (.ref f13))) (l13 : K.lookup f13 = some ⟨oc13, od13, .func (PySem.W.fnOf "has_state_shape" "has_state_shape" (defArgs s_has_state_shape) (defBody s_has_state_shape) (defScope s_has_state_shape) .none kV13 dc13 pm13 an13 cd13 ct13), sl13⟩) (c13 : PySem.W.codeIn K cd13 "has_state_shape" = true) (k13 : PySem.W.keepIn K (.ref f13) = true)
    {f14 : Addr} {od14 an14 : Option Addr} {sl14 : Array (Option Value)} {oc14 kV14 dc14 pm14 cd14 ct14 : Value}
    (a14 : PySem.W.nsIn K mainGlobals "check_state" = some (some (.ref f14))) (l14 : K.lookup f14 = some ⟨oc14, od14, .func (PySem.W.fnOf "check_state" "check_state" (defArgs s_check_state) (defBody s_check_state) (defScope s_check_state) .none kV14 dc14 pm14 an14 cd14 ct14), sl14⟩) (c14 : PySem.W.codeIn K cd14 "check_state" = true) (k14 : PySem.W.keepIn K (.ref f14) = true)
    {f15 : Addr} {od15 an15 : Option Addr} {sl15 : Array (Option Value)} {oc15 kV15 dc15 pm15 cd15 ct15 : Value}
    (a15 : PySem.W.nsIn K mainGlobals "need_state" = some (some (.ref f15))) (l15 : K.lookup f15 = some ⟨oc15, od15, .func (PySem.W.fnOf "need_state" "need_state" (defArgs s_need_state) (defBody s_need_state) (defScope s_need_state) .none kV15 dc15 pm15 an15 cd15 ct15), sl15⟩) (c15 : PySem.W.codeIn K cd15 "need_state" = true) (k15 : PySem.W.keepIn K (.ref f15) = true)
    {f16 : Addr} {od16 an16 : Option Addr} {sl16 : Array (Option Value)} {oc16 kV16 dc16 pm16 cd16 ct16 : Value}
    (a16 : PySem.W.nsIn K mainGlobals "replaced" = some (some (.ref f16))) (l16 : K.lookup f16 = some ⟨oc16, od16, .func (PySem.W.fnOf "replaced" "replaced" (defArgs s_replaced) (defBody s_replaced) (defScope s_replaced) .none kV16 dc16 pm16 an16 cd16 ct16), sl16⟩) (c16 : PySem.W.codeIn K cd16 "replaced" = true) (k16 : PySem.W.keepIn K (.ref f16) = true)
    {f17 : Addr} {od17 an17 : Option Addr} {sl17 : Array (Option Value)} {oc17 kV17 dc17 pm17 cd17 ct17 : Value}
    (a17 : PySem.W.nsIn K mainGlobals "doors_barring" = some (some (.ref f17))) (l17 : K.lookup f17 = some ⟨oc17, od17, .func (PySem.W.fnOf "doors_barring" "doors_barring" (defArgs s_doors_barring) (defBody s_doors_barring) (defScope s_doors_barring) .none kV17 dc17 pm17 an17 cd17 ct17), sl17⟩) (c17 : PySem.W.codeIn K cd17 "doors_barring" = true) (k17 : PySem.W.keepIn K (.ref f17) = true)
    {f18 : Addr} {od18 an18 : Option Addr} {sl18 : Array (Option Value)} {oc18 kV18 dc18 pm18 cd18 ct18 : Value}
    (a18 : PySem.W.nsIn K mainGlobals "region_ways" = some (some (.ref f18))) (l18 : K.lookup f18 = some ⟨oc18, od18, .func (PySem.W.fnOf "region_ways" "region_ways" (defArgs s_region_ways) (defBody s_region_ways) (defScope s_region_ways) .none kV18 dc18 pm18 an18 cd18 ct18), sl18⟩) (c18 : PySem.W.codeIn K cd18 "region_ways" = true) (k18 : PySem.W.keepIn K (.ref f18) = true)
    {f19 : Addr} {od19 an19 : Option Addr} {sl19 : Array (Option Value)} {oc19 kV19 dc19 pm19 cd19 ct19 : Value}
    (a19 : PySem.W.nsIn K mainGlobals "is_apart" = some (some (.ref f19))) (l19 : K.lookup f19 = some ⟨oc19, od19, .func (PySem.W.fnOf "is_apart" "is_apart" (defArgs s_is_apart) (defBody s_is_apart) (defScope s_is_apart) .none kV19 dc19 pm19 an19 cd19 ct19), sl19⟩) (c19 : PySem.W.codeIn K cd19 "is_apart" = true) (k19 : PySem.W.keepIn K (.ref f19) = true)
    {f20 : Addr} {od20 an20 : Option Addr} {sl20 : Array (Option Value)} {oc20 kV20 dc20 pm20 cd20 ct20 : Value}
    (a20 : PySem.W.nsIn K mainGlobals "fewest_openings" = some (some (.ref f20))) (l20 : K.lookup f20 = some ⟨oc20, od20, .func (PySem.W.fnOf "fewest_openings" "fewest_openings" (defArgs s_fewest_openings) (defBody s_fewest_openings) (defScope s_fewest_openings) .none kV20 dc20 pm20 an20 cd20 ct20), sl20⟩) (c20 : PySem.W.codeIn K cd20 "fewest_openings" = true) (k20 : PySem.W.keepIn K (.ref f20) = true)
    {f21 : Addr} {od21 an21 : Option Addr} {sl21 : Array (Option Value)} {oc21 kV21 dc21 pm21 cd21 ct21 : Value}
    (a21 : PySem.W.nsIn K mainGlobals "opened" = some (some (.ref f21))) (l21 : K.lookup f21 = some ⟨oc21, od21, .func (PySem.W.fnOf "opened" "opened" (defArgs s_opened) (defBody s_opened) (defScope s_opened) .none kV21 dc21 pm21 an21 cd21 ct21), sl21⟩) (c21 : PySem.W.codeIn K cd21 "opened" = true) (k21 : PySem.W.keepIn K (.ref f21) = true)
    {f22 : Addr} {od22 an22 : Option Addr} {sl22 : Array (Option Value)} {oc22 kV22 dc22 pm22 cd22 ct22 : Value}
    (a22 : PySem.W.nsIn K mainGlobals "is_change" = some (some (.ref f22))) (l22 : K.lookup f22 = some ⟨oc22, od22, .func (PySem.W.fnOf "is_change" "is_change" (defArgs s_is_change) (defBody s_is_change) (defScope s_is_change) .none kV22 dc22 pm22 an22 cd22 ct22), sl22⟩) (c22 : PySem.W.codeIn K cd22 "is_change" = true) (k22 : PySem.W.keepIn K (.ref f22) = true)
    {f23 : Addr} {od23 an23 : Option Addr} {sl23 : Array (Option Value)} {oc23 kV23 dc23 pm23 cd23 ct23 : Value}
    (a23 : PySem.W.nsIn K mainGlobals "is_list_of_changes" = some (some (.ref f23))) (l23 : K.lookup f23 = some ⟨oc23, od23, .func (PySem.W.fnOf "is_list_of_changes" "is_list_of_changes" (defArgs s_is_list_of_changes) (defBody s_is_list_of_changes) (defScope s_is_list_of_changes) .none kV23 dc23 pm23 an23 cd23 ct23), sl23⟩) (c23 : PySem.W.codeIn K cd23 "is_list_of_changes" = true) (k23 : PySem.W.keepIn K (.ref f23) = true)
    {f24 : Addr} {od24 an24 : Option Addr} {sl24 : Array (Option Value)} {oc24 kV24 dc24 pm24 cd24 ct24 : Value}
    (a24 : PySem.W.nsIn K mainGlobals "check_openings" = some (some (.ref f24))) (l24 : K.lookup f24 = some ⟨oc24, od24, .func (PySem.W.fnOf "check_openings" "check_openings" (defArgs s_check_openings) (defBody s_check_openings) (defScope s_check_openings) .none kV24 dc24 pm24 an24 cd24 ct24), sl24⟩) (c24 : PySem.W.codeIn K cd24 "check_openings" = true) (k24 : PySem.W.keepIn K (.ref f24) = true)
    {f25 : Addr} {od25 an25 : Option Addr} {sl25 : Array (Option Value)} {oc25 kV25 dc25 pm25 cd25 ct25 : Value}
    (a25 : PySem.W.nsIn K mainGlobals "openings_fault" = some (some (.ref f25))) (l25 : K.lookup f25 = some ⟨oc25, od25, .func (PySem.W.fnOf "openings_fault" "openings_fault" (defArgs s_openings_fault) (defBody s_openings_fault) (defScope s_openings_fault) .none kV25 dc25 pm25 an25 cd25 ct25), sl25⟩) (c25 : PySem.W.codeIn K cd25 "openings_fault" = true) (k25 : PySem.W.keepIn K (.ref f25) = true)
    {f26 : Addr} {od26 an26 : Option Addr} {sl26 : Array (Option Value)} {oc26 kV26 dc26 pm26 cd26 ct26 : Value}
    (a26 : PySem.W.nsIn K mainGlobals "_law_cell" = some (some (.ref f26))) (l26 : K.lookup f26 = some ⟨oc26, od26, .func (PySem.W.fnOf "_law_cell" "_law_cell" (defArgs s_l_cell) (defBody s_l_cell) (defScope s_l_cell) .none kV26 dc26 pm26 an26 cd26 ct26), sl26⟩) (c26 : PySem.W.codeIn K cd26 "_law_cell" = true) (k26 : PySem.W.keepIn K (.ref f26) = true)
    {f27 : Addr} {od27 an27 : Option Addr} {sl27 : Array (Option Value)} {oc27 kV27 dc27 pm27 cd27 ct27 : Value}
    (a27 : PySem.W.nsIn K mainGlobals "_law_hash" = some (some (.ref f27))) (l27 : K.lookup f27 = some ⟨oc27, od27, .func (PySem.W.fnOf "_law_hash" "_law_hash" (defArgs s_l_hash) (defBody s_l_hash) (defScope s_l_hash) .none kV27 dc27 pm27 an27 cd27 ct27), sl27⟩) (c27 : PySem.W.codeIn K cd27 "_law_hash" = true) (k27 : PySem.W.keepIn K (.ref f27) = true)
    {f28 : Addr} {od28 an28 : Option Addr} {sl28 : Array (Option Value)} {oc28 kV28 dc28 pm28 cd28 ct28 : Value}
    (a28 : PySem.W.nsIn K mainGlobals "_law_generator" = some (some (.ref f28))) (l28 : K.lookup f28 = some ⟨oc28, od28, .func (PySem.W.fnOf "_law_generator" "_law_generator" (defArgs s_l_generator) (defBody s_l_generator) (defScope s_l_generator) .none kV28 dc28 pm28 an28 cd28 ct28), sl28⟩) (c28 : PySem.W.codeIn K cd28 "_law_generator" = true) (k28 : PySem.W.keepIn K (.ref f28) = true)
    {f29 : Addr} {od29 an29 : Option Addr} {sl29 : Array (Option Value)} {oc29 kV29 dc29 pm29 cd29 ct29 : Value}
    (a29 : PySem.W.nsIn K mainGlobals "_law_random" = some (some (.ref f29))) (l29 : K.lookup f29 = some ⟨oc29, od29, .func (PySem.W.fnOf "_law_random" "_law_random" (defArgs s_l_random) (defBody s_l_random) (defScope s_l_random) .none kV29 dc29 pm29 an29 cd29 ct29), sl29⟩) (c29 : PySem.W.codeIn K cd29 "_law_random" = true) (k29 : PySem.W.keepIn K (.ref f29) = true)
    {f30 : Addr} {od30 an30 : Option Addr} {sl30 : Array (Option Value)} {oc30 kV30 dc30 pm30 cd30 ct30 : Value}
    (a30 : PySem.W.nsIn K mainGlobals "_law_shuffled" = some (some (.ref f30))) (l30 : K.lookup f30 = some ⟨oc30, od30, .func (PySem.W.fnOf "_law_shuffled" "_law_shuffled" (defArgs s_l_shuffled) (defBody s_l_shuffled) (defScope s_l_shuffled) .none kV30 dc30 pm30 an30 cd30 ct30), sl30⟩) (c30 : PySem.W.codeIn K cd30 "_law_shuffled" = true) (k30 : PySem.W.keepIn K (.ref f30) = true)
    {f31 : Addr} {od31 an31 : Option Addr} {sl31 : Array (Option Value)} {oc31 kV31 dc31 pm31 cd31 ct31 : Value}
    (a31 : PySem.W.nsIn K mainGlobals "_law_random_house" = some (some (.ref f31))) (l31 : K.lookup f31 = some ⟨oc31, od31, .func (PySem.W.fnOf "_law_random_house" "_law_random_house" (defArgs s_l_random_house) (defBody s_l_random_house) (defScope s_l_random_house) .none kV31 dc31 pm31 an31 cd31 ct31), sl31⟩) (c31 : PySem.W.codeIn K cd31 "_law_random_house" = true) (k31 : PySem.W.keepIn K (.ref f31) = true)
    {f32 : Addr} {od32 an32 : Option Addr} {sl32 : Array (Option Value)} {oc32 kV32 dc32 pm32 cd32 ct32 : Value}
    (a32 : PySem.W.nsIn K mainGlobals "_law_around" = some (some (.ref f32))) (l32 : K.lookup f32 = some ⟨oc32, od32, .func (PySem.W.fnOf "_law_around" "_law_around" (defArgs s_l_around) (defBody s_l_around) (defScope s_l_around) .none kV32 dc32 pm32 an32 cd32 ct32), sl32⟩) (c32 : PySem.W.codeIn K cd32 "_law_around" = true) (k32 : PySem.W.keepIn K (.ref f32) = true)
    {f33 : Addr} {od33 an33 : Option Addr} {sl33 : Array (Option Value)} {oc33 kV33 dc33 pm33 cd33 ct33 : Value}
    (a33 : PySem.W.nsIn K mainGlobals "_law_random_state" = some (some (.ref f33))) (l33 : K.lookup f33 = some ⟨oc33, od33, .func (PySem.W.fnOf "_law_random_state" "_law_random_state" (defArgs s_l_random_state) (defBody s_l_random_state) (defScope s_l_random_state) .none kV33 dc33 pm33 an33 cd33 ct33), sl33⟩) (c33 : PySem.W.codeIn K cd33 "_law_random_state" = true) (k33 : PySem.W.keepIn K (.ref f33) = true)
    {f34 : Addr} {od34 an34 : Option Addr} {sl34 : Array (Option Value)} {oc34 kV34 dc34 pm34 cd34 ct34 : Value}
    (a34 : PySem.W.nsIn K mainGlobals "_law_region" = some (some (.ref f34))) (l34 : K.lookup f34 = some ⟨oc34, od34, .func (PySem.W.fnOf "_law_region" "_law_region" (defArgs s_l_region) (defBody s_l_region) (defScope s_l_region) .none kV34 dc34 pm34 an34 cd34 ct34), sl34⟩) (c34 : PySem.W.codeIn K cd34 "_law_region" = true) (k34 : PySem.W.keepIn K (.ref f34) = true)
    {f35 : Addr} {od35 an35 : Option Addr} {sl35 : Array (Option Value)} {oc35 kV35 dc35 pm35 cd35 ct35 : Value}
    (a35 : PySem.W.nsIn K mainGlobals "_law_regions" = some (some (.ref f35))) (l35 : K.lookup f35 = some ⟨oc35, od35, .func (PySem.W.fnOf "_law_regions" "_law_regions" (defArgs s_l_regions) (defBody s_l_regions) (defScope s_l_regions) .none kV35 dc35 pm35 an35 cd35 ct35), sl35⟩) (c35 : PySem.W.codeIn K cd35 "_law_regions" = true) (k35 : PySem.W.keepIn K (.ref f35) = true)
    {f36 : Addr} {od36 an36 : Option Addr} {sl36 : Array (Option Value)} {oc36 kV36 dc36 pm36 cd36 ct36 : Value}
    (a36 : PySem.W.nsIn K mainGlobals "_law_are_apart" = some (some (.ref f36))) (l36 : K.lookup f36 = some ⟨oc36, od36, .func (PySem.W.fnOf "_law_are_apart" "_law_are_apart" (defArgs s_l_are_apart) (defBody s_l_are_apart) (defScope s_l_are_apart) .none kV36 dc36 pm36 an36 cd36 ct36), sl36⟩) (c36 : PySem.W.codeIn K cd36 "_law_are_apart" = true) (k36 : PySem.W.keepIn K (.ref f36) = true)
    {f37 : Addr} {od37 an37 : Option Addr} {sl37 : Array (Option Value)} {oc37 kV37 dc37 pm37 cd37 ct37 : Value}
    (a37 : PySem.W.nsIn K mainGlobals "_law_nearly_apart" = some (some (.ref f37))) (l37 : K.lookup f37 = some ⟨oc37, od37, .func (PySem.W.fnOf "_law_nearly_apart" "_law_nearly_apart" (defArgs s_l_nearly_apart) (defBody s_l_nearly_apart) (defScope s_l_nearly_apart) .none kV37 dc37 pm37 an37 cd37 ct37), sl37⟩) (c37 : PySem.W.codeIn K cd37 "_law_nearly_apart" = true) (k37 : PySem.W.keepIn K (.ref f37) = true)
    {f38 : Addr} {od38 an38 : Option Addr} {sl38 : Array (Option Value)} {oc38 kV38 dc38 pm38 cd38 ct38 : Value}
    (a38 : PySem.W.nsIn K mainGlobals "_law_opened" = some (some (.ref f38))) (l38 : K.lookup f38 = some ⟨oc38, od38, .func (PySem.W.fnOf "_law_opened" "_law_opened" (defArgs s_l_opened) (defBody s_l_opened) (defScope s_l_opened) .none kV38 dc38 pm38 an38 cd38 ct38), sl38⟩) (c38 : PySem.W.codeIn K cd38 "_law_opened" = true) (k38 : PySem.W.keepIn K (.ref f38) = true)
    {f39 : Addr} {od39 an39 : Option Addr} {sl39 : Array (Option Value)} {oc39 kV39 dc39 pm39 cd39 ct39 : Value}
    (a39 : PySem.W.nsIn K mainGlobals "_law_is_apart" = some (some (.ref f39))) (l39 : K.lookup f39 = some ⟨oc39, od39, .func (PySem.W.fnOf "_law_is_apart" "_law_is_apart" (defArgs s_l_is_apart) (defBody s_l_is_apart) (defScope s_l_is_apart) .none kV39 dc39 pm39 an39 cd39 ct39), sl39⟩) (c39 : PySem.W.codeIn K cd39 "_law_is_apart" = true) (k39 : PySem.W.keepIn K (.ref f39) = true)
    {f40 : Addr} {od40 an40 : Option Addr} {sl40 : Array (Option Value)} {oc40 kV40 dc40 pm40 cd40 ct40 : Value}
    (a40 : PySem.W.nsIn K mainGlobals "_law_path" = some (some (.ref f40))) (l40 : K.lookup f40 = some ⟨oc40, od40, .func (PySem.W.fnOf "_law_path" "_law_path" (defArgs s_l_path) (defBody s_l_path) (defScope s_l_path) .none kV40 dc40 pm40 an40 cd40 ct40), sl40⟩) (c40 : PySem.W.codeIn K cd40 "_law_path" = true) (k40 : PySem.W.keepIn K (.ref f40) = true)
    {f41 : Addr} {od41 an41 : Option Addr} {sl41 : Array (Option Value)} {oc41 kV41 dc41 pm41 cd41 ct41 : Value}
    (a41 : PySem.W.nsIn K mainGlobals "_law_fewest" = some (some (.ref f41))) (l41 : K.lookup f41 = some ⟨oc41, od41, .func (PySem.W.fnOf "_law_fewest" "_law_fewest" (defArgs s_l_fewest) (defBody s_l_fewest) (defScope s_l_fewest) .none kV41 dc41 pm41 an41 cd41 ct41), sl41⟩) (c41 : PySem.W.codeIn K cd41 "_law_fewest" = true) (k41 : PySem.W.keepIn K (.ref f41) = true)
    {f42 : Addr} {od42 an42 : Option Addr} {sl42 : Array (Option Value)} {oc42 kV42 dc42 pm42 cd42 ct42 : Value}
    (a42 : PySem.W.nsIn K mainGlobals "_law_holds" = some (some (.ref f42))) (l42 : K.lookup f42 = some ⟨oc42, od42, .func (PySem.W.fnOf "_law_holds" "_law_holds" (defArgs s_l_holds) (defBody s_l_holds) (defScope s_l_holds) .none kV42 dc42 pm42 an42 cd42 ct42), sl42⟩) (c42 : PySem.W.codeIn K cd42 "_law_holds" = true) (k42 : PySem.W.keepIn K (.ref f42) = true)
    {f43 : Addr} {od43 an43 : Option Addr} {sl43 : Array (Option Value)} {oc43 kV43 dc43 pm43 cd43 ct43 : Value}
    (a43 : PySem.W.nsIn K mainGlobals "law" = some (some (.ref f43))) (l43 : K.lookup f43 = some ⟨oc43, od43, .func (PySem.W.fnOf "law" "law" (defArgs s_law) (defBody s_law) (defScope s_law) .none kV43 dc43 pm43 an43 cd43 ct43), sl43⟩) (c43 : PySem.W.codeIn K cd43 "law" = true) (k43 : PySem.W.keepIn K (.ref f43) = true)
    {C_Encounter : Addr}
    (cgEncounter : PySem.W.nsIn K mainGlobals "Encounter" = some (some (.ref C_Encounter)))
    (cpEncounter : PySem.W.plainGet K C_Encounter Str.empty = true)
    (chEncounter : PySem.W.hasDictIn K C_Encounter = true)
    (coEncounter : PySem.W.plainOver K C_Encounter = true)
    (csEncounter : PySem.W.findIn K (.ref C_Encounter) "__setattr__" = some (some (.builtin "object.__setattr__")))
    (ccEncounter : PySem.W.findIn K (.ref C_Encounter) "__class__" = some (some (.builtin "object.__class__")))
    (cnEncounter : PySem.W.specialIn K (.builtin "object.__class__") "__get__" = some (some (.builtin "getset_descriptor.__get__")))
    (ctEncounter : PySem.W.takesIn K (.builtin "object.__class__") = some true)
    (cmEncounter : PySem.W.mroIn K C_Encounter (.type "object") = some true)
    (ceEncounter : PySem.W.kitOne K (.ref C_Encounter) (.ref C_Encounter) = some true)
    (cqEncounter : PySem.W.findIn K (.ref C_Encounter) "__ne__" = some (some (.builtin "object.__ne__")))
    (ckEncounter : PySem.W.makesIn K C_Encounter = true)
    (ckpEncounter : PySem.W.keepIn K (.ref C_Encounter) = true)
    (cf0_Encounter : PySem.W.findIn K (.ref C_Encounter) "people" = some none)
    (cf1_Encounter : PySem.W.findIn K (.ref C_Encounter) "steps" = some none)
    (cf2_Encounter : PySem.W.findIn K (.ref C_Encounter) "changes" = some none)
    {mfEncounter_init : Addr} {moEncounter_init maEncounter_init : Option Addr} {mslEncounter_init : Array (Option Value)} {mocEncounter_init mkVEncounter_init mdcEncounter_init mpmEncounter_init mcdEncounter_init mctEncounter_init : Value}
    (mtEncounter_init : PySem.W.findIn K (.ref C_Encounter) "__init__" = some (some (.ref mfEncounter_init)))
    (miEncounter_init : PySem.W.isFn K (.ref mfEncounter_init) = true)
    (mlEncounter_init : K.lookup mfEncounter_init = some ⟨mocEncounter_init, moEncounter_init, .func (PySem.W.fnOf "__init__" "Encounter.__init__" (defArgs s_Encounter_init) (defBody s_Encounter_init) (defScope s_Encounter_init) .none mkVEncounter_init mdcEncounter_init mpmEncounter_init maEncounter_init mcdEncounter_init mctEncounter_init), mslEncounter_init⟩)
    (mcEncounter_init : PySem.W.codeIn K mcdEncounter_init "Encounter.__init__" = true)
    (mkEncounter_init : PySem.W.keepIn K (.ref mfEncounter_init) = true)
    (z0 : PySem.W.nsIn K mainGlobals "len" = some none)
    (z1 : PySem.W.nsIn K mainGlobals "isinstance" = some none)
    (z2 : PySem.W.nsIn K mainGlobals "enumerate" = some none)
    (z3 : PySem.W.nsIn K mainGlobals "range" = some none)
    (z4 : PySem.W.nsIn K mainGlobals "list" = some none)
    (z5 : PySem.W.nsIn K mainGlobals "set" = some none)
    (z6 : PySem.W.nsIn K mainGlobals "sorted" = some none)
    (z7 : PySem.W.nsIn K mainGlobals "max" = some none)
    (z8 : PySem.W.nsIn K mainGlobals "min" = some none)
    (z9 : PySem.W.nsIn K mainGlobals "tuple" = some none)
    (z10 : PySem.W.nsIn K mainGlobals "int" = some none)
    (z11 : PySem.W.nsIn K mainGlobals "bool" = some none)
    (z12 : PySem.W.nsIn K mainGlobals "all" = some none)
    (z13 : PySem.W.nsIn K mainGlobals "sum" = some none)
    (z14 : PySem.W.nsIn K mainGlobals "repr" = some none)
    (z15 : PySem.W.nsIn K mainGlobals "abs" = some none)
    : ∃ fd : FuncData, (∀ (s : Shared) (v : Value), BindsTo s fd ⟨[v], []⟩ [("_law_script", v)]) ∧ ∀ base : Heap, K.In base → base.Ns mainGlobals mg → FnG l.prog w K mg base 12 fa fd ["_law_script"] (spLaw K) := by
  have e := hfa.symm.trans (PySem.W.mg_of X G a43)
  cases e
  have T : Bl mg := ⟨PySem.W.mg_none_of X G z0, PySem.W.mg_none_of X G z1, PySem.W.mg_none_of X G z2, PySem.W.mg_none_of X G z3, PySem.W.mg_none_of X G z4, PySem.W.mg_none_of X G z5, PySem.W.mg_none_of X G z6, PySem.W.mg_none_of X G z7, PySem.W.mg_none_of X G z8, PySem.W.mg_none_of X G z9, PySem.W.mg_none_of X G z10, PySem.W.mg_none_of X G z11, PySem.W.mg_none_of X G z12, PySem.W.mg_none_of X G z13, PySem.W.mg_none_of X G z14, PySem.W.mg_none_of X G z15⟩
  have D_is_whole : Def K mg "is_whole" s_is_whole := def_mk X G a0 l0 c0 k0
  have D_is_index : Def K mg "is_index" s_is_index := def_mk X G a1 l1 c1 k1
  have D_is_door : Def K mg "is_door" s_is_door := def_mk X G a2 l2 c2 k2
  have D_check_house : Def K mg "check_house" s_check_house := def_mk X G a3 l3 c3 k3
  have D_first_ring : Def K mg "first_ring" s_first_ring := def_mk X G a4 l4 c4 k4
  have D_find_root : Def K mg "find_root" s_find_root := def_mk X G a5 l5 c5 k5
  have D_need_house : Def K mg "need_house" s_need_house := def_mk X G a6 l6 c6 k6
  have D_exits_of : Def K mg "exits_of" s_exits_of := def_mk X G a7 l7 c7 k7
  have D_ways_from : Def K mg "ways_from" s_ways_from := def_mk X G a8 l8 c8 k8
  have D_steps_along : Def K mg "steps_along" s_steps_along := def_mk X G a9 l9 c9 k9
  have D_steps_between : Def K mg "steps_between" s_steps_between := def_mk X G a10 l10 c10 k10
  have D_is_numbered : Def K mg "is_numbered" s_is_numbered := def_mk X G a11 l11 c11 k11
  have D_all_encounters : Def K mg "all_encounters" s_all_encounters := def_mk X G a12 l12 c12 k12
  have D_has_state_shape : Def K mg "has_state_shape" s_has_state_shape := def_mk X G a13 l13 c13 k13
  have D_check_state : Def K mg "check_state" s_check_state := def_mk X G a14 l14 c14 k14
  have D_need_state : Def K mg "need_state" s_need_state := def_mk X G a15 l15 c15 k15
  have D_replaced : Def K mg "replaced" s_replaced := def_mk X G a16 l16 c16 k16
  have D_doors_barring : Def K mg "doors_barring" s_doors_barring := def_mk X G a17 l17 c17 k17
  have D_region_ways : Def K mg "region_ways" s_region_ways := def_mk X G a18 l18 c18 k18
  have D_is_apart : Def K mg "is_apart" s_is_apart := def_mk X G a19 l19 c19 k19
  have D_fewest_openings : Def K mg "fewest_openings" s_fewest_openings := def_mk X G a20 l20 c20 k20
  have D_opened : Def K mg "opened" s_opened := def_mk X G a21 l21 c21 k21
  have D_is_change : Def K mg "is_change" s_is_change := def_mk X G a22 l22 c22 k22
  have D_is_list_of_changes : Def K mg "is_list_of_changes" s_is_list_of_changes := def_mk X G a23 l23 c23 k23
  have D_check_openings : Def K mg "check_openings" s_check_openings := def_mk X G a24 l24 c24 k24
  have D_openings_fault : Def K mg "openings_fault" s_openings_fault := def_mk X G a25 l25 c25 k25
  have D_l_cell : Def K mg "_law_cell" s_l_cell := def_mk X G a26 l26 c26 k26
  have D_l_hash : Def K mg "_law_hash" s_l_hash := def_mk X G a27 l27 c27 k27
  have D_l_generator : Def K mg "_law_generator" s_l_generator := def_mk X G a28 l28 c28 k28
  have D_l_random : Def K mg "_law_random" s_l_random := def_mk X G a29 l29 c29 k29
  have D_l_shuffled : Def K mg "_law_shuffled" s_l_shuffled := def_mk X G a30 l30 c30 k30
  have D_l_random_house : Def K mg "_law_random_house" s_l_random_house := def_mk X G a31 l31 c31 k31
  have D_l_around : Def K mg "_law_around" s_l_around := def_mk X G a32 l32 c32 k32
  have D_l_random_state : Def K mg "_law_random_state" s_l_random_state := def_mk X G a33 l33 c33 k33
  have D_l_region : Def K mg "_law_region" s_l_region := def_mk X G a34 l34 c34 k34
  have D_l_regions : Def K mg "_law_regions" s_l_regions := def_mk X G a35 l35 c35 k35
  have D_l_are_apart : Def K mg "_law_are_apart" s_l_are_apart := def_mk X G a36 l36 c36 k36
  have D_l_nearly_apart : Def K mg "_law_nearly_apart" s_l_nearly_apart := def_mk X G a37 l37 c37 k37
  have D_l_opened : Def K mg "_law_opened" s_l_opened := def_mk X G a38 l38 c38 k38
  have D_l_is_apart : Def K mg "_law_is_apart" s_l_is_apart := def_mk X G a39 l39 c39 k39
  have D_l_path : Def K mg "_law_path" s_l_path := def_mk X G a40 l40 c40 k40
  have D_l_fewest : Def K mg "_law_fewest" s_l_fewest := def_mk X G a41 l41 c41 k41
  have D_l_holds : Def K mg "_law_holds" s_l_holds := def_mk X G a42 l42 c42 k42
  have clsEncounter : Cls K C_Encounter := ⟨cpEncounter, chEncounter, coEncounter, csEncounter⟩
  have cl_Encounter : ClsD K mg "Encounter" C_Encounter ["people", "steps", "changes"] := ⟨clsEncounter, PySem.W.mg_of X G cgEncounter, by intro q hq; simp only [List.mem_cons, List.not_mem_nil, or_false] at hq; rcases hq with rfl | rfl | rfl; exact cf0_Encounter; exact cf1_Encounter; exact cf2_Encounter⟩
  have ic_Encounter : C8.InsC K C_Encounter := ⟨clsEncounter, ccEncounter, cnEncounter, ctEncounter, cmEncounter, ceEncounter⟩
  have ne_Encounter := cqEncounter
  have D_Encounter_init : IniD K C_Encounter "Encounter.__init__" s_Encounter_init := ⟨mfEncounter_init, _, fun_mk mlEncounter_init mcEncounter_init mkEncounter_init, ⟨ckEncounter, mtEncounter_init, miEncounter_init, ckpEncounter⟩⟩
  refine ⟨PySem.W.fnOf "law" "law" (defArgs s_law) (defBody s_law) (defScope s_law) .none kV43 dc43 pm43 an43 cd43 ct43, fun s v => .of_eq rfl, fun base _ _ => ?_⟩
  have H_cell : Cal l.prog w K mg base "_law_cell" ["_law_script", "_law_index"] 1 (spCell K) := ok_cell T D_l_cell
  have H_generator : Cal l.prog w K mg base "_law_generator" ["_law_script", "_law_index"] 2 (spGen K) := ok_generator T D_l_generator H_cell
  have H_hash : Cal l.prog w K mg base "_law_hash" ["_law_seed", "_law_index"] 1 spHash := ok_hash T D_l_hash
  have H_random : Cal l.prog w K mg base "_law_random" ["_law_generator_here", "_law_bound"] 2 spRand := ok_random T D_l_random H_hash
  have H_shuffled : Cal l.prog w K mg base "_law_shuffled" ["_law_generator_here", "_law_items"] 3 (spShuf K) := ok_shuffled T D_l_shuffled H_random
  have H_random_house : Cal l.prog w K mg base "_law_random_house" ["_law_generator_here", "_law_size"] 4 (spHouse K) := ok_random_house T D_l_random_house H_random H_shuffled
  have H_random_state : Cal l.prog w K mg base "_law_random_state" ["_law_generator_here", "_law_layout", "_law_count"] 3 (spRState K) := ok_random_state T D_l_random_state H_random
  have H_around : Cal l.prog w K mg base "_law_around" ["_law_layout"] 1 (spAround K) := ok_around T D_l_around
  have H_l_region : Cal l.prog w K mg base "_law_region" ["_law_layout", "_law_situation", "_law_who"] 2 (spRegL K) := ok_l_region T D_l_region H_around
  have H_l_regions : Cal l.prog w K mg base "_law_regions" ["_law_layout", "_law_situation"] 3 (spRegsL K) := ok_l_regions T D_l_regions H_l_region
  have H_l_nearly_apart : Cal l.prog w K mg base "_law_nearly_apart" ["_law_layout", "_law_situation"] 4 (spNear K) := ok_l_nearly_apart T D_l_nearly_apart H_l_regions
  have H_is_whole : Cal l.prog w K mg base "is_whole" ["value"] 1 spWhole := ok_is_whole T D_is_whole
  have H_is_index : Cal l.prog w K mg base "is_index" ["value", "count"] 2 spIndex := ok_is_index T D_is_index H_is_whole
  have H_is_door : Cal l.prog w K mg base "is_door" ["value", "count"] 3 (spDoor K) := ok_is_door T D_is_door H_is_index
  have H_find_root : Cal l.prog w K mg base "find_root" ["links", "room"] 1 spFind := ok_find_root T D_find_root
  have H_first_ring : Cal l.prog w K mg base "first_ring" ["doors"] 2 (spRing K) := ok_first_ring T D_first_ring H_find_root
  have H_check_house : Cal l.prog w K mg base "check_house" ["value"] 4 (spRing K) := ok_check_house T D_check_house H_is_door H_first_ring
  have H_need_house : Cal l.prog w K mg base "need_house" ["house"] 5 (spRing K) := ok_need_house T D_need_house H_check_house
  have H_has_state_shape : Cal l.prog w K mg base "has_state_shape" ["house", "value"] 1 (spShape K) := ok_has_state_shape T D_has_state_shape
  have H_check_state : Cal l.prog w K mg base "check_state" ["house", "value"] 6 (spSt K) := ok_check_state T D_check_state H_need_house H_has_state_shape H_is_index
  have H_need_state : Cal l.prog w K mg base "need_state" ["house", "state"] 7 (spSt K) := ok_need_state T D_need_state H_check_state
  have H_steps_along__t : Cal l.prog w K mg base "steps_along" ["ways", "room"] 1 (spStepsT K) := ok_steps_along__t T D_steps_along
  have H_exits_of : Cal l.prog w K mg base "exits_of" ["house"] 1 (spExits K) := ok_exits_of T D_exits_of
  have H_ways_from : Cal l.prog w K mg base "ways_from" ["house", "room", "shut"] 2 (spWays K) := ok_ways_from T D_ways_from H_exits_of
  have H_steps_between__t : Cal l.prog w K mg base "steps_between" ["house", "a", "b"] 3 (spStepsBT K) := ok_steps_between__t T D_steps_between H_steps_along__t H_ways_from
  have H_Encounter_init : CalI l.prog w K mg base C_Encounter ["self", "barred", "people", "steps"] 1 (spEnI K C_Encounter) := ok_Encounter_init T cl_Encounter D_Encounter_init
  have H_all_encounters : Cal l.prog w K mg base "all_encounters" ["house", "state"] 4 (spAllEn K C_Encounter) := ok_all_encounters T cl_Encounter D_all_encounters H_steps_between__t H_Encounter_init
  have H_fewest_openings : CalK l.prog w K mg base "fewest_openings" ["house", "state"] 8 (spFew K C_Encounter) ["state", "house"] rev2 rev2 := ok_fewest_openings T cl_Encounter D_fewest_openings H_need_state H_all_encounters
  have H_l_path : Cal l.prog w K mg base "_law_path" ["_law_layout", "_law_start", "_law_end"] 2 (spPathL K) := ok_l_path T D_l_path H_around
  have H_l_fewest : Cal l.prog w K mg base "_law_fewest" ["_law_layout", "_law_situation"] 3 (spFewL K) := ok_l_fewest T D_l_fewest H_l_path
  have H_is_change : Cal l.prog w K mg base "is_change" ["house", "state", "value"] 3 (spIsChg K) := ok_is_change T D_is_change H_is_index
  have H_is_list_of_changes : Cal l.prog w K mg base "is_list_of_changes" ["house", "state", "value"] 4 (spIsChgs K) := ok_is_list_of_changes T D_is_list_of_changes H_is_change
  have H_is_numbered : Cal l.prog w K mg base "is_numbered" ["value"] 2 (spNum K) := ok_is_numbered T D_is_numbered H_is_whole
  have H_replaced : Cal l.prog w K mg base "replaced" ["values", "index", "value"] 1 (spRepl K) := ok_replaced T D_replaced
  have H_opened : Cal l.prog w K mg base "opened" ["state", "changes"] 2 (spOpened K) := ok_opened T D_opened H_replaced
  have H_doors_barring : Cal l.prog w K mg base "doors_barring" ["state", "person"] 1 (spBarring K) := ok_doors_barring T D_doors_barring
  have H_region_ways : Cal l.prog w K mg base "region_ways" ["house", "state", "person"] 3 (spRegWays K) := ok_region_ways T D_region_ways H_ways_from H_doors_barring
  have H_is_apart : CalK l.prog w K mg base "is_apart" ["house", "state"] 8 (spApart K) ["state", "house"] rev2 rev2 := ok_is_apart T D_is_apart H_need_state H_region_ways
  have H_openings_fault : Cal l.prog w K mg base "openings_fault" ["house", "state", "number", "changes"] 9 (spFaultO K) := ok_openings_fault T D_openings_fault H_opened H_is_apart.cal H_fewest_openings.cal
  have H_check_openings : CalK l.prog w K mg base "check_openings" ["house", "state", "claim"] 10 (spCheckO K) ["claim", "state", "house"] rev3 rev3 := ok_check_openings T D_check_openings H_need_state H_is_list_of_changes H_is_numbered H_openings_fault
  have H_are_apart : Cal l.prog w K mg base "_law_are_apart" ["_law_regions_here"] 1 (spAre K) := ok_are_apart T D_l_are_apart
  have H_l_is_apart : Cal l.prog w K mg base "_law_is_apart" ["_law_layout", "_law_situation"] 4 (spIsA K) := ok_l_is_apart T D_l_is_apart H_are_apart H_l_regions
  have H_l_opened : Cal l.prog w K mg base "_law_opened" ["_law_situation", "_law_changes"] 1 (spOpL K) := ok_l_opened T D_l_opened
  have H_l_holds : CalG l.prog w K mg base "_law_holds" ["_law_generator_here", "_law_layout", "_law_situation"] 11 (spHoldsO K) := ok_l_holds T D_l_holds H_fewest_openings H_l_fewest H_check_openings H_l_is_apart H_l_opened H_random
  exact ok_law T (fun_mk (st := s_law) l43 c43 k43) H_generator H_random H_random_house H_random_state H_l_nearly_apart H_l_holds
end K5

open PySem PySem.W PyProof.Rows
set_option maxHeartbeats 0 in
theorem PySem.Challenge.cw_lastthrough_k33_openings_in_large_houses_holds : PySem.Challenge.rw_lastthrough_k33_openings_in_large_houses.Holds := by
  w_on; o_law; k_head; (case hw => w_witness2)
  k_fill
  refine L2.walk_ofG (l := PySem.Challenge.rw_lastthrough_k33_openings_in_large_houses) (n := 63) (k := 12) (x := "_law_script") (sp := fun w => K5.spLaw _) rfl (by decide) rfl ⟨rfl, by decide, by decide⟩ (fun w h Y => PySem.W.kIn_of Y) ?F (fun _ _ a ns hl _ hS => ⟨a, ns, rfl, hS, hl, fun _ => rfl⟩)
  case F =>
    intro w mg fa h KX G hmg
    refine' K5.all_mk KX G hmg ?a0 ?l0 ?c0 ?k0 ?a1 ?l1 ?c1 ?k1 ?a2 ?l2 ?c2 ?k2 ?a3 ?l3 ?c3 ?k3 ?a4 ?l4 ?c4 ?k4 ?a5 ?l5 ?c5 ?k5 ?a6 ?l6 ?c6 ?k6 ?a7 ?l7 ?c7 ?k7 ?a8 ?l8 ?c8 ?k8 ?a9 ?l9 ?c9 ?k9 ?a10 ?l10 ?c10 ?k10 ?a11 ?l11 ?c11 ?k11 ?a12 ?l12 ?c12 ?k12 ?a13 ?l13 ?c13 ?k13 ?a14 ?l14 ?c14 ?k14 ?a15 ?l15 ?c15 ?k15 ?a16 ?l16 ?c16 ?k16 ?a17 ?l17 ?c17 ?k17 ?a18 ?l18 ?c18 ?k18 ?a19 ?l19 ?c19 ?k19 ?a20 ?l20 ?c20 ?k20 ?a21 ?l21 ?c21 ?k21 ?a22 ?l22 ?c22 ?k22 ?a23 ?l23 ?c23 ?k23 ?a24 ?l24 ?c24 ?k24 ?a25 ?l25 ?c25 ?k25 ?a26 ?l26 ?c26 ?k26 ?a27 ?l27 ?c27 ?k27 ?a28 ?l28 ?c28 ?k28 ?a29 ?l29 ?c29 ?k29 ?a30 ?l30 ?c30 ?k30 ?a31 ?l31 ?c31 ?k31 ?a32 ?l32 ?c32 ?k32 ?a33 ?l33 ?c33 ?k33 ?a34 ?l34 ?c34 ?k34 ?a35 ?l35 ?c35 ?k35 ?a36 ?l36 ?c36 ?k36 ?a37 ?l37 ?c37 ?k37 ?a38 ?l38 ?c38 ?k38 ?a39 ?l39 ?c39 ?k39 ?a40 ?l40 ?c40 ?k40 ?a41 ?l41 ?c41 ?k41 ?a42 ?l42 ?c42 ?k42 ?a43 ?l43 ?c43 ?k43 ?cgEncounter ?cpEncounter ?chEncounter ?coEncounter ?csEncounter ?ccEncounter ?cnEncounter ?ctEncounter ?cmEncounter ?ceEncounter ?cqEncounter ?ckEncounter ?ckpEncounter ?cf0_Encounter ?cf1_Encounter ?cf2_Encounter ?mtEncounter_init ?miEncounter_init ?mlEncounter_init ?mcEncounter_init ?mkEncounter_init ?z0 ?z1 ?z2 ?z3 ?z4 ?z5 ?z6 ?z7 ?z8 ?z9 ?z10 ?z11 ?z12 ?z13 ?z14 ?z15
    (case a0 => k_is)
    (case l0 => k_is)
    (case c0 => k_is)
    (case k0 => k_is)
    (case a1 => k_is)
    (case l1 => k_is)
    (case c1 => k_is)
    (case k1 => k_is)
    (case a2 => k_is)
    (case l2 => k_is)
    (case c2 => k_is)
    (case k2 => k_is)
    (case a3 => k_is)
    (case l3 => k_is)
    (case c3 => k_is)
    (case k3 => k_is)
    (case a4 => k_is)
    (case l4 => k_is)
    (case c4 => k_is)
    (case k4 => k_is)
    (case a5 => k_is)
    (case l5 => k_is)
    (case c5 => k_is)
    (case k5 => k_is)
    (case a6 => k_is)
    (case l6 => k_is)
    (case c6 => k_is)
    (case k6 => k_is)
    (case a7 => k_is)
    (case l7 => k_is)
    (case c7 => k_is)
    (case k7 => k_is)
    (case a8 => k_is)
    (case l8 => k_is)
    (case c8 => k_is)
    (case k8 => k_is)
    (case a9 => k_is)
    (case l9 => k_is)
    (case c9 => k_is)
    (case k9 => k_is)
    (case a10 => k_is)
    (case l10 => k_is)
    (case c10 => k_is)
    (case k10 => k_is)
    (case a11 => k_is)
    (case l11 => k_is)
    (case c11 => k_is)
    (case k11 => k_is)
    (case a12 => k_is)
    (case l12 => k_is)
    (case c12 => k_is)
    (case k12 => k_is)
    (case a13 => k_is)
    (case l13 => k_is)
    (case c13 => k_is)
    (case k13 => k_is)
    (case a14 => k_is)
    (case l14 => k_is)
    (case c14 => k_is)
    (case k14 => k_is)
    (case a15 => k_is)
    (case l15 => k_is)
    (case c15 => k_is)
    (case k15 => k_is)
    (case a16 => k_is)
    (case l16 => k_is)
    (case c16 => k_is)
    (case k16 => k_is)
    (case a17 => k_is)
    (case l17 => k_is)
    (case c17 => k_is)
    (case k17 => k_is)
    (case a18 => k_is)
    (case l18 => k_is)
    (case c18 => k_is)
    (case k18 => k_is)
    (case a19 => k_is)
    (case l19 => k_is)
    (case c19 => k_is)
    (case k19 => k_is)
    (case a20 => k_is)
    (case l20 => k_is)
    (case c20 => k_is)
    (case k20 => k_is)
    (case a21 => k_is)
    (case l21 => k_is)
    (case c21 => k_is)
    (case k21 => k_is)
    (case a22 => k_is)
    (case l22 => k_is)
    (case c22 => k_is)
    (case k22 => k_is)
    (case a23 => k_is)
    (case l23 => k_is)
    (case c23 => k_is)
    (case k23 => k_is)
    (case a24 => k_is)
    (case l24 => k_is)
    (case c24 => k_is)
    (case k24 => k_is)
    (case a25 => k_is)
    (case l25 => k_is)
    (case c25 => k_is)
    (case k25 => k_is)
    (case a26 => k_is)
    (case l26 => k_is)
    (case c26 => k_is)
    (case k26 => k_is)
    (case a27 => k_is)
    (case l27 => k_is)
    (case c27 => k_is)
    (case k27 => k_is)
    (case a28 => k_is)
    (case l28 => k_is)
    (case c28 => k_is)
    (case k28 => k_is)
    (case a29 => k_is)
    (case l29 => k_is)
    (case c29 => k_is)
    (case k29 => k_is)
    (case a30 => k_is)
    (case l30 => k_is)
    (case c30 => k_is)
    (case k30 => k_is)
    (case a31 => k_is)
    (case l31 => k_is)
    (case c31 => k_is)
    (case k31 => k_is)
    (case a32 => k_is)
    (case l32 => k_is)
    (case c32 => k_is)
    (case k32 => k_is)
    (case a33 => k_is)
    (case l33 => k_is)
    (case c33 => k_is)
    (case k33 => k_is)
    (case a34 => k_is)
    (case l34 => k_is)
    (case c34 => k_is)
    (case k34 => k_is)
    (case a35 => k_is)
    (case l35 => k_is)
    (case c35 => k_is)
    (case k35 => k_is)
    (case a36 => k_is)
    (case l36 => k_is)
    (case c36 => k_is)
    (case k36 => k_is)
    (case a37 => k_is)
    (case l37 => k_is)
    (case c37 => k_is)
    (case k37 => k_is)
    (case a38 => k_is)
    (case l38 => k_is)
    (case c38 => k_is)
    (case k38 => k_is)
    (case a39 => k_is)
    (case l39 => k_is)
    (case c39 => k_is)
    (case k39 => k_is)
    (case a40 => k_is)
    (case l40 => k_is)
    (case c40 => k_is)
    (case k40 => k_is)
    (case a41 => k_is)
    (case l41 => k_is)
    (case c41 => k_is)
    (case k41 => k_is)
    (case a42 => k_is)
    (case l42 => k_is)
    (case c42 => k_is)
    (case k42 => k_is)
    (case a43 => k_is)
    (case l43 => k_is)
    (case c43 => k_is)
    (case k43 => k_is)
    (case cgEncounter => k_is)
    (case cpEncounter => k_is)
    (case chEncounter => k_is)
    (case coEncounter => k_is)
    (case csEncounter => k_is)
    (case ccEncounter => k_is)
    (case cnEncounter => first | k_is | rfl)
    (case ctEncounter => first | k_is | rfl)
    (case cmEncounter => first | k_is | rfl)
    (case ceEncounter => first | k_is | rfl)
    (case cqEncounter => k_is)
    (case ckEncounter => k_is)
    (case ckpEncounter => k_is)
    (case cf0_Encounter => k_is)
    (case cf1_Encounter => k_is)
    (case cf2_Encounter => k_is)
    (case mtEncounter_init => k_is)
    (case miEncounter_init => k_is)
    (case mlEncounter_init => k_is)
    (case mcEncounter_init => k_is)
    (case mkEncounter_init => k_is)
    (case z0 => k_is)
    (case z1 => k_is)
    (case z2 => k_is)
    (case z3 => k_is)
    (case z4 => k_is)
    (case z5 => k_is)
    (case z6 => k_is)
    (case z7 => k_is)
    (case z8 => k_is)
    (case z9 => k_is)
    (case z10 => k_is)
    (case z11 => k_is)
    (case z12 => k_is)
    (case z13 => k_is)
    (case z14 => k_is)
    (case z15 => k_is)

