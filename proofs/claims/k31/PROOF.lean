import PyProof.Rows.All
import Wide.All
import OpenK.AllK
import Wide.FinOn
import HandS.ForMost
import HandS.Walk
import HandS.IsInst
import HandS.Conv
import HandS.Strs
import HandS.Style
import HandS.Sort
import HandS.SortRule
import HandS.Wide
import HandS.WideBits
import HandS.TupAny
import KE.GoesMore
import KE.GoesEnum
import KE.GoesNew
import HandS.ForExc
import HandS.ExcInit
import HandS.ExcField
import HandS.ExcIs
import HandS.TupSets
import HandS.Evl
import HandS.Ends
import HandS.RaiseMore
import PyProof.ReprReads
import HandS.Codes
import HandS.SlotsOwn
import PyProof.InstNe
import HandS.More
import KE.KDictList
import HandS.SetFor
import HandS.ExcOwn
import HandS.ExcValue
import KE.SortData
import HandS.Flow
import PyProof.SumAny
import PyProof.ListOps
import PyProof.Commute
import PyProof.FactsAll.subtypes_4
import KE.DataMinMax
import HandS.SortKw
import HandS.Defaults
import HandS.TupMul
import HandS.CallLocal
import HandS.Deep
import HandS.TupLe
import PySem.Challenge.RW_lastthrough_k31_edge_cases
set_option Elab.async false
set_option linter.all false
set_option maxRecDepth 100000
set_option maxHeartbeats 4000000
/-! rules of our own: powers of any size, enumerate of a tuple, a pair turned by its step, a set made of a list of numbers -/
namespace L2
open PySem PySem.Spec PyProof.Rows
theorem op_powX {X : Cx} : OpR X (binaryOp .Pow) (rI (fun i j => 0 ≤ j ∧ (Builtin.Int.intBits i : Int) * j ≤ 2 ^ 27) fun i j => .int (i ^ j.toNat)) := opI fun _ _ _ _ _ _ _ hc q => pow_int hc.1 hc.2 q

/-! ### enumerate of a tuple: by what its iterator draws (GoesN) -/
def IteT (K : PySem.W.Frag) (a : Addr) : It where
  go i H := ∃ (xs : List V) (x : V), SqT K H a xs ∧ xs[i]? = some x
  yld i H v H' := ∃ T x, v = .ref T ∧ H T = none ∧ H' = upd H T (.tup [.int (i : Nat), x]) ∧ ∀ xs, SqT K H a xs → xs[i]? = some x
  stop i H := ∃ xs : List V, SqT K H a xs ∧ xs.length = i
/-- the three objects differ: their classes do -/
theorem enum_apart {h : Heap} {e it t : Addr} {i : Int} {old : Value} {j : Nat} {items : Array Value} (he : IsEnum h e it i old) (hi : h.IsTupleIter it t j) (ht : h.IsTuple t items) : e ∉ [it, t] ∧ t ≠ it := by
  obtain ⟨o, ho, hc, _⟩ := ht
  obtain ⟨oi, hoi, hci, _⟩ := hi
  have he' : h.get? e = some _ := he
  have n1 : e ≠ t := fun z => by
    rw [z, ho] at he'
    rw [← Option.some.inj he'.symm] at hc
    exact absurd (Value.type.inj hc) (by decide)
  have n2 : t ≠ it := fun z => by
    rw [z, hoi] at ho
    rw [← Option.some.inj ho, hci] at hc
    exact absurd (Value.type.inj hc) (by decide)
  have n3 : e ≠ it := fun z => by
    rw [z, hoi] at he'
    rw [← Option.some.inj he'.symm] at hci
    exact absurd (Value.type.inj hci) (by decide)
  exact ⟨by simp [n1, n3], n2⟩
/-- where the walk stands at its i-th turn -/
def EnT (a e it : Addr) (i : Nat) (h : Heap) : Prop := (∃ old, IsEnum h e it (0 + (i : Int)) old) ∧ h.IsTupleIter it a i ∧ e ≠ it
theorem EnT.lts {a e it : Addr} {i : Nat} {h : Heap} (st : EnT a e it i h) : ∀ b ∈ [e, it], b < h.objs.size := fun b hb => by
  obtain ⟨⟨old, he⟩, ⟨u, hu, _⟩, _⟩ := st
  rcases (List.mem_cons.mp hb : b = e ∨ b ∈ [it]) with z | z
  · exact z ▸ Heap.lt_size he
  · exact (List.mem_singleton.mp z) ▸ Heap.lt_size hu
theorem goesT {prog : Program} {w : World} {A : Around} {elts : List Expr} {kk : Nat} {tpos : Pos} (hh : A.handled = none) {a e it : Addr} {items : Array Value} (ne : e ≠ it) (ap : e ∉ [it, a] ∧ a ≠ it) :
    GoesN prog w A (.Tuple elts kk tpos) e [e, it, a] [e, it] items.size (fun i h0 v h => ∃ T t x, v = .ref T ∧ h0.objs.size ≤ T ∧ items[i]? = some x ∧ h.IsTuple T #[.int (0 + (i : Int)) t, x])
      (fun i h => (∃ old, IsEnum h e it (0 + (i : Int)) old) ∧ h.IsTupleIter it a i ∧ h.IsTuple a items) :=
  GoesN.enumFrom 0 (Draws.tuple (A := A.in1) hh it a ap.2 items) e ne ap.1 (by simp)
theorem turn_enumT {P : Program} {w : World} {K : PySem.W.Frag} {elts : List Expr} {kk : Nat} {tpos : Pos} (a e it : Addr) : Turn P w K (.Tuple elts kk tpos) (IteT K a) [e, it] e (EnT a e it) where
  mem := List.mem_cons_self
  obj := by
    rintro i h ⟨⟨old, he⟩, ⟨u, hu, _, hd⟩, _⟩ b hb
    rcases (List.mem_cons.mp hb : b = e ∨ b ∈ [it]) with rfl | m
    · exact ⟨_, he, by intro v z; cases z⟩
    · rw [List.mem_singleton.mp m]
      exact ⟨u, hu, by intro v z; rw [hd] at z; cases z⟩
  keep := by
    rintro i h h' ⟨⟨old, he⟩, ht, hn⟩ k
    exact ⟨⟨old, k _ List.mem_cons_self _ he⟩, ht.at (k it (List.mem_cons_of_mem _ (List.mem_singleton.mpr rfl))), hn⟩
  item := by
    rintro X rfl rfl rfl calm i pins s σ H E I hf st ⟨xs, x, hq, hx⟩
    have lts := st.lts
    obtain ⟨⟨old, he⟩, ht, hn⟩ := st
    obtain ⟨its, vals, tup, _⟩ := I.tuple hq
    obtain ⟨u, hu, ru⟩ := vals.get hx
    have hu' : its.toArray[i]? = some u := by
      rw [List.getElem?_toArray]
      exact hu
    have len : i < its.toArray.size := (Array.getElem?_eq_some_iff.mp hu').1
    refine (goesT (I.ok.hd calm) hn (enum_apart he ht tup)).goes i s _ _ len ⟨⟨old, he⟩, ht, tup⟩ fun v h' tk hY st' keep _ => ?_
    obtain ⟨T, t, y, rfl, nT, hy, hT⟩ := hY
    cases hu'.symm.trans hy
    have ok : ObjOk X.prog X.w (upd H T (.tup [.int (i : Nat), x])) h' T (.tup [.int (i : Nat), x]) :=
      ⟨by show 2 ≤ sizeLine; decide, [.int (0 + (i : Int)) t, u], .cons ⟨t, by rw [Int.zero_add]⟩ (.cons ru .nil), hT⟩
    refine ⟨.ref T, _, I.turnedNew keep hf nT ok, rfl, ⟨T, x, rfl, I.hok.fresh nT, rfl, fun ys hy => ?_⟩, ⟨st'.1, st'.2.1, hn⟩, fun b hb => ?_⟩
    · rw [I.tuple_inj hy hq]
      exact hx
    · rw [upd_ne (Nat.ne_of_lt (Nat.lt_of_lt_of_le (lts b hb) nT))]
      exact (hf b hb).1
  done := by
    rintro X rfl rfl rfl calm i pins s σ H E I hf ⟨⟨old, he⟩, ht, hn⟩ ⟨xs, hq, rfl⟩
    obtain ⟨its, vals, tup, _⟩ := I.tuple hq
    have sz : its.toArray.size = xs.length := by rw [List.size_toArray, vals.length]
    have g := goesT (prog := X.prog) (w := X.w) (elts := elts) (kk := kk) (tpos := tpos) (items := its.toArray) (I.ok.hd calm) hn (enum_apart he ht tup)
    refine g.stops s _ _ ⟨⟨old, by rw [sz]; exact he⟩, by rw [sz]; exact ht, tup⟩ fun h' tk keep _ => I.turnedL keep hf
  self := by
    rintro A i s Q E ⟨⟨old, he⟩, _⟩ q
    exact wpAny_pyIter_enum he q
/-- the object that enumerate makes over the iterator at i -/
abbrev enumOver (i : Addr) : Obj := { cls := .type "enumerate", data := .fields #[.none, .bool false, .ref i, rawInt 0, .none, .none] }
set_option maxHeartbeats 1200000 in
theorem enum_made {v : Value} {o : Obj} {C : Heap → Prop} (B : Begins v o C) : Meets (Builtin.«enumerate.__new__» ⟨[.type "enumerate", v], []⟩) (fun _ R s =>
    C s.heap ∧ R (.ok (.ret (.ref (s.heap.push o).objs.size))) { s with heap := (s.heap.push o).push (enumOver s.heap.objs.size) }) := by
  refine .of_wp fun prog w A R s ⟨c, h⟩ => ?_
  obtain ⟨hp, gs, dr, tk, os⟩ := s
  have sub := sub_enumerate
  have begun : ∀ {A' : Around} {E Q : Value → Shared → Prop}, Q (.ref hp.objs.size) ⟨hp.push o, gs, dr, tk, os⟩ → wpAny (model prog w) A' (pyIter v) Q E ⟨hp, gs, dr, tk, os⟩ := fun q => B.iter prog w _ _ _ _ c q
  wp_walk using begun
  refine wpAny_stack_any fun _ => ?_
  refine wpAny_pure ?_
  split
  · rename_i k _ _ _ _ _
    cases (k == Value.type "enumerate") <;> (wp_walk using begun; exact ⟨_, rfl, h⟩)
  · wp_walk using begun
    exact ⟨_, rfl, h⟩
theorem enum_call {prog : Program} {w : World} {A : Around} {E : Value → Shared → Prop} {s : Shared} {v : Value} {o : Obj} {C : Heap → Prop} (B : Begins v o C) (c : C s.heap) {Q : Value → Shared → Prop}
    (h : Q (.ref (s.heap.objs.size + 1)) { s with heap := (s.heap.push o).push (enumOver s.heap.objs.size) }) : wpAny (model prog w) A (call (.type "enumerate") [v]) Q E s := by
  have sz : (s.heap.push o).objs.size = s.heap.objs.size + 1 := Heap.size_push ..
  refine callType_new F.called_enumerate (by decide) (F.typeCall_enumerate_1 _) (F.newCall_enumerate_1 _)
    (fun obj => F.args_object_init_2 obj _) F.entry_enumerate_new (enum_made B) ⟨c, ?_⟩
  rw [← sz] at h
  refine ⟨?_, h⟩
  exact ⟨_, Heap.get?_push_size _ rfl, rfl⟩
def iEnumT (K : PySem.W.Frag) (ta : TA) : TI := fun σ H R => ta σ H fun vs H1 => ∃ a xs, vs = [.ref a] ∧ SqT K H1 a xs ∧ R (IteT K a) H1
theorem pi_enumT {X : Cx} {e : Expr} {ta : TA} {p pos tpos : Pos} {elts : List Expr} {kk : Nat} (hg : Gl X "enumerate") (hm : X.mg "enumerate" = none) (ha : PA X [e] ta) (one : starEach [e] X.env = [(false, eval e X.env)] := by rfl) :
    PI X (.Tuple elts kk tpos) (.Call (.Name "enumerate" p) [e] [] pos) (iEnumT X.K ta) := by
  constructor
  intro pins s σ H R I h
  refine Call_ (ld_blt I hg hm boot_enumerate (callWith_type1 (thn (ha.run pos pins s σ H _ I h) ?_) one rfl))
  rintro us s1 ⟨vs, H1, I1, r1, a, xs, rfl, hq, q⟩
  obtain ⟨u, rfl, (ru : u = .ref a)⟩ := vals1 r1
  subst ru
  obtain ⟨its, vals, tup, _⟩ := I1.tuple hq
  refine enum_call (begins_tuple a its.toArray) tup (wpAny_pyIter_enum (i := 0) (old := .none) (it := s1.heap.objs.size) ?_ ?_)
  all_goals have sz : (s1.heap.push { cls := .type "tuple_iterator", data := .fields #[.ref a, .int 0 0] }).objs.size = s1.heap.objs.size + 1 := Heap.size_push ..
  all_goals have get := Heap.get?_push_size (s1.heap.push { cls := .type "tuple_iterator", data := .fields #[.ref a, .int 0 0] }) (o := enumOver s1.heap.objs.size) rfl
  all_goals rw [sz] at get
  · exact get
  · have I2 : Inv X pins σ H1 { s1 with heap := (s1.heap.push { cls := .type "tuple_iterator", data := .fields #[.ref a, .int 0 0] }).push (enumOver s1.heap.objs.size) } :=
      I1.kept (t' := s1.toks) fun b ob k => Heap.get?_push_of_some _ (Heap.get?_push_of_some _ k)
    refine ⟨s1.heap.objs.size + 1, [s1.heap.objs.size + 1, s1.heap.objs.size], _, _, H1, rfl, I2, turn_enumT a _ s1.heap.objs.size, ⟨⟨.none, get⟩, ⟨_, Heap.get?_push_of_some _ (Heap.get?_push_size _ rfl), rfl, rfl⟩, Nat.succ_ne_self _⟩, fun b hb => ?_, q⟩
    have above : s1.heap.objs.size ≤ b := by
      rcases (List.mem_cons.mp hb : b = s1.heap.objs.size + 1 ∨ _) with rfl | m
      · exact Nat.le_succ _
      · exact Nat.le_of_eq (List.mem_singleton.mp m).symm
    exact I1.fpOk above (I1.hok.fresh above)
theorem walk_enumT {K : PySem.W.Frag} {a : Addr} {xs : List V} : Walk (IteT K a) xs.length (fun H => SqT K H a xs) (YPair (fun i => some (.int (i : Nat))) (fun i => xs[i]?)) where
  goes := fun i _ hi q => ⟨xs, _, q, List.getElem?_eq_getElem hi⟩
  stops := fun _ q => ⟨xs, q, rfl⟩
  yields := by
    rintro i H v H' _ q ⟨T, x, e1, e2, e3, e4⟩
    exact ⟨T, _, x, e1, e2, e3, rfl, e4 xs q⟩

/-! ### a pair turned by its step: t[::k], k one or minus one -/
section
variable {prog : Program} {w : World} {A : Around} {s : Shared} {E : Value → Shared → Prop}
/-- the slice object [::k] applied to n items -/
theorem applied_stp {sl : Addr} {vs : Value} {k : Int} {n : Nat} {Q : Int × Int × Nat → Shared → Prop} (hs : s.heap.IsSliceOf sl .none .none vs) (ps : IsPart vs (some k)) (h0 : ¬ (k == 0) = true)
    (h : Q ((Builtin.Slice.sliceAdjust none none k (n : Int)).1, k, Builtin.Slice.slicePlaces (Builtin.Slice.sliceAdjust none none k (n : Int)).1 (Builtin.Slice.sliceAdjust none none k (n : Int)).2 k) s) : wpAny (model prog w) A (Builtin.Slice.sliceApplied (.ref sl) (pure (n : Int))) Q E s := by
  obtain ⟨so, hso, _, dso⟩ := id hs
  delta Builtin.Slice.sliceApplied Builtin.Slice.sliceFields
  have read : ∀ {j : Nat} {y : Value} {α : Type} {f : Value → Sem α} {R : α → Shared → Prop}, #[Value.none, Value.none, vs][j]? = some y → wpAny (model prog w) A (f y) R E s → wpAny (model prog w) A (field (.ref sl) j >>= f) R E s := fun e q => wpAny_bind (wpAny_field hso dso e q)
  refine wpAny_bind (read rfl (read rfl (read rfl (wpAny_pure ?_))))
  refine wpAny_bind (HT.slicePart_ ps ?_)
  show wpAny _ _ (if (k == 0) = true then _ else _) _ _ s
  rw [if_neg h0]
  exact wpAny_bind (HT.slicePart_ .none (wpAny_bind (HT.slicePart_ .none (wpAny_bind (wpAny_pure (wpAny_pure h))))))
theorem pair_stp {t sl : Addr} {x y : Value} {vs : Value} {k : Int} {Q : Value → Shared → Prop} (ht : IsTup s.heap t #[x, y]) (hs : s.heap.IsSliceOf sl .none .none vs) (ps : IsPart vs (some k))
    (h : (k = 1 ∧ Q (.ref t) s) ∨ (k = -1 ∧ Q (.ref s.heap.objs.size) { s with heap := s.heap.push { cls := .type "tuple", data := .seq #[y, x] } })) : wpAny (model prog w) A (getItem (.ref t) (.ref sl)) Q E s := by
  have isS : s.TypeIs (.ref sl) "slice" := let ⟨so, a, b, _⟩ := id hs; ⟨so, a, b⟩
  unfold getItem
  refine wpAny_holding (wpAny_bind (wpAny_sequenceKey ht.typeIs (by decide) (wpAny_bind ?_)))
  refine wpAny_callSpecial?_slot (name := Str.ofString "__getitem__") ht.typeIs slot_tuple_getitem ?_
  refine wpAny_call_entry slot_tuple_getitem ht.typeIs entry_tuple_getitem ?_ (args_tuple_getitem _ _)
  show wpAny _ _ (Builtin.Tuple.tupleItemsOf _ >>= _) _ _ s
  refine wpAny_bind (tupleItemsOf_ ht (wpAny_bind (wpAny_typeOf isS ?_)))
  rw [if_pos (by decide)]
  rcases h with ⟨rfl, h⟩ | ⟨rfl, h⟩ <;> refine wpAny_bind (applied_stp (n := 2) hs ps (by decide) ?_)
  · show wpAny _ _ (if (((0 : Int) == 0 && (1 : Int) == 1 && (2 : Nat) == 2) = true) then _ else _) _ _ s
    rw [if_pos (by decide)]
    have whole : wpAny (model prog w) A.in1 (Builtin.Tuple.tupleIsExact (.ref t)) (fun b s' => b = true ∧ s' = s) (fun _ _ => False) s := by
      show wpAny _ _ (typeOf (.ref t) >>= _) _ _ s
      exact wpAny_bind (wpAny_typeOf ht.typeIs (wpAny_pure ⟨by decide, rfl⟩))
    refine wpAny_bind (wpAny_mono whole ?_ fun _ _ z => z.elim)
    rintro b s' ⟨rfl, rfl⟩
    rw [if_pos rfl]
    first | exact wpAny_bind (wpAny_rule (wpAny_pure ⟨_, rfl, wpAny_pure h⟩)) | exact wpAny_bind (wpAny_rule (wpAny_bind (wpAny_pure (wpAny_pure ⟨_, rfl, wpAny_pure h⟩))))
  · show wpAny _ _ (if (((1 : Int) == 0 && (-1 : Int) == 1 && (2 : Nat) == 2) = true) then _ else _) _ _ s
    rw [if_neg (by decide)]
    have sz : sizeOk (.seq #[y, x]) := by show 2 ≤ sizeLine; decide
    first
      | exact wpAny_bind (m := Builtin.Tuple.tupleExact #[y, x]) (wpAny_newObj_type (wpAny_pure ⟨_, rfl, wpAny_pure h⟩) sz)
      | exact wpAny_bind (m := Builtin.Tuple.tupleExact #[y, x]) (wpAny_newObj_type (wpAny_bind (wpAny_pure (wpAny_pure ⟨_, rfl, wpAny_pure h⟩))) sz)
      | exact wpAny_bind (wpAny_bind (m := Builtin.Tuple.tupleExact #[y, x]) (wpAny_newObj_type (wpAny_pure (wpAny_pure ⟨_, rfl, wpAny_pure h⟩)) sz))
      | exact wpAny_bind (wpAny_bind (m := Builtin.Tuple.tupleExact #[y, x]) (wpAny_newObj_type (wpAny_pure ⟨_, rfl, wpAny_pure h⟩) sz))
end
def tStp (K : PySem.W.Frag) (te tk : TE) : TE := fun σ H Q => te σ H fun x H1 => tk σ H1 fun z H2 => ∃ a u v, x = .ref a ∧ SqT K H2 a [u, v] ∧ ((z = .int 1 ∧ Q (.ref a) H2) ∨ (z = .int (-1) ∧ ∀ p, H2 p = none → Q (.ref p) (upd H2 p (.tup [v, u]))))
theorem no_part {X : Cx} {pins : List (Addr × Obj)} {σ : St} {H : Hp} {s : Shared} {Q : Value → Shared → Prop} (I : Inv X pins σ H s) (h : Q .none s) : wpAny (model X.prog X.w) X.A (evalPart none X.env) Q X.xe s := by
  rw [evalPart_none]
  exact wpAny_pure h
theorem pe_stp {X : Cx} {e st : Expr} {te tk : TE} {p3 pos : Pos} (he : PE X e te) (hk : PE X st tk) (hp : ∀ o i, subscripted (.Slice none none (some st) p3) false o i = operate [o, i] (getItem o i) := by intro _ _; rfl) : PE X (.Subscript e (.Slice none none (some st) p3) pos) (tStp X.K te tk) := by
  constructor
  intro pins s σ H Q I h
  refine Subscript_ (thn (he.run pins s σ H _ I h) ?_)
  rintro v s1 ⟨x, H1, I1, r1, q1⟩
  refine wpAny_Slice (no_part I1 (no_part I1 ?_))
  rw [evalPart_some]
  refine thn (hk.run pins s1 σ H1 _ I1 q1) ?_
  rintro vs s2 ⟨z, H2, I2, rz, a, y1, y2, rfl, hx, q⟩
  obtain rfl : v = .ref a := r1
  have I3 : Inv X pins σ H2 { s2 with heap := s2.heap.push { cls := .type "slice", data := .fields #[.none, .none, vs] } } := I2.kept (t' := s2.toks) fun b ob k => Heap.get?_push_of_some _ k
  obtain ⟨its, r, ht, _⟩ := I3.tuple hx
  obtain ⟨w1, w2, rfl, rw1, rw2⟩ := vals2 r
  have isS := Heap.IsSliceOf.new s2.heap .none .none vs
  have isT : Shared.TypeIs { s2 with heap := s2.heap.push { cls := .type "slice", data := .fields #[.none, .none, vs] } } (.ref a) "tuple" := ht.typeIs
  rcases q with ⟨rfl, q⟩ | ⟨rfl, q⟩ <;> obtain ⟨t, rfl⟩ := rz
  · exact tail_any isT slot_tuple_getitem.lookup (pair_stp ht isS (.int 1 t) (.inl ⟨rfl, .ref a, H2, I3, rfl, q⟩)) (hp _ _)
  · have laid := I3.laid (t' := s2.toks) (o := .tup [y2, y1]) (fun b ob k => Heap.get?_push_of_some { cls := .type "tuple", data := .seq #[w2, w1] } k) (Nat.le_refl _) ⟨by show 2 ≤ sizeLine; decide, [w2, w1], .cons rw2 (.cons rw1 .nil), IsTup.new _ _⟩
    exact tail_any isT slot_tuple_getitem.lookup (pair_stp ht isS (.int (-1) t) (.inr ⟨rfl, .ref _, _, laid, rfl, q _ (I3.hok.fresh (Nat.le_refl _))⟩)) (hp _ _)

/-! ### set(list of ints), k not in it -/
def rSetI (K : PySem.W.Frag) : List V → Hp → VK → Prop := fun xs H Q => ∃ (a : Addr) (ns : List Int), xs = [.ref a] ∧ SqL K H a (ns.map V.int) ∧ ns.length + 1 < scanBound ∧ ∀ p S n, H p = none → (∀ k, S k = decide (k ∈ ns)) → Q (.ref p) (upd H p (.set S n))
theorem getD_any (k : Int) : ∀ ns : List Int, (((List.range ns.length).map fun i => ns.getD i 0).any (· == k)) = decide (k ∈ ns) := by
  intro ns
  have e : ((List.range ns.length).map fun i => ns.getD i 0) = ns := by
    apply List.ext_getElem?
    intro i
    rw [List.getElem?_map]
    by_cases h : i < ns.length
    · rw [List.getElem?_range h, List.getElem?_eq_getElem h]
      simp [List.getD_eq_getElem?_getD, List.getElem?_eq_getElem h]
    · rw [List.getElem?_eq_none (by simpa using Nat.le_of_not_lt h), List.getElem?_eq_none (Nat.le_of_not_lt h)]
      rfl
  rw [e]
  by_cases h : k ∈ ns
  · rw [decide_eq_true h]
    exact List.any_eq_true.mpr ⟨k, h, beq_self_eq_true k⟩
  · rw [decide_eq_false h]
    refine List.any_eq_false.mpr fun x hx hb => h ?_
    rw [← eq_of_beq hb]
    exact hx
theorem cr_setI {X : Cx} (hc : X.calm = true) : CallR X (.type "set") (rSetI X.K) := by
  rintro pins s σ H xs us Q I r ⟨a, ns, rfl, hs, hn, q⟩
  obtain ⟨u, rfl, (ru : u = .ref a)⟩ := vals1 r
  subst ru
  obtain ⟨its, rv, hl, few⟩ := I.list hs
  have len : its.length = ns.length := by rw [← rv.length, List.length_map]
  refine call_set_list (I.ok.hd hc) hl.isList (intsAre_of rv) (by rw [List.size_toArray, len]; exact hn) fun h' tk hS hk => ?_
  have laid := I.laid (t' := tk) (o := .set _ _) (fun b o e => hk b o (Heap.lt_size e) e) (Nat.le_refl _) hS
  refine ⟨.ref _, _, laid, rfl, q _ _ _ (I.hok.fresh (Nat.le_refl _)) fun k => ?_⟩
  rw [firstMet_any, List.size_toArray, len]
  exact getD_any k ns
def rSNotI : V → V → Hp → VK → Prop := fun x y H Q => ∃ k a S n, x = V.int k ∧ y = V.ref a ∧ H a = some (.set S n) ∧ Q (.bl (!S k)) H
theorem op_notset {X : Cx} : OpR X (compareOp .NotIn) rSNotI := by
  rintro pins s σ H x y v u Q I rx ry ⟨k, a, S, n, rfl, rfl, ha, q⟩
  obtain ⟨tk, rfl⟩ := rx
  obtain rfl : u = .ref a := ry
  have at_a : s.heap.SetOf (intKind X.prog X.w) a S n := I.hok a _ ha
  exact wpAny_notInSet_of (intKind_is _ _ _ _) rfl at_a ⟨.bl (!S k), H, I.tok _, rfl, q⟩

/-! a def that the top holds; what a caller uses of it -/
def Def (K : PySem.W.Frag) (mg : Str → Option Value) (x : Str) (st : Stmt) : Prop := ∃ (f : Addr) (fd : FuncData), Fun K x x st f fd ∧ mg x = some (.ref f)
def Cal (P : Program) (w : World) (K : PySem.W.Frag) (mg : Str → Option Value) (base : Heap) (x : Str) (ps : List Str) (k : Nat) (sp : Sp) : Prop :=
  ∃ (f : Addr) (fd : FuncData), mg x = some (.ref f) ∧ PySem.W.keepIn K (.ref f) = true ∧ Binds K fd ps [] ∧ FnOk P w K mg base CX0 k f fd ps sp
theorem Def.ok {P : Program} {w : World} {K : PySem.W.Frag} {mg : Str → Option Value} {base : Heap} {x : Str} {st : Stmt} {N ps : List Str} {k : Nat} {sp : Sp} (D : Def K mg x st) (S : FnScope N ps (defScope st))
    (hb : ∀ (kV doc pm : Value) (an : Option Addr) (cdv ct : Value) (us : List Value), us.length = ps.length → bindArgs (PySem.W.fnOf x x (defArgs st) (defBody st) (defScope st) .none kV doc pm an cdv ct) ⟨us, []⟩ = pure (ps.zip us))
    (ar : ∀ vs H Q E, sp vs H Q E → vs.length = ps.length)
    (hbody : ∀ (f : Addr) (cdv : Value) (A : Around) (outer : List Env) (s : Shared) (H : Hp) (vs : List V) (Q : VK) (E : XK), Room k (A.deeper (envOfC x (defScope st) s.heap.objs.size f cdv)) → sp vs H Q E →
      ∃ t, PSs (cxOf CX0 P w K mg base N x (defScope st) f cdv A outer s H E).nox (defBody st) t ∧ t { nx := fun _ H' => Q .non H', rt := Q } (start N vs) H) : Cal P w K mg base x ps (k + 1) sp := by
  obtain ⟨f, fd, F, m⟩ := D
  exact ⟨f, fd, m, F.kp, F.binds hb, F.ok S ar fun cdv A outer s H vs Q E hr h => hbody f cdv A outer s H vs Q E hr h⟩

/-! heaps -/
/-- all but what stands at a is as it was -/
def But (a : Addr) (H H' : Hp) : Prop := ∀ b o, b ≠ a → H b = some o → H' b = some o
theorem Same.but {a : Addr} {H H' : Hp} (s : Same H H') : But a H H' := fun b o _ e => s b o e
theorem But.trans {a : Addr} {H H1 H2 : Hp} (x : But a H H1) (y : But a H1 H2) : But a H H2 := fun b o n e => y b o n (x b o n e)
theorem Same.upd {H : Hp} {p : Addr} {o : HO} (h : H p = none) : Same H (upd H p o) := fun b x e => by
  rw [upd_ne (ne_of_none e h)]
  exact e
theorem But.upd {a : Addr} {H H' : Hp} (x : But a H H') (o : HO) : But a H (upd H' a o) := fun b u n e => by
  rw [upd_ne n]
  exact x b u n e
/-- what is new at p may change: all that stood in H stands -/
theorem Same.at {H H' : Hp} {p : Addr} {o : HO} (s : Same H H') (h : H p = none) : Same H (L2.upd H' p o) := fun b x e => by
  rw [upd_ne (ne_of_none e h)]
  exact s b x e
theorem But.same {a : Addr} {H0 H H' : Hp} (s : Same H0 H) (n : H0 a = none) (b : But a H H') : Same H0 H' := fun c o e => b c o (ne_of_none e n) (s c o e)
theorem Same.tup {K : PySem.W.Frag} {H H' : Hp} {a : Addr} {xs : List V} (e : Same H H') (h : SqT K H a xs) : SqT K H' a xs := by
  rcases h with (z | ⟨o, z⟩) | z
  · exact .inl (.inl (e _ _ z))
  · exact .inl (.inr ⟨o, e a _ z⟩)
  · exact .inr z
theorem But.tup {K : PySem.W.Frag} {H H' : Hp} {g a : Addr} {xs ys : List V} (e : But g H H') (hg : H g = some (.lst ys)) (h : SqT K H a xs) : SqT K H' a xs := by
  rcases h with (z | ⟨o, z⟩) | z
  · exact .inl (.inl (e _ _ (ne_of z hg (by intro q; cases q)) z))
  · exact .inl (.inr ⟨o, e _ _ (ne_of z hg (by intro q; cases q)) z⟩)
  · exact .inr z
theorem ref_same {H H' : Hp} {a : Addr} {o : HO} (s : Same H H') (h : H a = some o) : H' a = some o := s _ _ h
end L2

/-! own rules: an error that a clause has caught and a local keeps behind the clause; its fields, isinstance of it by its own class -/
namespace L2
open PySem PySem.Spec PyProof.Rows
/-- a caught error, kept: its class, its own dict's address -/
def exk (a : Addr) (cls : Value) (d : Option Addr) : HO :=
  .ext fun g => ∃ ob fs, g.get? a = some ob ∧ Zc cls d ob ∧ ob.data = Data.fields fs
theorem exk_ok {P : Program} {w : World} {H : Hp} {g : Heap} {a : Addr} {cls : Value} {d : Option Addr} {ob : Obj} {fs : Array Value} (e : g.get? a = some ob) (z : Zc cls d ob) (f : ob.data = Data.fields fs) : ObjOk P w H g a (exk a cls d) := by
  refine ⟨⟨ob, fs, e, z, f⟩, ⟨ob, e⟩, ?_⟩
  rintro g1 g2 ⟨ob1, fs1, e1, z1, f1⟩ st
  exact ⟨ob1, fs1, st ob1 e1, z1, f1⟩
theorem exk_at {P : Program} {w : World} {H : Hp} {g : Heap} {a : Addr} {cls : Value} {d : Option Addr} (ok : HOk P w H g) (e : H a = some (exk a cls d)) : ∃ ob fs, g.get? a = some ob ∧ Zc cls d ob ∧ ob.data = Data.fields fs := by
  have z : ObjOk P w H g a (.ext _) := ok a _ e
  exact z.1
section
variable {X : Cx} {H : Hp} {s : Shared} {pins : List (Addr × Obj)} {σ : St}
/-- behind the clause the error is an object of the heap as any other -/
theorem Inv.regain {a : Addr} {cls : Value} {d : Option Addr} {ob : Obj} {fs : Array Value} (I : Inv X pins σ H s) (e : s.heap.get? a = some ob) (z : Zc cls d ob) (f : ob.data = Data.fields fs) (n0 : X.s_0.heap.get? a = none)
    (nl : a ≠ X.env.locals) (np : ∀ p ∈ X.pn ++ pins, p.1 ≠ a) (na : H a = none) : Inv X pins σ (upd H a (exk a cls d)) s where
  ok := I.ok
  os := I.os
  bare := I.bare
  base :=
    { keep := I.base.keep
      slot := I.base.slot
      free := fun b o q n x => by
        have ne : b ≠ a := fun y => by rw [y, n0] at q; cases q
        rw [upd_ne ne]
        exact I.base.free b o q n x
      there := I.base.there
      tups := fun b xs q => by
        have q1 := I.base.tups b xs q
        rw [upd_ne (ne_of_none q1 na)]
        exact q1
      frzs := fun b o u q => by
        have q1 := I.base.frzs b o u q
        rw [upd_ne (ne_of_none q1 na)]
        exact q1
      tbls := fun b ps q => by
        obtain ⟨m, q1⟩ := I.base.tbls b ps q
        rw [upd_ne (ne_of_none q1 na)]
        exact ⟨m, q1⟩ }
  loc := I.loc
  cell := I.cell
  free := by
    rw [upd_ne (Ne.symm nl)]
    exact I.free
  freeC := fun x c q => by
    have ne : c ≠ a := fun y => by
      obtain ⟨v, o, q1, q2⟩ := I.cell x c q
      rw [y, e] at q1
      cases q1
      rw [f] at q2
      exact nomatch q2
    rw [upd_ne ne]
    exact I.freeC x c q
  pin := fun p hp => by
    obtain ⟨q1, q2, q3⟩ := I.pin p hp
    rw [upd_ne (np p hp)]
    exact ⟨q1, q2, q3⟩
  hok := fun b o q => by
    by_cases y : b = a
    · subst y
      rw [upd_same] at q
      cases q
      exact exk_ok e z f
    · rw [upd_ne y] at q
      refine (I.hok b o q).stay (fun _ _ _ r => r) (fun c r => ?_) fun c xs r => ?_
      · rw [upd_ne (ne_of_none r na)]
        exact r
      · rw [upd_ne (ne_of_none r na)]
        exact r
  len := I.len
/-- the wish of the clause 'except x as n', the error kept -/
def wKeep (K : PySem.W.Frag) (c : Value) (i : Nat) (ts : Addr → Value → Option Addr → TS) (Wout : WX) (D : Ends) : WX := fun cls d σ H =>
  ∃ y, PySem.W.exmOne K cls c = some y ∧ (y = false → Wout cls d σ H) ∧ (y = true → ∀ a, H a = none →
    ts a cls d ⟨fun σ1 H1 => D.nx (σ1.set i none) (upd H1 a (exk a cls d)), fun v H1 => D.rt v (upd H1 a (exk a cls d)), fun σ1 H1 => D.bk (σ1.set i none) (upd H1 a (exk a cls d)), fun σ1 H1 => D.ct (σ1.set i none) (upd H1 a (exk a cls d))⟩ (σ.set i (some (.ref a))) H)

variable {x n : Str} {c : Value} {i : Nat} {work suite : List Stmt} {st0 : Stmt} {np q1 q2 : Pos} {tw : WX → TS} {ts : Addr → Value → Option Addr → TS} {Wout : WX}
/-- try: work / except x as n: suite, the error kept behind it -/
theorem ps_try_keep (e1 : X.stack = X.env :: X.outer) (e2 : X.env.frame = some X.env.locals) (e3 : X.ex = []) (nd : X.N.Nodup) (ni : X.N[i]? = some n) (nk : X.env.kindOf n = some .local) (nm : Names X x c) (tk : Takes X Wout)
    (W1 : ∀ (W : WX) (pn : List (Addr × Obj)) (xe : Value → Shared → Prop), Takes (X.tr pn xe) W → PassesOwn (model X.prog X.w) X.A X.env xe → PSs (X.tr pn xe) work (tw W))
    (W2 : ∀ (a : Addr) (ob : Obj) (cls : Value) (d : Option Addr) (pn : List (Addr × Obj)), Zc cls d ob → (∃ fs, ob.data = .fields fs) → PSs (X.suite a ((a, ob) :: pn)) (st0 :: suite) (ts a cls d)) :
    PS X (.Try work [.ExceptHandler (some (.Name x np)) (some n) (st0 :: suite) q1] [] [] q2) (fun D σ H => tw (wKeep X.K c i ts Wout D) D σ H) := by
  constructor
  intro pins s σ H D I h
  have ok := I.ok
  have frm : X.A.frames = some (X.env :: X.outer) := ok.frames.trans (congrArg some e1)
  apply wpAny_Try_except
  have caught : ∀ (xe0 : Value → Shared → Prop) (er : Value) (s9 : Shared), XE (X.tr (X.pn ++ pins) xe0) (wKeep X.K c i ts Wout D) er s9 →
      wpAny (model X.prog X.w) X.A (noteFrame er X.env) (fun _ s₂ => wpAny (model X.prog X.w) X.A (setFlight er none) (fun _ s₃ =>
        wpAny (model X.prog X.w) X.A (handleBy er X.env [.ExceptHandler (some (.Name x np)) (some n) (st0 :: suite) q1]) (SP X pins D) X.xe s₃) X.xe s₂) X.xe s9 := by
    rintro xe0 er s9 ⟨a, B, sI, pins1, σ1, H1, cls, d, rfl, J0, nb, up, sky, na, os, ag, y, ey, no, yes⟩
    have J1 : Inv X pins σ1 H1 sI := J0.ofTry ok
    have sky1 : Sky B (X.env :: X.outer) a (Zc cls d) X.env.locals s9.heap := e1 ▸ sky
    refine Sky.land Zc.steady frm e2 sky1 fun g3 fl3 up3 => ?_
    have J3 : Inv X pins σ1 H1 { s9 with heap := g3 } := J1.landed nb fl3.1 (up.trans up3) os ag
    obtain ⟨ob3, fs3, at3, z3, d3⟩ := fl3.there
    have off : ∀ {g : Heap} {ob : Obj} {fs : Array Value}, g.FunFrames B (X.env :: X.outer) → g.get? a = some ob → ob.data = Data.fields fs → a ∉ frs (X.env :: X.outer) := by
      intro g ob fs ff q r m
      obtain ⟨_, o1, r1, r2⟩ := ff.mem m
      rw [q] at r1
      cases r1
      exact r2 _ r
    have n1 := off fl3.2.2.1 at3 d3
    have nL : a ≠ X.env.locals := by
      intro y
      refine n1 (List.mem_filterMap.mpr ⟨X.env, List.mem_cons_self, ?_⟩)
      rw [e2, y]
    have nF : a ∉ X.fs := by
      intro m
      obtain ⟨v, m1, m2⟩ := List.mem_filterMap.mp m
      exact n1 (List.mem_filterMap.mpr ⟨v, List.mem_cons_of_mem _ m1, m2⟩)
    -- the error is new: it stood neither in the state at the raise nor at the def's start
    have nI : sI.heap.get? a = none := by
      cases q : sI.heap.get? a with
      | none => rfl
      | some o =>
        have r := nb a o q (by rw [e1]; exact n1)
        rw [fl3.2.1] at r
        cases r
    have unborn : X.s_0.heap.get? a = none := by
      cases q : X.s_0.heap.get? a with
      | none => rfl
      | some o =>
        obtain ⟨o1, r⟩ := J1.base.there a o q (by rw [e3]; simp)
        rw [nI] at r
        cases r
    have nP : ∀ p ∈ X.pn ++ pins, p.1 ≠ a := by
      intro p m y
      obtain ⟨r, _⟩ := J1.pin p m
      rw [y, nI] at r
      cases r
    have S3 := J3.suite at3 d3 na nL nF
    refine wpAny_handleBy_cons (codeAny_handlers_test ?_) (fun q => by cases q)
    have lt : PySem.W.Looks (model X.prog X.w) g3 (typeOf (.ref a)) cls := by
      intro A Q E sx k q
      refine wpAny_typeOf_ref (k _ _ at3) ?_
      rw [z3.1]
      exact q
    have lm := PySem.W.exm_one (M := model X.prog X.w) J3.kIn lt ey
    have named : ∀ {Q : Value → Shared → Prop} {E : Value → Shared → Prop}, Q c { s9 with heap := g3 } → wpAny (model X.prog X.w) (X.A.mark (some (.ref a))) (eval (.Name x np) X.env) Q E { s9 with heap := g3 } := by
      intro Q E q
      obtain ⟨m1, m2, m3⟩ := nm
      rcases m3 with m3 | ⟨m3, m4, m5⟩
      · exact ld_glob (X := X.suite a ((a, ob3) :: (X.pn ++ pins))) S3 m1 m3 q m2
      · exact ld_blt (X := X.suite a ((a, ob3) :: (X.pn ++ pins))) S3 m1 m3 m4 q m5 m2
    apply named
    apply lm.here
    cases y with
    | true =>
      apply codeAny_handlers_suite_as
      refine HandSPX.lands_againZ fl3 fun g4 fl4 up4 => ?_
      have J4 : Inv X pins σ1 H1 { s9 with heap := g4 } := J1.landed nb fl4.1 ((up.trans up3).trans up4) os ag
      obtain ⟨ob4, fs4, at4, z4, d4⟩ := fl4.there
      have S4 := J4.suite at4 d4 na nL nF
      refine store_ok (X := X.suite a ((a, ob4) :: (X.pn ++ pins))) (v := .ref a) S4 nd ni (.inl nk) rfl (fun s5 S5 => ?_) (.inr nk)
      refine wpAny_mono ((W2 a ob4 cls d (X.pn ++ pins) z4 ⟨_, d4⟩).run [] s5 _ H1 _ S5 (yes rfl a na)) (fun f s6 sp6 => ?_) (fun _ _ z => z.elim)
      have past : ∀ {σ6 : St} {H6 : Hp} {G : Shared → Prop}, Inv (X.suite a ((a, ob4) :: (X.pn ++ pins))) [] σ6 H6 s6 → (∀ s7, Inv X pins (σ6.set i none) (upd H6 a (exk a cls d)) s7 → G s7) →
          wpAny (model X.prog X.w) X.A (do bindName X.env n .none; unbindBehindTheSuite X.env n q1) (fun _ s7 => G s7) X.xe s6 := by
        intro σ6 H6 G S6 g
        obtain ⟨p1, p2, _⟩ := S6.pin (a, ob4) (List.mem_append_left _ List.mem_cons_self)
        exact gone_ok ((S6.unsuite ok).regain p1 z4 d4 unborn nL nP p2) nd ni nk g
      cases f with
      | next =>
        obtain ⟨σ6, H6, S6, r⟩ := sp6
        exact past S6 fun s7 J7 => ⟨_, _, J7, r⟩
      | brk =>
        obtain ⟨σ6, H6, S6, r⟩ := sp6
        exact past S6 fun s7 J7 => ⟨_, _, J7, r⟩
      | cont =>
        obtain ⟨σ6, H6, S6, r⟩ := sp6
        exact past S6 fun s7 J7 => ⟨_, _, J7, r⟩
      | ret u =>
        obtain ⟨v6, σ6, H6, S6, rr, r⟩ := sp6
        exact past S6 fun s7 J7 => ⟨_, _, _, J7, rr, r⟩
    | false =>
      change wpAny _ X.A (handleBy (.ref a) X.env []) _ _ _
      apply wpAny_handleBy_nil
      obtain ⟨_, _, _, ob, fs, T, oT, ts', at_e, z_e, d_e, f_e, r_e⟩ := id fl3
      unfold PySem.passOn
      refine wpAny_bind (wpAny_field at_e d_e f_e ?_)
      rw [if_neg (by simp)]
      have onward : wpAny (model X.prog X.w) X.A (setFlight (.ref a) X.env.frame) (fun _ s4 => wpAny (model X.prog X.w) X.A (throw (.ref a) : Sem Flow) (SP X pins D) X.xe s4) X.xe { s9 with heap := g3 } := by
        rw [e2]
        refine HandSPX.setFlight_upZ fl3 fun g4 hh4 up4 => wpAny_throw (tk _ _ ⟨a, B, sI, pins, σ1, H1, cls, d, rfl, J1, nb, (up.trans up3).trans up4, .inr (.inr ?_), na, os, ag, no rfl⟩)
        rw [e1]
        exact hh4
      first
        | exact wpAny_bind (wpAny_pure (wpAny_bind onward))
        | exact wpAny_bind onward
  refine wpAny_mono ((W1 (wKeep X.K c i ts Wout D) (X.pn ++ pins) _ (fun u s9 xx => caught _ u s9 xx) PassesOwn.looking).run [] s σ H D (I.toTry _) h) (fun f s9 sp => ?_) (fun e s9 he => he)
  cases f with
  | next =>
    obtain ⟨σ1, H1, J1, q⟩ := sp
    exact wpAny_execs_nil ⟨σ1, H1, J1.ofTry ok, q⟩
  | brk =>
    obtain ⟨σ1, H1, J1, q⟩ := sp
    exact ⟨σ1, H1, J1.ofTry ok, q⟩
  | cont =>
    obtain ⟨σ1, H1, J1, q⟩ := sp
    exact ⟨σ1, H1, J1.ofTry ok, q⟩
  | ret u =>
    obtain ⟨v, σ1, H1, J1, r, q⟩ := sp
    exact ⟨v, σ1, H1, J1.ofTry ok, r, q⟩

/-- err.f, err a kept error of the class at C -/
def tKf (C : Addr) (f : Str) (te : TE) : TE := fun σ H Q => te σ H fun v H1 => ∃ (a d : Addr) (fs : List (Str × V)) (y : V), v = .ref a ∧ H1 a = some (exk a (.ref C) (some d)) ∧ H1 d = some (.xd fs) ∧ fs.lookup f = some y ∧ Q y H1
theorem pe_kf {C : Addr} {e : Expr} {te : TE} {pos : Pos} {f : Str} (T : XfC X.K C) (no : PySem.W.findIn X.K (.ref C) f = some none) (he : PE X e te) (hb : attributeBase e f X.env (eval e X.env) = eval e X.env := by rfl) : PE X (.Attribute e f pos) (tKf C f te) := by
  constructor
  intro pins s σ H Q I h
  refine attr_of hb (thn (he.run pins s σ H _ I h) ?_)
  rintro u s1 ⟨v, H1, I1, rv, a, d, fs, y, rfl, ha, hd, l, q⟩
  obtain rfl : u = Value.ref a := rv
  obtain ⟨ob, vs, g1, z, g2⟩ := exk_at I1.hok ha
  have od1 : ObjOk X.prog X.w H1 s1.heap d (.xd fs) := I1.hok d _ hd
  obtain ⟨m, ns, rl⟩ := od1
  obtain ⟨od, o1, o2⟩ := lookIn_ns ns
  have rl' := rl f
  rw [l] at rl'
  obtain ⟨u, hu, ru⟩ := RelO.some_of (v := y) (o := m f) rl'
  have J : PySem.W.InstAt s1.heap a ob C (some od) := by
    refine ⟨g1, z.1, ?_, ?_⟩
    · unfold PySem.W.notCls
      rw [g2] <;> rfl
    · rw [z.2]
      exact o1
  refine HandSPX.exc_get I1.kIn J T.ga T.gg T.exC (PySem.W.findObj_own T.hdC no rfl ?_) (handed_of ru) ⟨y, H1, I1.tok _, ru, q⟩
  rw [o2, hu]

/-- isinstance(err, C), err of just that class -/
def rIsK (C : Addr) : List V → Hp → VK → Prop := fun xs H Q => ∃ (a : Addr) (d : Option Addr), xs = [.ref a, .ref C] ∧ H a = some (exk a (.ref C) d) ∧ Q (.bl true) H
theorem answers_self {a : Addr} {c : Value} : Answers (fun s => ∃ ob, s.heap.get? a = some ob ∧ ob.cls = c) (.ref a) c true := by
  intro dep tk prog w A R s hs
  obtain ⟨g, g2, d, tt, os⟩ := s
  obtain ⟨⟨ob, e, z⟩, q⟩ := hs
  have lt : PySem.W.Looks (model prog w) g (typeOf (.ref a)) c := by
    intro A Q E sx k q
    refine wpAny_typeOf_ref (k _ _ e) ?_
    rw [z]
    exact q
  (unfold Builtin.«isinstance.nested»)
  refine wpAny_bind (lt.at ?_)
  rw [if_pos (beq_self_eq_true c)]
  first
    | exact wpAny_bind (wpAny_rule (q tt))
    | exact wpAny_bind (wpAny_rule (wpAny_pure (q tt)))
    | exact wpAny_pure (q tt)
theorem call_isK {C : Addr} : CallR X (.builtin "isinstance") (rIsK C) := by
  rintro pins s σ H xs us Q I r ⟨a, d, rfl, e, q⟩
  obtain ⟨y1, y2, rfl, ry1, ry2⟩ := vals2 r
  obtain rfl : y1 = Value.ref a := ry1
  obtain rfl : y2 = Value.ref C := ry2
  obtain ⟨ob, vs, g1, z, g2⟩ := exk_at I.hok e
  exact call_isinstance (S := fun _ R s => (∃ ob, s.heap.get? a = some ob ∧ ob.cls = .ref C) ∧ ∀ tk, R (.ok (.ret (.bool true))) { s with toks := tk })
    (fun prog w A R s hs => isinstance_outer (answers_self 0 _ prog w A R s hs) (fun z => nomatch z)) ⟨⟨ob, g1, z.1⟩, fun tk => ⟨.bl true, H, I.tok tk, rfl, q⟩⟩
end
end L2

/-! own rules: defs that are called while nothing is being shown (no guard stands), so that repr of nested data is its text -/
namespace L2
open PySem PySem.Spec PyProof.Rows
/-- a def's promise, told where no guard stands -/
structure FnG (P : Program) (w : World) (K : PySem.W.Frag) (mg : Str → Option Value) (base : Heap) (k : Nat) (f : Addr) (fd : FuncData) (ps : List Str) (sp : Sp) : Prop where
  ar : ∀ vs H Q E, sp vs H Q E → vs.length = ps.length
  go : ∀ (A : Around) (outer : List Env) (s : Shared) (H : Hp) (args : Args) (us : List Value) (vs : List V) (Q : VK) (E : XK), Room k A → A.guards = some [] → Env0 P w K mg base A outer s H → BindsTo s fd args (ps.zip us) → Vals vs us → sp vs H Q E →
    codeAny (model P w) A (.call (.ref f) args) (CR CX0 outer P w H s Q E) s
section
variable {P : Program} {w : World} {K : PySem.W.Frag}
      {mg : Str → Option Value} {base : Heap}
theorem Fun.okG {x qual : Str} {st : Stmt} {f : Addr} {fd : FuncData} {N ps : List Str} {k : Nat} {sp : Sp} (F : Fun K x qual st f fd) (S : FnScope N ps (defScope st)) (ar : ∀ vs H Q E, sp vs H Q E → vs.length = ps.length)
    (body : ∀ (cdv : Value) (A : Around) (outer : List Env) (s : Shared) (H : Hp) (vs : List V) (Q : VK) (E : XK), Room k (A.deeper (envOfC qual (defScope st) s.heap.objs.size f cdv)) → (A.deeper (envOfC qual (defScope st) s.heap.objs.size f cdv)).guards = some [] → sp vs H Q E →
      ∃ t, PSs (cxOf CX0 P w K mg base N qual (defScope st) f cdv A outer s H E).nox (defBody st) t ∧ t { nx := fun _ H' => Q .non H', rt := Q } (start N vs) H) : FnG P w K mg base (k + 1) f fd ps sp := by
  obtain ⟨oc, od, kV, doc, pm, an, cdv, ct, osl, rfl, at_f, code⟩ := F.ex
  refine ⟨ar, fun A outer s H args us vs Q E room quiet e0 bind rel h => ?_⟩
  have inK : K.In s.heap := e0.mod.kin.keeps fun b o e => (e0.bs b o e).1
  have noLim : s.heap.NoLimit := e0.mod.nolimit.keeps fun b o e => (e0.bs b o e).1
  have arity := ar _ _ _ _ h
  have kinds : ∀ y ∈ ps.zip us, (defScope st).names.lookup y.1 = some .local ∨ ((defScope st).names.lookup y.1 = some .cell ∧ ((cellsFrom (s.heap.objs.size + 1) (defScope st).names []).lookup y.1).isSome = true) := by
    rintro ⟨n, v⟩ hy
    rcases S.par n (List.of_mem_zip
          hy).1 with q | q
    · exact .inl q
    · exact .inr ⟨q, PySem.W.cellsFrom_some
          _ _ _ (.inl q)⟩
  refine codeAny_call_function room.depth (inK _ _ at_f) rfl S.co S.gen rfl (PySem.W.codeRec_of inK code) (bind _ _ _ _ ?_)
  refine wpAny_newFunctionEnv_cells S.kind kinds fun env same s1 made => ?_
  subst same
  refine ⟨noLim.keeps made.toInCall.keep, codeAny_func ?_⟩
  obtain ⟨t, der, rd⟩ := body cdv A outer s H vs Q E (room.deeper _) quiet h
  have I : Inv (cxOf CX0 P w K mg base N qual (defScope st) f cdv A outer s H E) [] (start N vs) H s1 := inv_start S room.hd e0 arity rel made
  refine wpAny_mono (der.nox.run [] s1 (start N vs) H _ I rd) (fun fl s2 z => ?_) fun _ _ z => z
  cases fl with
  | ret u =>
    obtain ⟨v, σ2, H2, J, rv, q⟩ := z
    exact ⟨v, H2, J.os, J.bare, J.base, J.hok, rv, q⟩
  | next =>
    obtain ⟨σ2, H2, J, q⟩ := z
    exact ⟨.non, H2, J.os, J.bare, J.base, J.hok, rfl, q⟩
  | brk =>
    obtain ⟨_, _, _, q⟩ := z
    exact q.elim
  | cont =>
    obtain ⟨_, _, _, q⟩ := z
    exact q.elim
/-- a call of such a def -/
theorem pe_callG {X : Cx} {k : Nat} {f : Addr} {fd : FuncData} {ps : List Str} {sp : Sp} {x : Str} {p pos : Pos} {e : Expr} {es : List Expr} {t : TA} (F : FnG X.prog X.w X.K X.mg X.base k f fd ps sp) (hr : Room k X.A) (hq : X.A.guards = some []) (hg : Gl X x) (hm : X.mg x = some (.ref f)) (hk : PySem.W.keepIn X.K (.ref f) = true)
    (hb : Binds X.K fd ps []) (ha : PA X (e :: es) t) (hdb : (x == ("__debug__" : Str)) = false := by decide) (he : starEach (e :: es) X.env = (false, eval e X.env) :: starEach es X.env := by rfl) (hpl : (backTo pos (starEach es X.env)).any (·.1) = false := by rfl) :
    PE X (.Call (.Name x p) (e :: es) [] pos) (tCall sp [] E0 t) := by
  constructor
  intro pins s σ H Q I h
  refine wpAny_Call_Name_kw
        (ld_glob I hg hm ?_ hdb)
  refine PySem.W.callWith_K (h₀ := X.base) I.ok.mod.kin hk (thn (ha.run pos pins s σ H _ I h) ?_) he hpl
  rintro us s1 ⟨vs, H1, I1, r, q⟩
  refine ⟨I1.kIn, ?_⟩
  have q' : sp vs H1 Q E0 := by
    have z : sp (vs ++ []) H1 Q E0 := q
    rwa [List.append_nil] at z
  have n : us.length = ps.length := by rw [← r.length]; exact F.ar _ _ _ _ q'
  have b := hb s1 us I1.kIn (by rw [List.append_nil]; exact n)
  rw [List.append_nil] at b
  refine wpAny_call (codeAny_mono (F.go X.A X.stack s1 H1 ⟨us, []⟩ us vs Q E0 hr hq I1.env0 b r q') fun res s2 z => ?_)
  cases res with
  | error er => exact (show False from z).elim
  | ok fl =>
    cases fl with
    | ret u => exact I1.after z
    | next => exact (show False from z).elim
    | brk => exact (show False from z).elim
    | cont => exact (show False from z).elim
/-- repr of nested data -/
def rRepD (K : PySem.W.Frag) : List V → Hp → VK → Prop := fun xs H Q => ∃ (a : Addr) (d : PyData), xs = [.ref a] ∧ Dp K H (.ref a) d ∧ d.showable = true ∧ d.hasDict = false ∧ d.depth ≤ 20 ∧ d.shown.length ≤ sizeLine ∧ Q (.str d.shown) H
theorem call_reprD {X : Cx} (hq : X.A.guards = some []) (hu : X.A.units + 64 < cLine) : CallR X (.builtin "repr") (rRepD X.K) := by
  rintro pins s σ H xs us Q I r ⟨a, d, rfl, dp, sh, nd, dep, sz, q⟩
  obtain ⟨u, rfl, (ru : u = .ref a)⟩ := vals1 r
  subst ru
  obtain ⟨as, rd⟩ := Dp.reads I d _ _ dp rfl
  refine repr_of_reads' rd sh (fun z => by rw [nd] at z; cases z) hq (by omega) (fun _ _ e => e) (fun h' u tk k => ?_) sz
  exact ⟨.str d.shown, H, I.kept k, ⟨u, rfl⟩, q⟩
/-- the law's own call -/
theorem law_callG {mb : Str → Option Value} {k : Nat} {fa a : Addr} {fd : FuncData} {x : Str} {sp : Sp} {s₁ : Shared} {vs : List Value} {ns : List Int} (inK : K.In s₁.heap) (glob : s₁.heap.Ns mainGlobals mg) (bi : s₁.heap.Ns builtinsNs mb) (bb : ∀ y : Str, y ≠ "__name__" → mb y = bootBuiltins y)
    (noLim : s₁.heap.NoLimit) (noGen : s₁.gens = #[]) (list : s₁.heap.get? a = some { cls := .type "list", data := .seq vs.toArray }) (wholes : IntsAre vs ns) (size : ns.length ≤ sizeLine) (room : Room k callerA)
    (F : ∀ base : Heap, K.In base → base.Ns mainGlobals mg → FnG P w K mg base k fa fd [x] sp) (bind : ∀ (s : Shared) (u : Value), BindsTo s fd ⟨[u], []⟩ [(x, u)]) (h : ∀ H : Hp, Only H → SqL K H a (ns.map V.int) → sp [.ref a] H (fun v _ => v = .bl true) fun _ _ _ => False) :
    codeAny (model P w) callerA (.call (.ref fa) ⟨[.ref a], []⟩) (fun r s' => r = .ok (.ret
          (.bool true)) ∧ OldK s₁.heap s'.heap ∧ s'.os = s₁.os ∧ AllBare s'.gens) s₁ := by
  have items := vals_ints wholes
  have few := wholes.length
  have main : ∀ H : Hp, Only H → SqL K H a (ns.map V.int) → HOk P w H s₁.heap → (∀ b u, H b = some u → b = a ∧ K.lookup a = none) →
      codeAny (model P w) callerA (.call (.ref fa) ⟨[.ref a], []⟩) (fun r s' => r = .ok (.ret
            (.bool true)) ∧ OldK s₁.heap s'.heap ∧ s'.os = s₁.os ∧ AllBare s'.gens) s₁ := by
    intro H only seq ok just
    have under : ∀ {b : Addr} {o : Obj}, s₁.heap.get? b = some o → H b = none → (hidT s₁.heap H).get? b = some o := fun e n => hidT_get e n
    have nsp : ∀ {b : Addr} {m : Str → Option Value}, s₁.heap.Ns b m → (hidT s₁.heap H).Ns b m := by
      rintro b m ⟨o, es, ep, e, d, r⟩
      refine ⟨o, es, ep, under e ?_, d, r⟩
      cases q : H b with
      | none => rfl
      | some u =>
        obtain ⟨rfl, _⟩ := just b u q
        rw [list] at e
        cases e
        exact nomatch (show Data.seq vs.toArray _ = Data.dict es ep from d)
    have inB : K.In (hidT s₁.heap H) := by
      intro b o e
      refine under (inK b o e) ?_
      cases q : H b with
      | none => rfl
      | some u =>
        obtain ⟨rfl, z⟩ := just b u q
        rw [z] at e
        cases e
    have modu : Mod K mg (hidT s₁.heap H) := by
      obtain ⟨mc, l1, l2⟩ := noLim
      exact ⟨inB, nsp glob, ⟨mb, nsp bi, bb⟩, ⟨mc, nsp l1, l2⟩⟩
    have e0 : Env0 P w K mg (hidT s₁.heap H) callerA [] s₁ H := ⟨rfl, modu, fun b o e => of_hidT e, Nat.le_of_eq (hidT_size _ _), trivial, fun b hb => absurd (show b ∈ ([] : List Addr) from hb) List.not_mem_nil, ok, .of_eq noGen⟩
    refine codeAny_mono ((F _ inB (nsp glob)).go callerA [] s₁ H ⟨[.ref a], []⟩ [.ref a] [.ref a] _ _ room rfl e0 (bind s₁ (.ref a)) (.cons rfl .nil) (h H only seq)) fun r s2 z => ?_
    cases r with
    | error e => exact (show False from z).elim
    | ok fl =>
      cases fl with
      | next => exact (show False from z).elim
      | brk => exact (show False from z).elim
      | cont => exact (show False from z).elim
      | ret u =>
        obtain ⟨v, H2, os, bare, un, ok2, rv, (q : v = .bl true)⟩ := z
        subst q
        obtain rfl : u = Value.bool true := rv
        refine ⟨rfl, OldK.of_keep fun
              b o e => ?_, os, bare⟩
        cases q : H b with
        | none => exact un.keep b o e q (by simp [frs]) (by simp)
        | some u =>
          rcases only b with y | ⟨ob, xs, y⟩
          · rw [q] at y
            cases y
          · have y2 := un.frzs b ob _ y
            obtain ⟨e1, _⟩ := ok b _ y
            obtain ⟨e2, _⟩ := ok2 b _ y2
            rw [e] at e1
            cases e1
            exact e2
  cases hk : K.lookup a with
  | some o =>
    have e := inK a o hk
    rw [list] at e
    cases e
    refine main (fun _ => none) (fun _ => .inl rfl) (.inr ⟨_, vs.toArray, _, hk, rfl, rfl, rfl, ?_, by simpa using items⟩) (fun b u z => nomatch (show (none : Option HO) = some u from z)) (fun b u z => nomatch (show (none : Option HO) = some u from z))
    rw [List.size_toArray, few]
    exact size
  | none =>
    have one : ∀ b u, (if b = a then some (HO.frz { cls := .type "list", data := .seq vs.toArray } (.lst (ns.map V.int))) else none) = some u → b = a ∧ u = HO.frz { cls := .type "list", data := .seq vs.toArray } (.lst (ns.map V.int)) := by
      intro b u z
      by_cases y : b = a
      · rw [if_pos y] at z
        exact ⟨y, (Option.some.inj z).symm⟩
      · rw [if_neg y] at z
        cases z
    refine main (fun b => if b = a then some (.frz { cls := .type "list", data := .seq vs.toArray } (.lst (ns.map V.int))) else none) (fun b => ?_) (.inl (.inr ⟨_, if_pos rfl⟩)) (fun b u z => ?_) (fun b u z => ⟨(one b u z).1, hk⟩)
    · by_cases y : b = a
      · exact .inr ⟨_, _, if_pos y⟩
      · exact .inl (if_neg y)
    · obtain ⟨rfl, rfl⟩ := one b u z
      exact ⟨list, by rw [List.length_map]; exact size, vs, _, items, list⟩
end
/-- the head's goal from such a promise -/
theorem walk_ofG {l : PySem.W.OpenLaw} {n k : Nat} {q : Program} {loose : List Str} {XP : (Str → Option Value) → Heap → Prop} {YP : World → Heap → Prop} {d : DefRec} {K : Params → PySem.W.Frag} {sp : World → Sp} {x : Str} (most : l.most = some n) (fits : n ≤ sizeLine) (noDef : d.params.defaults = []) (room : Room k callerA)
    (inK : ∀ (w : World) (h : Heap), YP w h → (K w.params).In h)
    (F : ∀ (w : World) (mg : Str → Option Value) (fa : Addr) (h : Heap), (K
          w.params).In h → h.Ns mainGlobals mg → mg d.name = some (.ref fa) →
      ∃ fd : FuncData, (∀ (s : Shared) (u : Value), BindsTo s fd ⟨[u], []⟩ [(x, u)]) ∧ ∀ base : Heap, (K w.params).In base → base.Ns mainGlobals mg → FnG l.prog w (K w.params) mg base k fa fd [x] (sp w))
    (h : ∀ (w : World) (H : Hp) (a : Addr) (ns : List Int), ns.length ≤ n → Only H → SqL (K w.params) H a (ns.map V.int) → sp w [.ref a] H (fun v _ => v = .bl true) fun _ _ _ => False) :
    PySem.W.WalkO q loose XP YP l.row.toRowW
          d [] (fun f vs => PySem.call f vs) := by
  refine Att.attach_call most noDef fun w s₀ s₁ mg mb fa o pm cd doc a vs ns G Y _ _ _ name list wholes len gens => ?_
  have KX := inK w _ Y
  obtain ⟨fd, bind, made⟩ := F w mg fa _ KX G.T.g name
  exact law_callG KX G.T.g G.T.b G.T.builtins G.T.nolimit gens list wholes (Nat.le_trans len fits) room made bind fun H only seq => h w H a ns len only seq
end L2

/-! trees: the mathematics -/
namespace K5
/-- doors es, each (parent, child), children all different; a bridge each; all connected -/
structure Tr0 (n : Nat) (es : List (Nat × Nat)) : Prop where
  len : es.length + 1 = n
  lt : ∀ e ∈ es, e.1 < n ∧ e.2 < n
  nd : (es.map Prod.snd).Nodup
  side : ∃ side : Nat → Nat → Bool, (∀ e ∈ es, side e.2 e.1 ≠ side e.2 e.2) ∧ ∀ e ∈ es, ∀ f ∈ es, e.2 ≠ f.2 → side e.2 f.1 = side e.2 f.2
  conn : ∀ S : Nat → Prop, (∀ e ∈ es, S e.1 ↔ S e.2) → ∀ x y, x < n → y < n → S x → S y
theorem Tr0.one : Tr0 1 [] where
  len := rfl
  lt := fun _ h => nomatch h
  nd := List.nodup_nil
  side := ⟨fun _ _ => true, fun _ h => (nomatch h), fun _ h => (nomatch h)⟩
  conn := fun S _ x y hx hy h => (show x = y by omega) ▸ h
theorem Tr0.grow {n : Nat} {es : List (Nat × Nat)} (T : Tr0 n es) (o : Nat) (ho : o < n) : Tr0 (n + 1) (es ++ [(o, n)]) := by
  obtain ⟨len, lt, nd, ⟨side, s1, s2⟩, conn⟩ := T
  have hn : ∀ e ∈ es, e.2 ≠ n := fun e h => by have := (lt e h).2; omega
  have hn1 : ∀ e ∈ es, e.1 ≠ n := fun e h => by have := (lt e h).1; omega
  refine ⟨by simp; omega, fun e h => ?_, ?_, ⟨fun c x => if c = n then decide (x = n) else if x = n then side c o else side c x, fun e h => ?_, fun e h f hf hne => ?_⟩, fun S hS x y hx hy h => ?_⟩
  · rcases List.mem_append.mp h with h | h
    · have := lt e h; omega
    · rw [List.mem_singleton.mp h]; exact ⟨Nat.lt_succ_of_lt ho, Nat.lt_succ_self _⟩
  · rw [List.map_append]
    refine List.nodup_append.mpr ⟨nd, by simp, fun a ha b hb => ?_⟩
    obtain ⟨e, he, rfl⟩ := List.mem_map.mp ha
    simp at hb
    rw [hb]
    exact hn e he
  · rcases List.mem_append.mp h with h | h
    · simp only [if_neg (hn e h), if_neg (hn1 e h)]
      exact s1 e h
    · rw [List.mem_singleton.mp h]
      simp only [if_pos rfl]
      rw [decide_eq_false (show ¬ o = n by omega)]
      simp
  · rcases List.mem_append.mp h with h | h
    · simp only [if_neg (hn e h)]
      rcases List.mem_append.mp hf with hf | hf
      · simp only [if_neg (hn f hf), if_neg (hn1 f hf)]
        exact s2 e h f hf hne
      · rw [List.mem_singleton.mp hf]
        simp only [if_neg (show ¬ o = n by omega), if_true]
    · rcases List.mem_append.mp hf with hf | hf
      · rw [List.mem_singleton.mp h]
        simp only [if_true]
        rw [decide_eq_false (hn f hf), decide_eq_false (hn1 f hf)]
      · rw [List.mem_singleton.mp h, List.mem_singleton.mp hf] at hne
        exact absurd rfl hne
  · have h0 : ∀ e ∈ es, S e.1 ↔ S e.2 := fun e he => hS e (List.mem_append.mpr (.inl he))
    have h1 : S o ↔ S n := hS (o, n) (List.mem_append.mpr (.inr (List.mem_singleton.mpr rfl)))
    by_cases ex : x = n
    · subst ex
      have so : S o := h1.mpr h
      by_cases ey : y = x
      · exact ey ▸ h
      · exact conn S h0 o y ho (by omega) so
    · have sx : S o := conn S h0 x o (by omega) ho h
      by_cases ey : y = n
      · exact ey ▸ h1.mp sx
      · exact conn S h0 x y (by omega) (by omega) h
theorem Tr0.perm {n : Nat} {es fs : List (Nat × Nat)} (T : Tr0 n es) (p : fs.Perm es) : Tr0 n fs := by
  obtain ⟨len, lt, nd, ⟨side, s1, s2⟩, conn⟩ := T
  exact ⟨by rw [p.length_eq]; exact len, fun e h => lt e (p.mem_iff.mp h), (p.map Prod.snd).nodup_iff.mpr nd,
    ⟨side, fun e h => s1 e (p.mem_iff.mp h), fun e h f hf => s2 e (p.mem_iff.mp h) f (p.mem_iff.mp hf)⟩,
    fun S hS => conn S fun e h => hS e (p.mem_iff.mpr h)⟩
/-- renamed by a list of names that is a rearrangement of 0 .. n - 1 -/
theorem Tr0.names {n : Nat} {es : List (Nat × Nat)} (T : Tr0 n es) (f g : Nat → Nat) (h1 : ∀ x, x < n → f x < n) (h2 : ∀ x, x < n → g (f x) = x) (h3 : ∀ y, y < n → g y < n ∧ f (g y) = y) :
    Tr0 n (es.map fun e => (f e.1, f e.2)) := by
  obtain ⟨len, lt, nd, ⟨side, s1, s2⟩, conn⟩ := T
  refine ⟨by rw [List.length_map]; exact len, fun e h => ?_, ?_, ⟨fun c x => side (g c) (g x), fun e h => ?_, fun e h e' h' hne => ?_⟩, fun S hS x y hx hy h => ?_⟩
  · obtain ⟨a, ha, rfl⟩ := List.mem_map.mp h
    exact ⟨h1 _ (lt a ha).1, h1 _ (lt a ha).2⟩
  · rw [List.map_map]
    have q : ∀ l : List (Nat × Nat), (∀ e ∈ l, e.2 < n) → (l.map Prod.snd).Nodup → (l.map (Prod.snd ∘ fun e => (f e.1, f e.2))).Nodup := by
      intro l
      induction l with
      | nil => intro _ _; exact List.nodup_nil
      | cons a r ih =>
        intro hl hd
        rw [List.map_cons] at hd ⊢
        obtain ⟨d1, d2⟩ := List.nodup_cons.mp hd
        refine List.nodup_cons.mpr ⟨fun m => d1 ?_, ih (fun e he => hl e (List.mem_cons_of_mem _ he)) d2⟩
        obtain ⟨b, hb, e⟩ := List.mem_map.mp m
        have e' : f b.2 = f a.2 := e
        have : b.2 = a.2 := by rw [← h2 b.2 (hl b (List.mem_cons_of_mem _ hb)), e', h2 a.2 (hl a List.mem_cons_self)]
        exact List.mem_map.mpr ⟨b, hb, this⟩
    exact q es (fun e he => (lt e he).2) nd
  · obtain ⟨a, ha, rfl⟩ := List.mem_map.mp h
    show side (g (f a.2)) (g (f a.1)) ≠ side (g (f a.2)) (g (f a.2))
    rw [h2 _ (lt a ha).1, h2 _ (lt a ha).2]
    exact s1 a ha
  · obtain ⟨a, ha, rfl⟩ := List.mem_map.mp h
    obtain ⟨b, hb, rfl⟩ := List.mem_map.mp h'
    show side (g (f a.2)) (g (f b.1)) = side (g (f a.2)) (g (f b.2))
    rw [h2 _ (lt a ha).2, h2 _ (lt b hb).1, h2 _ (lt b hb).2]
    exact s2 a ha b hb fun e => hne (by show f a.2 = f b.2; rw [e])
  · have q := conn (fun z => S (f z)) (fun e he => hS _ (List.mem_map.mpr ⟨e, he, rfl⟩)) (g x) (g y) (h3 x hx).1 (h3 y hy).1 (by show S (f (g x)); rw [(h3 x hx).2]; exact h)
    have q' : S (f (g y)) := q
    rw [(h3 y hy).2] at q'
    exact q'

/-- a house of n rooms that is a tree, its doors by their numbers, the ends in either order -/
structure Tree (n : Nat) (ds : List (Nat × Nat)) : Prop where
  len : ds.length + 1 = n
  lt : ∀ e ∈ ds, e.1 < n ∧ e.2 < n
  side : ∃ side : Nat → Nat → Bool, (∀ d e, ds[d]? = some e → side d e.1 ≠ side d e.2) ∧ ∀ c d e, ds[d]? = some e → c ≠ d → side c e.1 = side c e.2
  conn : ∀ S : Nat → Prop, (∀ e ∈ ds, S e.1 ↔ S e.2) → ∀ x y, x < n → y < n → S x → S y
/-- pointwise the same up to the order of the ends -/
inductive Flip : List (Nat × Nat) → List (Nat × Nat) → Prop
  | nil : Flip [] []
  | same {e es fs} (h : Flip es fs) : Flip (e :: es) (e :: fs)
  | turn {a b es fs} (h : Flip es fs) : Flip ((a, b) :: es) ((b, a) :: fs)
theorem Flip.len : ∀ {es fs}, Flip es fs → es.length = fs.length
  | _, _, .nil => rfl
  | _, _, .same h => by rw [List.length_cons, List.length_cons, h.len]
  | _, _, .turn h => by rw [List.length_cons, List.length_cons, h.len]
theorem Flip.get : ∀ {es fs}, Flip es fs → ∀ {d : Nat} {f : Nat × Nat}, fs[d]? = some f → ∃ e, es[d]? = some e ∧ (f = e ∨ f = (e.2, e.1))
  | _, _, .nil, d, f, h => by simp at h
  | _, _, .same h, 0, f, e => ⟨_, rfl, .inl (Option.some.inj e).symm⟩
  | _, _, .turn h, 0, f, e => ⟨_, rfl, .inr (Option.some.inj e).symm⟩
  | _, _, .same h, d + 1, f, e => h.get (d := d) e
  | _, _, .turn h, d + 1, f, e => h.get (d := d) e
theorem Flip.get' : ∀ {es fs}, Flip es fs → ∀ {d : Nat} {e : Nat × Nat}, es[d]? = some e → ∃ f, fs[d]? = some f ∧ (f = e ∨ f = (e.2, e.1))
  | _, _, .nil, d, f, h => by simp at h
  | _, _, .same h, 0, f, e => ⟨_, rfl, .inl (Option.some.inj e)⟩
  | _, _, .turn h, 0, f, e => ⟨_, rfl, .inr (by rw [← Option.some.inj e])⟩
  | _, _, .same h, d + 1, f, e => h.get' (d := d) e
  | _, _, .turn h, d + 1, f, e => h.get' (d := d) e
theorem Flip.snoc : ∀ {es fs} (e : Nat × Nat), Flip es fs → Flip (es ++ [e]) (fs ++ [e])
  | _, _, _, .nil => .same .nil
  | _, _, e, .same h => .same (h.snoc e)
  | _, _, e, .turn h => .turn (h.snoc e)
theorem Flip.snocT : ∀ {es fs} (a b : Nat), Flip es fs → Flip (es ++ [(a, b)]) (fs ++ [(b, a)])
  | _, _, _, _, .nil => .turn .nil
  | _, _, a, b, .same h => .same (h.snocT a b)
  | _, _, a, b, .turn h => .turn (h.snocT a b)
theorem Flip.refl : ∀ es, Flip es es
  | [] => .nil
  | _ :: r => .same (Flip.refl r)
theorem Tr0.tree {n : Nat} {es ds : List (Nat × Nat)} (T : Tr0 n es) (F : Flip es ds) : Tree n ds := by
  obtain ⟨len, lt, nd, ⟨side, s1, s2⟩, conn⟩ := T
  refine ⟨by rw [← F.len]; exact len, fun f h => ?_, ⟨fun d x => match es[d]? with | some e => side e.2 x | none => true, fun d f h => ?_, fun c d f h hne => ?_⟩, fun S hS => conn S fun e he => ?_⟩
  · obtain ⟨d, hd⟩ := List.mem_iff_getElem?.mp h
    obtain ⟨e, he, q⟩ := F.get hd
    have := lt e (List.mem_of_getElem? he)
    rcases q with q | q <;> subst q
    · exact this
    · exact ⟨this.2, this.1⟩
  · obtain ⟨e, he, q⟩ := F.get h
    have := s1 e (List.mem_of_getElem? he)
    simp only [he]
    rcases q with q | q <;> subst q
    · exact this
    · exact this.symm
  · obtain ⟨e, he, q⟩ := F.get h
    cases hc : es[c]? with
    | none => simp only [hc]
    | some e' =>
      simp only [hc]
      have hne2 : e'.2 ≠ e.2 := fun z => by
        apply hne
        obtain ⟨hd, hed⟩ := List.getElem?_eq_some_iff.mp he
        obtain ⟨hc', hec⟩ := List.getElem?_eq_some_iff.mp hc
        exact (List.getElem_inj (xs := es.map Prod.snd) (h₀ := by simpa using hc') (h₁ := by simpa using hd) nd).mp (by simp [hed, hec, z])
      have := s2 e' (List.mem_of_getElem? hc) e (List.mem_of_getElem? he) hne2
      rcases q with q | q <;> subst q
      · exact this
      · exact this.symm
  · obtain ⟨d, hd⟩ := List.mem_iff_getElem?.mp he
    obtain ⟨f, hf, q⟩ := F.get' hd
    have := hS f (List.mem_of_getElem? hf)
    rcases q with q | q <;> subst q
    · exact this
    · exact this.symm

/-- door d joins x and y -/
def Joins (ds : List (Nat × Nat)) (d x y : Nat) : Prop := ds[d]? = some (x, y) ∨ ds[d]? = some (y, x)
theorem Joins.symm {ds d x y} (j : Joins ds d x y) : Joins ds d y x := Or.symm j
theorem Joins.other {ds d x y z} (j : Joins ds d x y) (k : Joins ds d x z) (hxy : x ≠ y) : y = z := by
  rcases j with j | j <;> rcases k with k | k <;> rw [j] at k <;> cases k
  · rfl
  · exact absurd rfl hxy
  · exact absurd rfl hxy
  · rfl
/-- a way by the doors of the list -/
inductive Walk (ds : List (Nat × Nat)) : Nat → List Nat → Nat → Prop
  | nil (a) : Walk ds a [] a
  | cons {a c b d p} (j : Joins ds d a c) (w : Walk ds c p b) : Walk ds a (d :: p) b
theorem Walk.snoc {ds a p b d c} (w : Walk ds a p b) (j : Joins ds d b c) : Walk ds a (p ++ [d]) c := by
  induction w with
  | nil a => exact .cons j (.nil _)
  | cons j' w ih => exact .cons j' (ih j)
theorem Walk.app {ds a p b q c} (w : Walk ds a p b) (v : Walk ds b q c) : Walk ds a (p ++ q) c := by
  induction w with
  | nil a => exact v
  | cons j' w ih => exact .cons j' (ih v)
theorem Walk.rev {ds a p b} (w : Walk ds a p b) : Walk ds b p.reverse a := by
  induction w with
  | nil a => exact .nil _
  | cons j w ih =>
    rw [List.reverse_cons]
    exact ih.snoc j.symm
theorem Walk.split {ds} {e : Nat} : ∀ {a p b}, Walk ds a p b → e ∈ p → ∃ p1 p2 x y, p = p1 ++ e :: p2 ∧ Walk ds a p1 x ∧ Joins ds e x y ∧ Walk ds y p2 b
  | _, _, _, .nil a, h => by cases h
  | a, d :: p, b, .cons j w, h => by
    by_cases q : e = d
    · subst q
      exact ⟨[], p, a, _, rfl, .nil _, j, w⟩
    · have h' : e ∈ p := (List.mem_cons.mp h).resolve_left q
      obtain ⟨p1, p2, x, y, e1, w1, j1, w2⟩ := Walk.split w h'
      exact ⟨d :: p1, p2, x, y, by rw [e1]; rfl, .cons j w1, j1, w2⟩
section
variable {n : Nat} {ds : List (Nat × Nat)}
theorem side_join {side : Nat → Nat → Bool} (s1 : ∀ d e, ds[d]? = some e → side d e.1 ≠ side d e.2) {d x y : Nat} (j : Joins ds d x y) : side d x ≠ side d y := by
  rcases j with j | j
  · exact s1 _ _ j
  · exact (s1 _ _ j).symm
theorem side_other {side : Nat → Nat → Bool} (s2 : ∀ c d e, ds[d]? = some e → c ≠ d → side c e.1 = side c e.2) {c d x y : Nat} (j : Joins ds d x y) (h : c ≠ d) : side c x = side c y := by
  rcases j with j | j
  · exact s2 _ _ _ j h
  · exact (s2 _ _ _ j h).symm
theorem side_walk {side : Nat → Nat → Bool} (s2 : ∀ c d e, ds[d]? = some e → c ≠ d → side c e.1 = side c e.2) {c : Nat} : ∀ {a p b}, Walk ds a p b → c ∉ p → side c a = side c b
  | _, _, _, .nil a, _ => rfl
  | _, _, _, .cons j w, h => by
    rw [side_other s2 j fun e => h (by rw [e]; exact List.mem_cons_self)]
    exact side_walk s2 w fun m => h (List.mem_cons_of_mem _ m)
theorem side_use {side : Nat → Nat → Bool} (s1 : ∀ d e, ds[d]? = some e → side d e.1 ≠ side d e.2) (s2 : ∀ c d e, ds[d]? = some e → c ≠ d → side c e.1 = side c e.2) {c : Nat} {a p b} (w : Walk ds a p b) (nd : p.Nodup) (h : c ∈ p) : side c a ≠ side c b := by
  obtain ⟨p1, p2, x, y, rfl, w1, j, w2⟩ := w.split h
  obtain ⟨n1, n2, n3⟩ := List.nodup_append.mp nd
  have c1 : c ∉ p1 := fun m => n3 c m c List.mem_cons_self rfl
  have c2 : c ∉ p2 := (List.nodup_cons.mp n2).1
  rw [side_walk s2 w1 c1, ← side_walk s2 w2 c2]
  exact side_join s1 j
theorem way_unique (T : Tree n ds) : ∀ {p q a b}, Walk ds a p b → Walk ds a q b → p.Nodup → q.Nodup → p = q := by
  obtain ⟨side, s1, s2⟩ := T.side
  intro p
  induction p with
  | nil =>
    intro q a b w v np nq
    cases w
    cases v with
    | nil => rfl
    | cons j v => exact absurd rfl (side_use s1 s2 (.cons j v) nq List.mem_cons_self)
  | cons d p ih =>
    intro q a b w v np nq
    have hd := side_use s1 s2 w np List.mem_cons_self
    cases w with
    | @cons _ c _ _ _ j w =>
    cases v with
    | nil => exact absurd rfl hd
    | @cons _ c' _ e q j' v =>
      by_cases hde : d = e
      · subst hde
        have hac : a ≠ c := fun z => side_join s1 j (by rw [z])
        have := j.other j' hac
        subst this
        rw [ih w v (List.nodup_cons.mp np).2 (List.nodup_cons.mp nq).2]
      · exfalso
        have he := side_use s1 s2 (.cons j' v) nq List.mem_cons_self
        have hep : e ∈ p := by
          refine Classical.byContradiction fun hn => he ?_
          rw [side_other s2 j (Ne.symm hde)]
          exact side_walk s2 w hn
        obtain ⟨p1, p2, x, y, rfl, w1, j1, w2⟩ := w.split hep
        have n0 := List.nodup_cons.mp np
        obtain ⟨n1, n2, n3⟩ := List.nodup_append.mp n0.2
        have c1 : e ∉ p1 := fun m => n3 e m e List.mem_cons_self rfl
        have hx : side e x = side e a := by
          rw [← side_walk s2 w1 c1, ← side_other s2 j (Ne.symm hde)]
        have hxa : x = a := by
          rcases j1 with k | k <;> rcases j' with k' | k' <;> rw [k] at k' <;> cases k'
          · rfl
          · exact absurd hx.symm (s1 _ _ k).symm
          · exact absurd hx.symm (s1 _ _ k)
          · rfl
        subst hxa
        have c2 : d ∉ p1 := fun m => n0.1 (List.mem_append.mpr (.inl m))
        exact side_join s1 j (side_walk s2 w1 c2).symm
theorem way_uses (T : Tree n ds) {side : Nat → Nat → Bool} (s1 : ∀ d e, ds[d]? = some e → side d e.1 ≠ side d e.2) (s2 : ∀ c d e, ds[d]? = some e → c ≠ d → side c e.1 = side c e.2) {a p b d} (w : Walk ds a p b) (np : p.Nodup) : d ∈ p ↔ side d a ≠ side d b :=
  ⟨side_use s1 s2 w np, fun h => Classical.byContradiction fun hn => h (side_walk s2 w hn)⟩
theorem Joins.lt (T : Tree n ds) {d x y} (j : Joins ds d x y) : x < n ∧ y < n ∧ d + 1 < n ∧ x ≠ y := by
  obtain ⟨side, s1, s2⟩ := T.side
  have ne : x ≠ y := fun z => side_join s1 j (by rw [z])
  have hl := T.len
  rcases j with j | j
  · have := T.lt _ (List.mem_of_getElem? j)
    have h := (List.getElem?_eq_some_iff.mp j).1
    exact ⟨this.1, this.2, by omega, ne⟩
  · have := T.lt _ (List.mem_of_getElem? j)
    have h := (List.getElem?_eq_some_iff.mp j).1
    exact ⟨this.2, this.1, by omega, ne⟩
end
end K5

namespace K5
structure Uf (n : Nat) (L : List Nat) (rank : Nat → Nat) (R : Nat → Nat → Prop) : Prop where
  len : L.length = n
  at_ : ∀ x y, L[x]? = some y → y < n ∧ R x y ∧ (y ≠ x → rank y < rank x)
theorem get_lt {α : Type} {L : List α} {x : Nat} {y : α} (h : L[x]? = some y) : x < L.length := (List.getElem?_eq_some_iff.mp h).1
theorem get_set {α : Type} {L : List α} {x w : Nat} {z v : α} (h : (L.set x z)[w]? = some v) : (w = x ∧ v = z) ∨ (w ≠ x ∧ L[w]? = some v) := by
  rw [List.getElem?_set] at h
  by_cases e : x = w
  · rw [if_pos e] at h
    split at h
    · exact .inl ⟨e.symm, (Option.some.inj h).symm⟩
    · cases h
  · rw [if_neg e] at h
    exact .inr ⟨fun q => e q.symm, h⟩
theorem Uf.half {n L rank R} (u : Uf n L rank R) (tr : ∀ a b c, R a b → R b c → R a c) {x y z : Nat} (hx : L[x]? = some y) (hy : L[y]? = some z) : Uf n (L.set x z) rank R := by
  refine ⟨by rw [List.length_set]; exact u.len, fun w v h => ?_⟩
  rcases get_set h with ⟨rfl, rfl⟩ | ⟨_, h⟩
  · obtain ⟨a1, a2, a3⟩ := u.at_ _ _ hx
    obtain ⟨b1, b2, b3⟩ := u.at_ _ _ hy
    refine ⟨b1, tr _ _ _ a2 b2, fun ne => ?_⟩
    by_cases e : y = w
    · subst e
      rw [hx] at hy
      exact absurd (Option.some.inj hy).symm ne
    · have := a3 e
      by_cases e2 : v = y
      · subst e2; exact this
      · exact Nat.lt_trans (b3 e2) this
  · exact u.at_ _ _ h
theorem Uf.less {n L rank R} (u : Uf n L rank R) {x y z : Nat} (hx : L[x]? = some y) (hy : L[y]? = some z) (ne : y ≠ x) : rank z < rank x := by
  have h1 := (u.at_ _ _ hx).2.2 ne
  by_cases e : z = y
  · subst e; exact h1
  · exact Nat.lt_trans ((u.at_ _ _ hy).2.2 e) h1
theorem Uf.range (n : Nat) (R : Nat → Nat → Prop) (rf : ∀ a, R a a) : Uf n (List.range n) (fun _ => 0) R := by
  refine ⟨List.length_range, fun x y h => ?_⟩
  have hx : x < n := by simpa using get_lt h
  rw [List.getElem?_range hx] at h
  have e : x = y := Option.some.inj h
  subst e
  exact ⟨hx, rf _, fun z => absurd rfl z⟩
/-- alike for all doors from k on -/
def Rk (side : Nat → Nat → Bool) (k : Nat) (x y : Nat) : Prop := ∀ d, k ≤ d → side d x = side d y
theorem Rk.tr {side k} : ∀ a b c, Rk side k a b → Rk side k b c → Rk side k a c := fun a b c h1 h2 d hd => (h1 d hd).trans (h2 d hd)
theorem Rk.rf {side k} : ∀ a, Rk side k a a := fun a d _ => rfl
theorem Uf.union {n L rank side k} {ds : List (Nat × Nat)} (u : Uf n L rank (Rk side k)) (s1 : ∀ d e, ds[d]? = some e → side d e.1 ≠ side d e.2) (s2 : ∀ c d e, ds[d]? = some e → c ≠ d → side c e.1 = side c e.2)
    {x y ra rb : Nat} (hd : ds[k]? = some (x, y)) (ha : Rk side k x ra) (hb : Rk side k y rb) (hra : L[ra]? = some ra) (hrb : L[rb]? = some rb) :
    Uf n (L.set ra rb) (fun z => rank z + if side k z = side k x then rank rb + 1 else 0) (Rk side (k + 1)) := by
  refine ⟨by rw [List.length_set]; exact u.len, fun w v h => ?_⟩
  have hne : side k x ≠ side k y := s1 _ _ hd
  rcases get_set h with ⟨rfl, rfl⟩ | ⟨_, h⟩
  · refine ⟨(u.at_ _ _ hrb).1, fun d hd' => ?_, fun _ => ?_⟩
    · rw [← ha d (by omega), ← hb d (by omega)]
      exact s2 d k _ hd (by omega)
    · have e1 : side k w = side k x := (ha k (Nat.le_refl _)).symm
      have e2 : ¬ side k v = side k x := fun z => hne (z.symm.trans (hb k (Nat.le_refl _)).symm)
      simp only [e1, if_true, if_neg e2]
      omega
  · obtain ⟨b1, b2, b3⟩ := u.at_ _ _ h
    refine ⟨b1, fun d hd' => b2 d (by omega), fun ne => ?_⟩
    have := b3 ne
    have e : side k w = side k v := b2 k (Nat.le_refl _)
    rw [e]
    omega
theorem ring_no {side : Nat → Nat → Bool} {k} {ds : List (Nat × Nat)} (s1 : ∀ d e, ds[d]? = some e → side d e.1 ≠ side d e.2) {x y r : Nat} (hd : ds[k]? = some (x, y)) (ha : Rk side k x r) (hb : Rk side k y r) : False :=
  s1 _ _ hd ((ha k (Nat.le_refl _)).trans (hb k (Nat.le_refl _)).symm)
end K5

namespace K5
theorem nodup_le : ∀ (n : Nat) (l : List Nat), l.Nodup → (∀ x ∈ l, x < n) → l.length ≤ n
  | 0, [], _, _ => Nat.le_refl _
  | 0, a :: r, _, h => absurd (h a List.mem_cons_self) (Nat.not_lt_zero _)
  | n + 1, l, nd, h => by
    by_cases m : n ∈ l
    · have h1 := nodup_le n (l.erase n) (nd.erase n) fun x hx => by
        have q := (List.Nodup.mem_erase_iff nd).mp hx
        have := h x q.2
        have := q.1
        omega
      rw [List.length_erase_of_mem m] at h1
      have : 0 < l.length := List.length_pos_of_mem m
      omega
    · have h1 := nodup_le n l nd fun x hx => by
        have := h x hx
        have : x ≠ n := fun e => m (e ▸ hx)
        omega
      omega
/-- a search: kl the rooms found, ws those that wait -/
structure Dfs (n : Nat) (ds : List (Nat × Nat)) (shut kl ws : List Nat) : Prop where
  nd : kl.Nodup
  lt : ∀ x ∈ kl, x < n
  sub : ∀ x ∈ ws, x ∈ kl
  cl : ∀ x ∈ kl, x ∉ ws → ∀ d y, Joins ds d x y → d ∉ shut → y ∈ kl
structure DfsIn (n : Nat) (ds : List (Nat × Nat)) (shut kl ws : List Nat) (here : Nat) (don : List (Nat × Nat)) : Prop where
  nd : kl.Nodup
  lt : ∀ x ∈ kl, x < n
  sub : ∀ x ∈ ws, x ∈ kl
  cl : ∀ x ∈ kl, x ∉ ws → x ≠ here → ∀ d y, Joins ds d x y → d ∉ shut → y ∈ kl
  he : here ∈ kl
  dn : ∀ d y, (d, y) ∈ don → d ∉ shut → y ∈ kl
section
variable {n : Nat} {ds : List (Nat × Nat)} {shut kl ws : List Nat} {here : Nat} {don : List (Nat × Nat)}
theorem Dfs.start {x : Nat} (h : x < n) : Dfs n ds shut [x] [x] :=
  ⟨by simp, fun y hy => by rw [List.mem_singleton.mp hy]; exact h, fun y hy => hy, fun y hy hn => absurd hy hn⟩
theorem Dfs.pop (h : Dfs n ds shut kl (ws ++ [here])) : DfsIn n ds shut kl ws here [] :=
  ⟨h.nd, h.lt, fun x m => h.sub x (List.mem_append.mpr (.inl m)), fun x m nw ne d y j ns => h.cl x m (fun q => by
    rcases List.mem_append.mp q with q | q
    · exact nw q
    · exact ne (List.mem_singleton.mp q)) d y j ns, h.sub here (List.mem_append.mpr (.inr (List.mem_singleton.mpr rfl))), fun d y m => nomatch m⟩
theorem DfsIn.skip (h : DfsIn n ds shut kl ws here don) {d y : Nat} (q : d ∈ shut ∨ y ∈ kl) : DfsIn n ds shut kl ws here (don ++ [(d, y)]) :=
  ⟨h.nd, h.lt, h.sub, h.cl, h.he, fun d' y' m ns => by
    rcases List.mem_append.mp m with m | m
    · exact h.dn d' y' m ns
    · cases List.mem_singleton.mp m
      exact q.resolve_left ns⟩
theorem DfsIn.add (h : DfsIn n ds shut kl ws here don) {d y : Nat} (hy : y < n) (nk : y ∉ kl) : DfsIn n ds shut (kl ++ [y]) (ws ++ [y]) here (don ++ [(d, y)]) where
  nd := List.nodup_append.mpr ⟨h.nd, by simp, fun a ha b hb e => by
    rw [List.mem_singleton.mp hb] at e
    exact nk (e ▸ ha)⟩
  lt := fun x m => by
    rcases List.mem_append.mp m with m | m
    · exact h.lt x m
    · rw [List.mem_singleton.mp m]; exact hy
  sub := fun x m => by
    rcases List.mem_append.mp m with m | m
    · exact List.mem_append.mpr (.inl (h.sub x m))
    · exact List.mem_append.mpr (.inr m)
  cl := fun x m nw ne d' y' j ns => by
    rcases List.mem_append.mp m with m | m
    · exact List.mem_append.mpr (.inl (h.cl x m (fun q => nw (List.mem_append.mpr (.inl q))) ne d' y' j ns))
    · exact absurd (List.mem_append.mpr (.inr m)) nw
  he := List.mem_append.mpr (.inl h.he)
  dn := fun d' y' m ns => by
    rcases List.mem_append.mp m with m | m
    · exact List.mem_append.mpr (.inl (h.dn d' y' m ns))
    · cases List.mem_singleton.mp m
      exact List.mem_append.mpr (.inr (List.mem_singleton.mpr rfl))
theorem DfsIn.done (h : DfsIn n ds shut kl ws here don) (all : ∀ d y, Joins ds d here y → (d, y) ∈ don) : Dfs n ds shut kl ws :=
  ⟨h.nd, h.lt, h.sub, fun x m nw d y j ns => by
    by_cases e : x = here
    · subst e
      exact h.dn d y (all d y j) ns
    · exact h.cl x m nw e d y j ns⟩
theorem Dfs.le (h : Dfs n ds shut kl ws) : kl.length ≤ n := nodup_le n kl h.nd h.lt
theorem DfsIn.le (h : DfsIn n ds shut kl ws here don) : kl.length ≤ n := nodup_le n kl h.nd h.lt
/-- in the end: a closed set of rooms; without shut doors it is all -/
theorem Dfs.all (T : Tree n ds) (h : Dfs n ds [] kl []) {x : Nat} (hx : x ∈ kl) : ∀ y, y < n → y ∈ kl := by
  intro y hy
  refine T.conn (fun z => z ∈ kl) (fun e he => ?_) x y (h.lt x hx) hy hx
  obtain ⟨d, hd⟩ := List.mem_iff_getElem?.mp he
  exact ⟨fun m => h.cl _ m (by simp) d _ (.inl hd) (by simp), fun m => h.cl _ m (by simp) d _ (.inr hd) (by simp)⟩
theorem Dfs.walk (h : Dfs n ds shut kl []) : ∀ {x p y}, Walk ds x p y → (∀ d ∈ p, d ∉ shut) → x ∈ kl → y ∈ kl := by
  intro x p y w
  induction w with
  | nil a => intro _ m; exact m
  | cons j w ih => intro ns m; exact ih (fun d hd => ns d (List.mem_cons_of_mem _ hd)) (h.cl _ m (by simp) _ _ j (ns _ List.mem_cons_self))
end
/-- steps towards the beginning -/
structure Ptr (ds : List (Nat × Nat)) (shut : List Nat) (room : Nat) (ks : List (Nat × Option (Nat × Nat))) : Prop where
  st : ∀ x d y, (x, some (d, y)) ∈ ks → Joins ds d x y ∧ d ∉ shut ∧ y ∈ ks.map Prod.fst ∧ (ks.map Prod.fst).idxOf y < (ks.map Prod.fst).idxOf x
  fin : ∀ x, (x, none) ∈ ks → x = room
theorem Ptr.start {ds shut room} : Ptr ds shut room [(room, none)] :=
  ⟨fun x d y m => (by cases List.mem_singleton.mp m), fun x m => (by cases List.mem_singleton.mp m; rfl)⟩
theorem Ptr.add {ds shut room ks} (P : Ptr ds shut room ks) {x d y : Nat} (j : Joins ds d x y) (ns : d ∉ shut) (hy : y ∈ ks.map Prod.fst) (hx : x ∉ ks.map Prod.fst) : Ptr ds shut room (ks ++ [(x, some (d, y))]) := by
  refine ⟨fun x' d' y' m => ?_, fun x' m => ?_⟩
  · rw [List.map_append]
    rcases List.mem_append.mp m with m | m
    · obtain ⟨a, b, c, e⟩ := P.st x' d' y' m
      have hx' : x' ∈ ks.map Prod.fst := List.mem_map.mpr ⟨_, m, rfl⟩
      refine ⟨a, b, List.mem_append.mpr (.inl c), ?_⟩
      rw [List.idxOf_append, if_pos c, List.idxOf_append, if_pos hx']
      exact e
    · cases List.mem_singleton.mp m
      refine ⟨j, ns, List.mem_append.mpr (.inl hy), ?_⟩
      rw [List.idxOf_append, if_pos hy, List.idxOf_append, if_neg hx]
      have := List.idxOf_lt_length_iff.mpr hy
      omega
  · rcases List.mem_append.mp m with m | m
    · exact P.fin x' m
    · cases List.mem_singleton.mp m
/-- the way made so far from a to here along the steps -/
structure Made (ds : List (Nat × Nat)) (kl : List Nat) (a : Nat) (p : List Nat) (here : Nat) : Prop where
  w : Walk ds a p here
  nd : p.Nodup
  up : ∀ d ∈ p, ∀ x y, Joins ds d x y → kl.idxOf here ≤ kl.idxOf x ∧ kl.idxOf here ≤ kl.idxOf y
theorem Made.start {ds kl a} : Made ds kl a [] a := ⟨.nil _, List.nodup_nil, fun _ h => nomatch h⟩
theorem Made.step {ds shut room ks a p here d y} (T : ∃ n, Tree n ds) (M : Made ds (ks.map Prod.fst) a p here) (P : Ptr ds shut room ks) (h : (here, some (d, y)) ∈ ks) : Made ds (ks.map Prod.fst) a (p ++ [d]) y := by
  obtain ⟨j, ns, hy, lt⟩ := P.st here d y h
  refine ⟨M.w.snoc j, ?_, fun d' m x z k => ?_⟩
  · refine List.nodup_append.mpr ⟨M.nd, by simp, fun c hc b hb e => ?_⟩
    rw [List.mem_singleton.mp hb] at e
    subst e
    have := (M.up _ hc here y j).2
    omega
  · rcases List.mem_append.mp m with m | m
    · have := M.up d' m x z k
      omega
    · cases List.mem_singleton.mp m
      obtain ⟨n, T⟩ := T
      rcases j with j | j <;> rcases k with k | k <;> rw [j] at k <;> cases k
      · exact ⟨Nat.le_of_lt lt, Nat.le_refl _⟩
      · exact ⟨Nat.le_refl _, Nat.le_of_lt lt⟩
      · exact ⟨Nat.le_refl _, Nat.le_of_lt lt⟩
      · exact ⟨Nat.le_of_lt lt, Nat.le_refl _⟩
/-- the ways that the law makes: kl with the way to each -/
def Pth (ds : List (Nat × Nat)) (a : Nat) (ks : List (Nat × List Nat)) : Prop :=
  ∀ x p, (x, p) ∈ ks → Walk ds a p x ∧ p.Nodup ∧ ∀ d ∈ p, ∀ u v, Joins ds d u v → u ∈ ks.map Prod.fst ∧ v ∈ ks.map Prod.fst
theorem Pth.start {ds a} : Pth ds a [(a, [])] := fun x p m => by
  cases List.mem_singleton.mp m
  exact ⟨.nil _, List.nodup_nil, fun _ h => nomatch h⟩
theorem Pth.add {ds a ks x y p d} (P : Pth ds a ks) (h : (x, p) ∈ ks) (j : Joins ds d x y) (hy : y ∉ ks.map Prod.fst) : Pth ds a (ks ++ [(y, p ++ [d])]) := by
  intro x' p' m
  rw [List.map_append]
  rcases List.mem_append.mp m with m | m
  · obtain ⟨a, b, c⟩ := P x' p' m
    exact ⟨a, b, fun d hd u v k => ⟨List.mem_append.mpr (.inl (c d hd u v k).1), List.mem_append.mpr (.inl (c d hd u v k).2)⟩⟩
  · cases List.mem_singleton.mp m
    obtain ⟨a, b, c⟩ := P x p h
    have hx : x ∈ ks.map Prod.fst := List.mem_map.mpr ⟨_, h, rfl⟩
    refine ⟨a.snoc j, List.nodup_append.mpr ⟨b, by simp, fun c' hc b' hb e => ?_⟩, fun d' hd u v k => ?_⟩
    · rw [List.mem_singleton.mp hb] at e
      subst e
      exact hy (c _ hc x y j).2
    · rcases List.mem_append.mp hd with hd | hd
      · exact ⟨List.mem_append.mpr (.inl (c d' hd u v k).1), List.mem_append.mpr (.inl (c d' hd u v k).2)⟩
      · cases List.mem_singleton.mp hd
        have e1 := List.mem_append.mpr (.inl hx : x ∈ ks.map Prod.fst ∨ x ∈ [y])
        have e2 : y ∈ ks.map Prod.fst ++ [y] := List.mem_append.mpr (.inr (List.mem_singleton.mpr rfl))
        rcases j with j | j <;> rcases k with k | k <;> rw [j] at k <;> cases k
        · exact ⟨e1, e2⟩
        · exact ⟨e2, e1⟩
        · exact ⟨e2, e1⟩
        · exact ⟨e1, e2⟩
end K5

namespace K5
theorem perm_of_map {α β : Type} (f : α → β) : ∀ (l : List α) (ys : List β), ys.Perm (l.map f) → ∃ l' : List α, ys = l'.map f ∧ l'.Perm l
  | [], ys, h => ⟨[], h.eq_nil, List.Perm.refl _⟩
  | a :: r, ys, h => by
    have ha : f a ∈ ys := h.mem_iff.mpr List.mem_cons_self
    obtain ⟨s, t, rfl⟩ := List.append_of_mem ha
    have h2 : (s ++ t).Perm (r.map f) := (List.perm_middle.symm.trans h).cons_inv
    obtain ⟨r', e, p⟩ := perm_of_map f r _ h2
    refine ⟨r'.take s.length ++ a :: r'.drop s.length, ?_, ?_⟩
    · rw [List.map_append, List.map_cons, List.map_take, List.map_drop, ← e, List.take_left, List.drop_left]
    · have : (r'.take s.length ++ a :: r'.drop s.length).Perm (a :: r') := by
        have q := @List.perm_middle _ a (r'.take s.length) (r'.drop s.length)
        rw [List.take_append_drop] at q
        exact q
      exact this.trans (p.cons a)
theorem Tr0.nv {n : Nat} {es : List (Nat × Nat)} (T : Tr0 n es) {L : List Nat} (p : L.Perm (List.range n)) : Tr0 n (es.map fun e => (L.getD e.1 0, L.getD e.2 0)) := by
  have nd : L.Nodup := p.symm.nodup List.nodup_range
  have hl : L.length = n := by rw [p.length_eq, List.length_range]
  have hm : ∀ y, y ∈ L ↔ y < n := fun y => by rw [p.mem_iff, List.mem_range]
  have gd : ∀ x (h : x < n), L.getD x 0 = L[x]'(by omega) := fun x h => by
    rw [List.getD_eq_getElem?_getD, List.getElem?_eq_getElem (by omega)]
    rfl
  refine T.names (fun x => L.getD x 0) (fun y => L.idxOf y) (fun x h => ?_) (fun x h => ?_) (fun y h => ?_)
  · show L.getD x 0 < n
    rw [gd x h]
    exact (hm _).mp (List.getElem_mem _)
  · show L.idxOf (L.getD x 0) = x
    rw [gd x h]
    exact nd.idxOf_getElem x (by omega)
  · have hy := (hm y).mpr h
    have hi := List.idxOf_lt_length_iff.mpr hy
    refine ⟨by show L.idxOf y < n; omega, ?_⟩
    show L.getD (L.idxOf y) 0 = y
    rw [gd _ (by omega)]
    exact List.getElem_idxOf hi
end K5

/-! groups: rooms joined by doors, the mathematics -/
namespace K5
/-- a walk through doors of a set -/
def Con (ds : List (Nat × Nat)) (J : Nat → Prop) (x y : Nat) : Prop := ∃ u, Walk ds x u y ∧ ∀ e ∈ u, J e
section
variable {n : Nat} {ds : List (Nat × Nat)} {J J' : Nat → Prop}
theorem Con.refl (x : Nat) : Con ds J x x := ⟨[], .nil _, fun _ h => nomatch h⟩
theorem Con.symm {x y : Nat} (h : Con ds J x y) : Con ds J y x := by
  obtain ⟨u, w, hu⟩ := h
  exact ⟨u.reverse, w.rev, fun e he => hu e (List.mem_reverse.mp he)⟩
theorem Con.trans {x y z : Nat} (h : Con ds J x y) (k : Con ds J y z) : Con ds J x z := by
  obtain ⟨u, w, hu⟩ := h
  obtain ⟨v, w', hv⟩ := k
  refine ⟨u ++ v, w.app w', fun e he => ?_⟩
  rcases List.mem_append.mp he with he | he
  · exact hu e he
  · exact hv e he
theorem Con.door {d x y : Nat} (j : Joins ds d x y) (h : J d) : Con ds J x y := ⟨[d], .cons j (.nil _), fun e he => by
  rw [List.mem_singleton] at he
  rw [he]
  exact h⟩
theorem Con.mono (f : ∀ e, J e → J' e) {x y : Nat} (h : Con ds J x y) : Con ds J' x y := by
  obtain ⟨u, w, hu⟩ := h
  exact ⟨u, w, fun e he => f e (hu e he)⟩
/-- a mark that both ends of each such door share, is shared along -/
theorem Con.eq {β : Type} {f : Nat → β} (hf : ∀ d x y, J d → Joins ds d x y → f x = f y) : ∀ {x : Nat} {u : List Nat} {y : Nat}, Walk ds x u y → (∀ e ∈ u, J e) → f x = f y
  | _, _, _, .nil _, _ => rfl
  | _, _, _, .cons j w, h => (hf _ _ _ (h _ List.mem_cons_self) j).trans (Con.eq hf w fun e he => h e (List.mem_cons_of_mem _ he))
end
/-- the explained doors: the least set -/
inductive Ex (ds : List (Nat × Nat)) (S : List Nat × List Nat) : Nat → Prop
  | mk {d p r x y : Nat} {u : List Nat} : S.2[d]? = some p → S.1[p]? = some r → Joins ds d x y → Walk ds r u x → (∀ e ∈ u, Ex ds S e) → Ex ds S d
/-- marks of the rooms, the doors of J joined so far -/
structure Mk (n : Nat) (ds : List (Nat × Nat)) (S : List Nat × List Nat) (M : List Nat) (J : List Nat) : Prop where
  len : M.length = n
  nd : J.Nodup
  ex : ∀ d ∈ J, Ex ds S d
  lt : ∀ d ∈ J, d < ds.length
  le : ∀ x m, M[x]? = some m → m ≤ x ∧ Con ds (· ∈ J) x m
  eq : ∀ d x y, d ∈ J → Joins ds d x y → M.getD x 0 = M.getD y 0
section
variable {n : Nat} {ds : List (Nat × Nat)} {S : List Nat × List Nat} {M J : List Nat}
theorem Mk.start (n : Nat) : Mk n ds S (List.range n) [] where
  len := List.length_range
  nd := List.nodup_nil
  ex := fun _ h => nomatch h
  lt := fun _ h => nomatch h
  le := fun x m h => by
    have hx : x < n := by have := get_lt h; rwa [List.length_range] at this
    rw [List.getElem?_range hx] at h
    cases h
    exact ⟨Nat.le_refl _, Con.refl _⟩
  eq := fun _ _ _ h => nomatch h
theorem Mk.get (h : Mk n ds S M J) {x : Nat} (hx : x < n) : M[x]? = some (M.getD x 0) := by
  have hl : x < M.length := by rw [h.len]; exact hx
  rw [List.getD_eq_getElem?_getD, List.getElem?_eq_getElem hl]
  rfl
theorem Mk.con (h : Mk n ds S M J) {x y : Nat} (c : Con ds (· ∈ J) x y) : M.getD x 0 = M.getD y 0 := by
  obtain ⟨u, w, hu⟩ := c
  exact Con.eq (J := (· ∈ J)) (f := fun x => M.getD x 0) (fun d x y hd j => h.eq d x y hd j) w hu
theorem Mk.iff (h : Mk n ds S M J) {x y : Nat} (hx : x < n) (hy : y < n) : M.getD x 0 = M.getD y 0 ↔ Con ds (· ∈ J) x y := by
  refine ⟨fun e => ?_, h.con⟩
  have c1 := (h.le x _ (h.get hx)).2
  have c2 := (h.le y _ (h.get hy)).2
  rw [e] at c1
  exact c1.trans c2.symm
theorem Mk.lo (h : Mk n ds S M J) {x : Nat} (hx : x < n) : M.getD x 0 ≤ x := (h.le x _ (h.get hx)).1
/-- marks after a door is joined -/
def join (M : List Nat) (lo hi : Nat) : List Nat := M.map fun m => if m = hi then lo else m
theorem join_get {lo hi x : Nat} (hx : x < M.length) : (join M lo hi).getD x 0 = if M.getD x 0 = hi then lo else M.getD x 0 := by
  unfold join
  rw [List.getD_eq_getElem?_getD, List.getElem?_map, List.getElem?_eq_getElem hx, List.getD_eq_getElem?_getD, List.getElem?_eq_getElem hx]
  rfl
theorem Mk.step (T : Tree n ds) (h : Mk n ds S M J) {d a b p r : Nat} (hd : ds[d]? = some (a, b)) (ne : M.getD a 0 ≠ M.getD b 0) (hp : S.2[d]? = some p) (hr : S.1[p]? = some r) (hrn : r < n) (near : M.getD r 0 = M.getD a 0 ∨ M.getD r 0 = M.getD b 0) :
    Mk n ds S (join M (min (M.getD a 0) (M.getD b 0)) (max (M.getD a 0) (M.getD b 0))) (d :: J) := by
  have j : Joins ds d a b := .inl hd
  obtain ⟨la, lb, _, _⟩ := j.lt T
  have dJ : d ∉ J := fun z => ne (h.eq d a b z j)
  have exd : Ex ds S d := by
    rcases near with e | e
    · obtain ⟨u, w, hu⟩ := (h.iff hrn la).mp e
      exact .mk hp hr j w fun e he => h.ex e (hu e he)
    · obtain ⟨u, w, hu⟩ := (h.iff hrn lb).mp e
      exact .mk hp hr j.symm w fun e he => h.ex e (hu e he)
  generalize ea : M.getD a 0 = ma at ne near
  generalize eb : M.getD b 0 = mb at ne near
  have hmn : ∀ x, x < n → x < M.length := fun x hx => by rw [h.len]; exact hx
  have sub : ∀ e, e ∈ J → e ∈ d :: J := fun e he => List.mem_cons_of_mem _ he
  have cab : Con ds (· ∈ d :: J) a b := Con.door j List.mem_cons_self
  have ca : Con ds (· ∈ d :: J) a ma := ea ▸ ((h.le a _ (h.get la)).2.mono sub)
  have cb : Con ds (· ∈ d :: J) b mb := eb ▸ ((h.le b _ (h.get lb)).2.mono sub)
  have chl : Con ds (· ∈ d :: J) (max ma mb) (min ma mb) := by
    by_cases c : ma ≤ mb
    · rw [Nat.max_eq_right c, Nat.min_eq_left c]
      exact cb.symm.trans (cab.symm.trans ca)
    · rw [Nat.max_eq_left (by omega), Nat.min_eq_right (by omega)]
      exact ca.symm.trans (cab.trans cb)
  refine ⟨by unfold join; rw [List.length_map]; exact h.len, List.nodup_cons.mpr ⟨dJ, h.nd⟩, fun e he => ?_, fun e he => ?_, fun x m hm => ?_, fun e x y he jo => ?_⟩
  · rcases List.mem_cons.mp he with rfl | he
    · exact exd
    · exact h.ex e he
  · rcases List.mem_cons.mp he with rfl | he
    · exact get_lt hd
    · exact h.lt e he
  · have hx : x < n := by
      have := get_lt hm
      unfold join at this
      rwa [List.length_map, h.len] at this
    have e1 : m = (join M (min ma mb) (max ma mb)).getD x 0 := by rw [List.getD_eq_getElem?_getD, hm]; rfl
    rw [join_get (hmn x hx)] at e1
    have l1 := h.lo hx
    have c1 := (h.le x _ (h.get hx)).2.mono sub
    by_cases c : M.getD x 0 = max ma mb
    · rw [if_pos c] at e1
      rw [c] at c1
      refine ⟨by omega, ?_⟩
      rw [e1]
      exact c1.trans chl
    · rw [if_neg c] at e1
      rw [e1]
      exact ⟨l1, c1⟩
  · obtain ⟨lx, ly, _, _⟩ := jo.lt T
    rw [join_get (hmn x lx), join_get (hmn y ly)]
    rcases List.mem_cons.mp he with rfl | he
    · have key : ∀ z, z = a ∨ z = b → (if M.getD z 0 = max ma mb then min ma mb else M.getD z 0) = min ma mb := by
        rintro z (rfl | rfl)
        · rw [ea]
          by_cases c : ma = max ma mb
          · rw [if_pos c]
          · rw [if_neg c]
            omega
        · rw [eb]
          by_cases c : mb = max ma mb
          · rw [if_pos c]
          · rw [if_neg c]
            omega
      have ex : x = a ∨ x = b := by
        rcases jo with q | q <;> (rw [hd] at q; cases q; simp)
      have ey : y = a ∨ y = b := by
        rcases jo with q | q <;> (rw [hd] at q; cases q; simp)
      rw [key x ex, key y ey]
    · rw [h.eq e x y he jo]
theorem Mk.few (h : Mk n ds S M J) : J.length ≤ ds.length := nodup_le ds.length J h.nd h.lt
/-- nothing left to join -/
def Closed (ds : List (Nat × Nat)) (S : List Nat × List Nat) (M : List Nat) (d : Nat) : Prop :=
  ∀ a b p r, ds[d]? = some (a, b) → S.2[d]? = some p → S.1[p]? = some r → M.getD a 0 = M.getD b 0 ∨ (M.getD r 0 ≠ M.getD a 0 ∧ M.getD r 0 ≠ M.getD b 0)
theorem Mk.done (T : Tree n ds) (h : Mk n ds S M J) (cl : ∀ d, d < ds.length → Closed ds S M d) : ∀ d, Ex ds S d → ∀ x y, Joins ds d x y → M.getD x 0 = M.getD y 0 := by
  intro d hd
  induction hd with
  | @mk d p r x y u hp hr j w hu ih =>
    intro x' y' j'
    have er : M.getD r 0 = M.getD x 0 := Con.eq (J := (· ∈ u)) (f := fun x => M.getD x 0) (fun e a b he jo => ih e he a b jo) w fun e he => he
    have hdl : d < ds.length := by rcases j with q | q <;> exact get_lt q
    have fin : ∀ a b, ds[d]? = some (a, b) → M.getD a 0 = M.getD b 0 := by
      intro a b hab
      rcases cl d hdl a b p r hab hp hr with e | ⟨e1, e2⟩
      · exact e
      · rcases j with q | q
        · rw [hab] at q
          cases q
          exact absurd er e1
        · rw [hab] at q
          cases q
          exact absurd er e2
    rcases j' with q | q
    · exact fin _ _ q
    · exact (fin _ _ q).symm
/-- in the end: the joined doors are the explained ones -/
theorem Mk.all (T : Tree n ds) (h : Mk n ds S M J) (cl : ∀ d, d < ds.length → Closed ds S M d) {d x y : Nat} (j : Joins ds d x y) : M.getD x 0 = M.getD y 0 ↔ Ex ds S d := by
  refine ⟨fun e => ?_, fun e => h.done T cl d e x y j⟩
  obtain ⟨lx, ly, _, _⟩ := j.lt T
  obtain ⟨u, w, hu⟩ := (h.iff lx ly).mp e
  obtain ⟨side, s1, s2⟩ := T.side
  have : d ∈ u := Classical.byContradiction fun z => side_join s1 j (side_walk s2 w z)
  exact h.ex d (hu d this)
theorem Mk.con_ex (T : Tree n ds) (h : Mk n ds S M J) (cl : ∀ d, d < ds.length → Closed ds S M d) {x y : Nat} (hx : x < n) (hy : y < n) : M.getD x 0 = M.getD y 0 ↔ Con ds (Ex ds S) x y := by
  refine ⟨fun e => ((h.iff hx hy).mp e).mono h.ex, fun c => ?_⟩
  obtain ⟨u, w, hu⟩ := c
  exact Con.eq (J := Ex ds S) (f := fun x => M.getD x 0) (fun d a b hd jo => h.done T cl d hd a b jo) w hu
/-- two such lists of marks are one -/
theorem Mk.unique (T : Tree n ds) {M' J' : List Nat} (h : Mk n ds S M J) (cl : ∀ d, d < ds.length → Closed ds S M d) (h' : Mk n ds S M' J') (cl' : ∀ d, d < ds.length → Closed ds S M' d) : M = M' := by
  apply List.ext_getElem?
  intro x
  by_cases hx : x < n
  · rw [h.get hx, h'.get hx]
    congr 1
    have root : ∀ {M J : List Nat}, Mk n ds S M J → (∀ d, d < ds.length → Closed ds S M d) → ∀ y, y < n → Con ds (Ex ds S) x y → M.getD x 0 ≤ y := fun hm hc y hy c => by
      rw [(hm.con_ex T hc hx hy).mpr c]
      exact hm.lo hy
    have a1 := (h.le x _ (h.get hx)).2.mono h.ex
    have a2 := (h'.le x _ (h'.get hx)).2.mono h'.ex
    have l1 := h.lo hx
    have l2 := h'.lo hx
    have b1 := root h cl _ (by omega) a2
    have b2 := root h' cl' _ (by omega) a1
    omega
  · rw [List.getElem?_eq_none (by rw [h.len]; omega), List.getElem?_eq_none (by rw [h'.len]; omega)]
end
end K5

/-! own rules: a class of the program: its methods as promises; != of two of its instances by its own __eq__ -/
namespace L2
open PySem PySem.Spec PyProof.Rows
/-- a class of the text; no name of its fields stands in it -/
structure ClsD (K : PySem.W.Frag) (mg : Str → Option Value) (x : Str) (C : Addr) (fs : List Str) : Prop where
  cl : Cls K C
  g : mg x = some (.ref C)
  no : ∀ f ∈ fs, NoAttr K C f
/-- a method of the text -/
def MetD (K : PySem.W.Frag) (C : Addr) (m qual : Str) (st : Stmt) : Prop := ∃ (f : Addr) (fd : FuncData), Fun K m qual st f fd ∧ Meth K C m f
/-- a method's promise -/
def CalM (P : Program) (w : World) (K : PySem.W.Frag) (mg : Str → Option Value) (base : Heap) (C : Addr) (m : Str) (ps : List Str) (k : Nat) (sp : Sp) : Prop :=
  ∃ (f : Addr) (fd : FuncData), Meth K C m f ∧ Binds K fd ps [] ∧ FnOk P w K mg base CX0 k f fd ps sp
theorem MetD.ok {P : Program} {w : World} {K : PySem.W.Frag} {mg : Str → Option Value} {base : Heap} {C : Addr} {m qual : Str} {st : Stmt} {N ps : List Str} {k : Nat} {sp : Sp} (D : MetD K C m qual st) (S : FnScope N ps (defScope st))
    (hb : ∀ (kV doc pm : Value) (an : Option Addr) (cdv ct : Value) (us : List Value), us.length = ps.length → bindArgs (PySem.W.fnOf m qual (defArgs st) (defBody st) (defScope st) .none kV doc pm an cdv ct) ⟨us, []⟩ = pure (ps.zip us))
    (ar : ∀ vs H Q E, sp vs H Q E → vs.length = ps.length)
    (hbody : ∀ (f : Addr) (cdv : Value) (A : Around) (outer : List Env) (s : Shared) (H : Hp) (vs : List V) (Q : VK) (E : XK), Room k (A.deeper (envOfC qual (defScope st) s.heap.objs.size f cdv)) → sp vs H Q E →
      ∃ t, PSs (cxOf CX0 P w K mg base N qual (defScope st) f cdv A outer s H E).nox (defBody st) t ∧ t { nx := fun _ H' => Q .non H', rt := Q } (start N vs) H) : CalM P w K mg base C m ps (k + 1) sp := by
  obtain ⟨f, fd, F, me⟩ := D
  exact ⟨f, fd, me, F.binds hb, F.ok S ar fun cdv A outer s H vs Q E hr h => hbody f cdv A outer s H vs Q E hr h⟩
section
variable {X : Cx} {C f : Addr} {fd : FuncData} {ps : List Str} {sp : Sp} {k : Nat} {CX : CXT} {E : XK}
/-- x != y: both of the class at C, whose own __eq__ answers True or False -/
def rNeOwn (C : Addr) (sp : Sp) (E : XK) : R2 := fun x y H Q => ∃ a dx fs b dy gs, x = .ref a ∧ y = .ref b ∧ H a = some (.ins C dx fs) ∧ H b = some (.ins C dy gs) ∧ sp [x, y] H (fun v H' => ∃ r, v = .bl r ∧ Q (.bl (!r)) H') E
theorem ins_at {pins : List (Addr × Obj)} {σ : St} {H : Hp} {s : Shared} {a dx : Addr} {fs : List (Str × V)} (I : Inv X pins σ H s) (h : H a = some (.ins C dx fs)) : ∃ od, PySem.W.InstAt s.heap a (PySem.W.instObj C dx) C (some od) := by
  obtain ⟨mA, O, _⟩ := ins_get I.hok h
  obtain ⟨od, ho, _⟩ := lookIn_ns O.ns
  exact ⟨od, O.obj, rfl, rfl, ho⟩
theorem op_neOwn (cE : PySem.W.findIn X.K (.ref C) "__eq__" = some (some (.ref f))) (cf : PySem.W.isFn X.K (.ref f) = true) (cN : PySem.W.findIn X.K (.ref C) "__ne__" = some (some (.builtin "object.__ne__"))) (cO : PySem.W.mroIn X.K C (.type "object") = some true)
    (F : FnOk X.prog X.w X.K X.mg X.base CX k f fd ps sp) (hr : Room (k + 1) X.A) (hb : Binds X.K fd ps []) (hx : Passes CX X E) : OpR X (compareOp .NotEq) (rNeOwn C sp E) := by
  intro pins s σ H x y v u Q I rx ry h
  obtain ⟨a, dx, fs, b, dy, gs, rfl, rfl, ha, hbb, q⟩ := h
  cases (show v = Value.ref a from rx)
  cases (show u = Value.ref b from ry)
  obtain ⟨od, J⟩ := ins_at I ha
  obtain ⟨od', J'⟩ := ins_at I hbb
  have X1 := I.kIn
  have units : X.A.units < cLine := hr.units0
  -- the call of the own __eq__, one level down
  have asked : wpAny (model X.prog X.w) X.A.in1 (call (.ref f) [.ref a, .ref b]) (fun r s' => ∃ t, r = .bool t ∧ EP X pins σ Q (.bool (!t)) s') X.xe s := by
    have r2 : Vals [V.ref a, V.ref b] [Value.ref a,
          Value.ref b] := .cons rfl (.cons rfl .nil)
    have hl : ([Value.ref a, Value.ref b] ++ []).length = ps.length := (F.len _ _ _ _ q).symm ▸ rfl
    have b2 := hb s [Value.ref a, Value.ref b] I.kIn (by rw [← F.len _ _ _ _ q]; rfl)
    refine wpAny_call (codeAny_mono (F.run X.A.in1 X.stack s H ⟨[.ref a, .ref b], []⟩ _ _ _ E hr.in1 I.env0.in1 b2 r2 q) fun r s' hq => ?_)
    cases r with
    | error e => exact hx pins σ H s e s' I hq
    | ok fl =>
      cases fl with
      | ret u =>
        obtain ⟨z, H', I2, rz, t, ez, qz⟩ := I.after hq
        subst ez
        cases rz
        exact ⟨t, rfl, .bl (!t), H', I2, rfl, qz⟩
      | next => exact False.elim hq
      | brk => exact False.elim hq
      | cont => exact False.elim hq
  have below : wpAny (model X.prog X.w) X.A.in1 (callSpecialIfBound? (.ref a) (Str.ofString "__eq__") [.ref b]) (fun r s' => ∃ t, r = some (.bool t) ∧ EP X pins σ Q (.bool (!t)) s') X.xe s :=
    PySem.W.ifBound_K X1 J cE cf (wpAny_mono asked (fun r s' ⟨t, e, z⟩ => ⟨t, congrArg some e, z⟩) fun _ _ e => e)
  have told : wpAny (model X.prog X.w) X.A (tryCompare (.ref a) (Str.ofString "__ne__") (.ref b)) (fun r s' => ∃ t, r = some (.bool t) ∧ EP X pins σ Q (.bool t) s') X.xe s := by
    unfold tryCompare
    have called : wpAny (model X.prog X.w) X.A (callSpecialIfBound? (.ref a) (Str.ofString "__ne__") [.ref b]) (fun r s' => ∃ t, r = some (.bool t) ∧ EP X pins σ Q (.bool t) s') X.xe s := by
      simp only [callSpecialIfBound?,
            bindSpecialIfBound?]
      refine wpAny_holding (wpAny_bind (wpAny_bind (wpAny_bind (J.type.here ((PySem.W.looks_findIn X1 cN).here ?_)))))
      simp only [PySem.F.cmp_object.ne.bind]
      refine wpAny_bind (wpAny_askSetting
            (wpAny_ite ?_))
      have it : wpAny (model X.prog X.w) X.A (call (.builtin "object.__ne__") ([.ref a] ++ [.ref b])) (fun r s' => ∃ t, r = .bool t ∧ EP X pins σ Q (.bool t) s') X.xe s := by
        refine wpAny_call (codeAny_call_builtin PySem.F.cmp_object.ne.plain PySem.F.cmpEntry_ne ?_)
        have body : wpAny (model X.prog X.w) X.A.in1 (Builtin.«object.__ne__» ⟨[.ref a, .ref b], []⟩) (fun fin s' => ∃ t, fin = .done (.ret (.bool t)) ∧ EP X pins σ Q (.bool t) s') X.xe s := by
          unfold Builtin.«object.__ne__»
          repeat (first
            | with_reducible refine wpAny_cRoomFor hr.in1.units0 ?_
            | (refine wpAny_bind (m := callSpecialIfBound? (.ref a) (Str.ofString "__eq__") [.ref b]) (wpAny_mono below (fun r s' hrr => by
                obtain ⟨t, rfl, hq⟩ := hrr
                repeat (first | exact ⟨_, rfl, hq⟩ | exact wpAny_pure ⟨_, rfl, hq⟩ | (refine wpAny_bind (m := truthy (.bool _)) (wpAny_truthy_bool ?_)) | wp_step)) fun _ _ e => e))
            | wp_step)
        simp only [checkBuiltinCall, PySem.F.cmpKind_ne, PySem.F.cmpSplit_ne]
        have isO : PySem.W.Looks (model X.prog X.w) s.heap (isInstance (.ref a) (.type "object")) true := J.type.andThen (PySem.W.looks_subIn X1 (show PySem.W.subIn X.K (.ref C) (.type "object") = some true from cO))
        have args := PySem.F.cmpArgs_ne (.ref a) (.ref b)
        show wpAny _ _ (isInstance (.ref a) (.type "object") >>= _) _ _ _
        refine wpAny_bind (isO.here ?_)
        simp only [Bool.not_true, Bool.false_eq_true,
              if_false]
        cases hsig : Manifest.signature? "object.__ne__" with
        | none => exact wpAny_pure (wpAny_mono body (fun fin s' ⟨t, e, z⟩ => by subst e; exact ⟨t, rfl, z⟩) fun _ _ z => z)
        | some sig =>
          simp only [argsOk, hsig] at args
          show wpAny _ _ (Bind.checkArgs "object.__ne__" sig ⟨[.ref a, .ref b], []⟩) _ _ _
          rw [show Bind.checkArgs "object.__ne__" sig ⟨[.ref a, .ref b], []⟩ = pure () from args]
          exact wpAny_pure (wpAny_mono body (fun fin s' ⟨t, e, z⟩ => by subst e; exact ⟨t, rfl, z⟩) fun _ _ z => z)
      have fin : wpAny (model X.prog X.w) X.A (call (.builtin "object.__ne__") ([.ref a] ++ [.ref b]) >>= fun v => pure (some v)) (fun r s' => ∃ t, r = some (.bool t) ∧ EP X pins σ Q (.bool t) s') X.xe s :=
        wpAny_bind (wpAny_mono it (fun v s' ⟨t, e, z⟩ => wpAny_pure ⟨t, congrArg some e, z⟩) fun _ _ z => z)
      split
      · exact wpAny_bind (wpAny_pure
            (wpAny_pure fin))
      · exact wpAny_tryCatch (wpAny_bind
            (wpAny_pure (wpAny_pure fin)))
    refine wpAny_bind (wpAny_mono called (fun r s' ⟨t, e, z⟩ => ?_) fun _ _ z => z)
    subst e
    exact wpAny_pure ⟨t, rfl, z⟩
  unfold compareOp
  show wpAny _ _ (richCompare .NotEq (.ref a) (.ref b)) _ _ _
  unfold richCompare
  simp only [oneThing_ref]
  refine wpAny_holding (wpAny_bind (wpAny_cRoomFor units ?_))
  refine wpAny_bind (J.type.here (wpAny_bind (J'.type.here ?_)))
  rw [cmpInfo_NotEq]
  dsimp only
  rw [show (Value.ref C != Value.ref
        C) = false from by simp]
  simp only [Bool.false_eq_true, if_false]
  refine wpAny_bind (wpAny_pure ?_)
  simp only [Bool.false_eq_true, if_false]
  refine wpAny_bind (wpAny_mono told (fun r s' ⟨t, e, z⟩ => ?_) fun _ _ z => z)
  subst e
  exact wpAny_pure z
end
end L2

namespace K5
open PySem PySem.Spec PyProof.Rows L2
def top (i : Nat) : Stmt := PySem.Challenge.pw_lastthrough_k31_edge_cases.main.body.getD i (.Pass ⟨0, 0, 0, 0⟩)
def mem (j : Nat) (s : Stmt) : Stmt := match s with
  | .ClassDef _ _ _ body _ _ _ _ _ _ _
        => body.getD j (.Pass ⟨0, 0, 0, 0⟩)
  | _ => .Pass ⟨0, 0, 0, 0⟩
abbrev s_is_whole : Stmt := top 11
abbrev N_is_whole : List Str := ["value"]
theorem sc_is_whole : FnScope N_is_whole ["value"] (defScope s_is_whole) := ⟨rfl, rfl, rfl, by decide +kernel, rfl, by decide +kernel, by decide +kernel⟩
abbrev s_is_index : Stmt := top 12
abbrev N_is_index : List Str := ["value", "count"]
theorem sc_is_index : FnScope N_is_index ["value", "count"] (defScope s_is_index) := ⟨rfl, rfl, rfl, by decide +kernel, rfl, by decide +kernel, by decide +kernel⟩
abbrev s_is_door : Stmt := top 13
abbrev N_is_door : List Str := ["value", "count", "a", "b"]
theorem sc_is_door : FnScope N_is_door ["value", "count"] (defScope s_is_door) := ⟨rfl, rfl, rfl, by decide +kernel, rfl, by decide +kernel, by decide +kernel⟩
abbrev s_check_house : Stmt := top 14
abbrev N_check_house : List Str := ["value", "door", "ends", "ring"]
theorem sc_check_house : FnScope N_check_house ["value"] (defScope s_check_house) := ⟨rfl, rfl, rfl, by decide +kernel, rfl, by decide +kernel, by decide +kernel⟩
abbrev s_first_ring : Stmt := top 15
abbrev N_first_ring : List Str := ["doors", "links", "door", "a", "b", "a_root", "b_root"]
theorem sc_first_ring : FnScope N_first_ring ["doors"] (defScope s_first_ring) := ⟨rfl, rfl, rfl, by decide +kernel, rfl, by decide +kernel, by decide +kernel⟩
abbrev s_find_root : Stmt := top 16
abbrev N_find_root : List Str := ["links", "room"]
theorem sc_find_root : FnScope N_find_root ["links", "room"] (defScope s_find_root) := ⟨rfl, rfl, rfl, by decide +kernel, rfl, by decide +kernel, by decide +kernel⟩
abbrev s_need_house : Stmt := top 17
abbrev N_need_house : List Str := ["house", "reason"]
theorem sc_need_house : FnScope N_need_house ["house"] (defScope s_need_house) := ⟨rfl, rfl, rfl, by decide +kernel, rfl, by decide +kernel, by decide +kernel⟩
abbrev s_need_room : Stmt := top 18
abbrev N_need_room : List Str := ["house", "room"]
theorem sc_need_room : FnScope N_need_room ["house", "room"] (defScope s_need_room) := ⟨rfl, rfl, rfl, by decide +kernel, rfl, by decide +kernel, by decide +kernel⟩
abbrev s_exits_of : Stmt := top 19
abbrev N_exits_of : List Str := ["house", "exits", "room", "door", "a", "b"]
theorem sc_exits_of : FnScope N_exits_of ["house"] (defScope s_exits_of) := ⟨rfl, rfl, rfl, by decide +kernel, rfl, by decide +kernel, by decide +kernel⟩
abbrev s_doors_by_ends : Stmt := top 20
abbrev N_doors_by_ends : List Str := ["house", "doors", "door", "a", "b"]
theorem sc_doors_by_ends : FnScope N_doors_by_ends ["house"] (defScope s_doors_by_ends) := ⟨rfl, rfl, rfl, by decide +kernel, rfl, by decide +kernel, by decide +kernel⟩
abbrev s_ways_from : Stmt := top 21
abbrev N_ways_from : List Str := ["house", "room", "shut", "exits", "shut_doors", "ways", "waiting", "here", "door", "there"]
theorem sc_ways_from : FnScope N_ways_from ["house", "room", "shut"] (defScope s_ways_from) := ⟨rfl, rfl, rfl, by decide +kernel, rfl, by decide +kernel, by decide +kernel⟩
abbrev s_steps_along : Stmt := top 22
abbrev N_steps_along : List Str := ["ways", "room", "steps", "here", "door", "there"]
theorem sc_steps_along : FnScope N_steps_along ["ways", "room"] (defScope s_steps_along) := ⟨rfl, rfl, rfl, by decide +kernel, rfl, by decide +kernel, by decide +kernel⟩
abbrev s_steps_between : Stmt := top 23
abbrev N_steps_between : List Str := ["house", "a", "b"]
theorem sc_steps_between : FnScope N_steps_between ["house", "a", "b"] (defScope s_steps_between) := ⟨rfl, rfl, rfl, by decide +kernel, rfl, by decide +kernel, by decide +kernel⟩
abbrev s_doors_between : Stmt := top 24
abbrev N_doors_between : List Str := ["house", "a", "b", "door", "start", "end"]
theorem sc_doors_between : FnScope N_doors_between ["house", "a", "b"] (defScope s_doors_between) := ⟨rfl, rfl, rfl, by decide +kernel, rfl, by decide +kernel, by decide +kernel⟩
abbrev s_is_numbered : Stmt := top 26
abbrev N_is_numbered : List Str := ["value"]
theorem sc_is_numbered : FnScope N_is_numbered ["value"] (defScope s_is_numbered) := ⟨rfl, rfl, rfl, by decide +kernel, rfl, by decide +kernel, by decide +kernel⟩
abbrev s_shared_path : Stmt := top 29
abbrev N_shared_path : List Str := ["doors", "first_open", "second_open", "taken", "left", "door"]
theorem sc_shared_path : FnScope N_shared_path ["doors", "first_open", "second_open"] (defScope s_shared_path) := ⟨rfl, rfl, rfl, by decide +kernel, rfl, by decide +kernel, by decide +kernel⟩
abbrev s_soonest_meeting : Stmt := top 30
abbrev N_soonest_meeting : List Str := ["walk", "crowds", "opened", "meetings", "first", "second", "doors", "shares"]
theorem sc_soonest_meeting : FnScope N_soonest_meeting ["walk", "crowds", "opened"] (defScope s_soonest_meeting) := ⟨rfl, rfl, rfl, by decide +kernel, rfl, by decide +kernel, by decide +kernel⟩
abbrev s_doors_not_barring : Stmt := top 31
abbrev N_doors_not_barring : List Str := ["walk", "person", "door", "who"]
theorem sc_doors_not_barring : FnScope N_doors_not_barring ["walk", "person"] (defScope s_doors_not_barring) := ⟨rfl, rfl, rfl, by decide +kernel, rfl, by decide +kernel, by decide +kernel⟩
abbrev s_meet_soonest : Stmt := top 32
abbrev N_meet_soonest : List Str := ["walk", "people", "crowds", "person", "opened", "number", "first", "second", "first_doors", "second_doors"]
theorem sc_meet_soonest : FnScope N_meet_soonest ["walk", "people"] (defScope s_meet_soonest) := ⟨rfl, rfl, rfl, by decide +kernel, rfl, by decide +kernel, by decide +kernel⟩
abbrev s_gather_in : Stmt := top 33
abbrev N_gather_in : List Str := ["walk", "people", "room", "crowd", "person"]
theorem sc_gather_in : FnScope N_gather_in ["walk", "people", "room"] (defScope s_gather_in) := ⟨rfl, rfl, rfl, by decide +kernel, rfl, by decide +kernel, by decide +kernel⟩
abbrev s_has_state_shape : Stmt := top 35
abbrev N_has_state_shape : List Str := ["house", "value", "rooms", "barred"]
theorem sc_has_state_shape : FnScope N_has_state_shape ["house", "value"] (defScope s_has_state_shape) := ⟨rfl, rfl, rfl, by decide +kernel, rfl, by decide +kernel, by decide +kernel⟩
abbrev s_check_state : Stmt := top 36
abbrev N_check_state : List Str := ["house", "value", "rooms", "barred", "person", "room", "door"]
theorem sc_check_state : FnScope N_check_state ["house", "value"] (defScope s_check_state) := ⟨rfl, rfl, rfl, by decide +kernel, rfl, by decide +kernel, by decide +kernel⟩
abbrev s_is_move : Stmt := top 37
abbrev N_is_move : List Str := ["doors", "people", "value", "person", "start", "end"]
theorem sc_is_move : FnScope N_is_move ["doors", "people", "value"] (defScope s_is_move) := ⟨rfl, rfl, rfl, by decide +kernel, rfl, by decide +kernel, by decide +kernel⟩
abbrev s_check_plan : Stmt := top 38
abbrev N_check_plan : List Str := ["house", "people", "value", "doors", "index", "move"]
theorem sc_check_plan : FnScope N_check_plan ["house", "people", "value"] (defScope s_check_plan) := ⟨rfl, rfl, rfl, by decide +kernel, rfl, by decide +kernel, by decide +kernel⟩
abbrev s_need_people : Stmt := top 39
abbrev N_need_people : List Str := ["people"]
theorem sc_need_people : FnScope N_need_people ["people"] (defScope s_need_people) := ⟨rfl, rfl, rfl, by decide +kernel, rfl, by decide +kernel, by decide +kernel⟩
abbrev s_need_state : Stmt := top 40
abbrev N_need_state : List Str := ["house", "state", "reason"]
theorem sc_need_state : FnScope N_need_state ["house", "state"] (defScope s_need_state) := ⟨rfl, rfl, rfl, by decide +kernel, rfl, by decide +kernel, by decide +kernel⟩
abbrev s_need_state_of_as_many : Stmt := top 41
abbrev N_need_state_of_as_many : List Str := ["house", "state", "other"]
theorem sc_need_state_of_as_many : FnScope N_need_state_of_as_many ["house", "state", "other"] (defScope s_need_state_of_as_many) := ⟨rfl, rfl, rfl, by decide +kernel, rfl, by decide +kernel, by decide +kernel⟩
abbrev s_need_plan : Stmt := top 42
abbrev N_need_plan : List Str := ["house", "people", "plan", "reason"]
theorem sc_need_plan : FnScope N_need_plan ["house", "people", "plan"] (defScope s_need_plan) := ⟨rfl, rfl, rfl, by decide +kernel, rfl, by decide +kernel, by decide +kernel⟩
abbrev s_need_person : Stmt := top 43
abbrev N_need_person : List Str := ["state", "person"]
theorem sc_need_person : FnScope N_need_person ["state", "person"] (defScope s_need_person) := ⟨rfl, rfl, rfl, by decide +kernel, rfl, by decide +kernel, by decide +kernel⟩
abbrev s_replaced : Stmt := top 44
abbrev N_replaced : List Str := ["values", "index", "value"]
theorem sc_replaced : FnScope N_replaced ["values", "index", "value"] (defScope s_replaced) := ⟨rfl, rfl, rfl, by decide +kernel, rfl, by decide +kernel, by decide +kernel⟩
abbrev s_played : Stmt := top 45
abbrev N_played : List Str := ["doors", "state", "plan", "rooms", "barred", "index", "person", "start", "end", "door"]
theorem sc_played : FnScope N_played ["doors", "state", "plan"] (defScope s_played) := ⟨rfl, rfl, rfl, by decide +kernel, rfl, by decide +kernel, by decide +kernel⟩
abbrev s_play : Stmt := top 46
abbrev N_play : List Str := ["house", "state", "plan"]
theorem sc_play : FnScope N_play ["house", "state", "plan"] (defScope s_play) := ⟨rfl, rfl, rfl, by decide +kernel, rfl, by decide +kernel, by decide +kernel⟩
abbrev s_doors_barring : Stmt := top 48
abbrev N_doors_barring : List Str := ["state", "person", "door", "who"]
theorem sc_doors_barring : FnScope N_doors_barring ["state", "person"] (defScope s_doors_barring) := ⟨rfl, rfl, rfl, by decide +kernel, rfl, by decide +kernel, by decide +kernel⟩
abbrev s_region_ways : Stmt := top 49
abbrev N_region_ways : List Str := ["house", "state", "person"]
theorem sc_region_ways : FnScope N_region_ways ["house", "state", "person"] (defScope s_region_ways) := ⟨rfl, rfl, rfl, by decide +kernel, rfl, by decide +kernel, by decide +kernel⟩
abbrev s_region : Stmt := top 50
abbrev N_region : List Str := ["house", "state", "person"]
theorem sc_region : FnScope N_region ["house", "state", "person"] (defScope s_region) := ⟨rfl, rfl, rfl, by decide +kernel, rfl, by decide +kernel, by decide +kernel⟩
abbrev s_walk_to : Stmt := top 51
abbrev N_walk_to : List Str := ["house", "state", "person", "room", "ways", "here", "door", "start", "end"]
theorem sc_walk_to : FnScope N_walk_to ["house", "state", "person", "room"] (defScope s_walk_to) := ⟨rfl, rfl, rfl, by decide +kernel, rfl, by decide +kernel, by decide +kernel⟩
abbrev s_is_apart : Stmt := top 52
abbrev N_is_apart : List Str := ["house", "state", "rooms", "person"]
theorem sc_is_apart : FnScope N_is_apart ["house", "state"] (defScope s_is_apart) := ⟨rfl, rfl, rfl, by decide +kernel, rfl, by decide +kernel, by decide +kernel⟩
abbrev s_walk_lengths : Stmt := top 53
abbrev N_walk_lengths : List Str := ["house", "state", "person"]
theorem sc_walk_lengths : FnScope N_walk_lengths ["house", "state"] (defScope s_walk_lengths) := ⟨rfl, rfl, rfl, by decide +kernel, rfl, by decide +kernel, by decide +kernel⟩
abbrev s_fewest_and_most : Stmt := top 54
abbrev N_fewest_and_most : List Str := ["ways", "lengths", "passed", "room", "step", "ends"]
theorem sc_fewest_and_most : FnScope N_fewest_and_most ["ways"] (defScope s_fewest_and_most) := ⟨rfl, rfl, rfl, by decide +kernel, rfl, by decide +kernel, by decide +kernel⟩
abbrev s_people_of : Stmt := top 56
abbrev N_people_of : List Str := ["state"]
theorem sc_people_of : FnScope N_people_of ["state"] (defScope s_people_of) := ⟨rfl, rfl, rfl, by decide +kernel, rfl, by decide +kernel, by decide +kernel⟩
abbrev s_first_meeting : Stmt := top 57
abbrev N_first_meeting : List Str := ["house", "state", "walk"]
theorem sc_first_meeting : FnScope N_first_meeting ["house", "state"] (defScope s_first_meeting) := ⟨rfl, rfl, rfl, by decide +kernel, rfl, by decide +kernel, by decide +kernel⟩
abbrev s_is_plan : Stmt := top 58
abbrev N_is_plan : List Str := ["house", "state", "value"]
theorem sc_is_plan : FnScope N_is_plan ["house", "state", "value"] (defScope s_is_plan) := ⟨rfl, rfl, rfl, by decide +kernel, rfl, by decide +kernel, by decide +kernel⟩
abbrev s_check_first_meeting : Stmt := top 59
abbrev N_check_first_meeting : List Str := ["house", "state", "claim"]
theorem sc_check_first_meeting : FnScope N_check_first_meeting ["house", "state", "claim"] (defScope s_check_first_meeting) := ⟨rfl, rfl, rfl, by decide +kernel, rfl, by decide +kernel, by decide +kernel⟩
abbrev s_first_meeting_fault : Stmt := top 60
abbrev N_first_meeting_fault : List Str := ["house", "state", "claim", "check_moves", "play_moves", "answer", "number", "moves", "rooms", "barred", "blocked"]
theorem sc_first_meeting_fault : FnScope N_first_meeting_fault ["house", "state", "claim", "check_moves", "play_moves", "answer"] (defScope s_first_meeting_fault) := ⟨rfl, rfl, rfl, by decide +kernel, rfl, by decide +kernel, by decide +kernel⟩
abbrev s_all_regions : Stmt := top 61
abbrev N_all_regions : List Str := ["house", "state", "person"]
theorem sc_all_regions : FnScope N_all_regions ["house", "state"] (defScope s_all_regions) := ⟨rfl, rfl, rfl, by decide +kernel, rfl, by decide +kernel, by decide +kernel⟩
abbrev s_first_elsewhere : Stmt := top 62
abbrev N_first_elsewhere : List Str := ["state", "room", "person", "here"]
theorem sc_first_elsewhere : FnScope N_first_elsewhere ["state", "room"] (defScope s_first_elsewhere) := ⟨rfl, rfl, rfl, by decide +kernel, rfl, by decide +kernel, by decide +kernel⟩
abbrev s_gather : Stmt := top 63
abbrev N_gather : List Str := ["house", "state", "room", "walk"]
theorem sc_gather : FnScope N_gather ["house", "state", "room"] (defScope s_gather) := ⟨rfl, rfl, rfl, by decide +kernel, rfl, by decide +kernel, by decide +kernel⟩
abbrev s_is_list_of_rooms : Stmt := top 64
abbrev N_is_list_of_rooms : List Str := ["value", "item"]
theorem sc_is_list_of_rooms : FnScope N_is_list_of_rooms ["value"] (defScope s_is_list_of_rooms) := ⟨rfl, rfl, rfl, by decide +kernel, rfl, by decide +kernel, by decide +kernel⟩
abbrev s_is_list_of_regions : Stmt := top 65
abbrev N_is_list_of_regions : List Str := ["value", "item"]
theorem sc_is_list_of_regions : FnScope N_is_list_of_regions ["value"] (defScope s_is_list_of_regions) := ⟨rfl, rfl, rfl, by decide +kernel, rfl, by decide +kernel, by decide +kernel⟩
abbrev s_is_gathering : Stmt := top 66
abbrev N_is_gathering : List Str := ["house", "state", "value", "word", "told"]
theorem sc_is_gathering : FnScope N_is_gathering ["house", "state", "value"] (defScope s_is_gathering) := ⟨rfl, rfl, rfl, by decide +kernel, rfl, by decide +kernel, by decide +kernel⟩
abbrev s_check_gathering : Stmt := top 67
abbrev N_check_gathering : List Str := ["house", "state", "room", "claim", "word", "told"]
theorem sc_check_gathering : FnScope N_check_gathering ["house", "state", "room", "claim"] (defScope s_check_gathering) := ⟨rfl, rfl, rfl, by decide +kernel, rfl, by decide +kernel, by decide +kernel⟩
abbrev s_gathering_fault : Stmt := top 68
abbrev N_gathering_fault : List Str := ["house", "state", "room", "plan", "after", "blocked", "person"]
theorem sc_gathering_fault : FnScope N_gathering_fault ["house", "state", "room", "plan"] (defScope s_gathering_fault) := ⟨rfl, rfl, rfl, by decide +kernel, rfl, by decide +kernel, by decide +kernel⟩
abbrev s_regions_fault : Stmt := top 69
abbrev N_regions_fault : List Str := ["house", "state", "room", "regions"]
theorem sc_regions_fault : FnScope N_regions_fault ["house", "state", "room", "regions"] (defScope s_regions_fault) := ⟨rfl, rfl, rfl, by decide +kernel, rfl, by decide +kernel, by decide +kernel⟩
abbrev s_group_marks : Stmt := top 71
abbrev N_group_marks : List Str := ["house", "state", "rooms", "barred", "marks", "grown", "door", "a", "b", "low", "high", "mark"]
theorem sc_group_marks : FnScope N_group_marks ["house", "state"] (defScope s_group_marks) := ⟨rfl, rfl, rfl, by decide +kernel, rfl, by decide +kernel, by decide +kernel⟩
abbrev s_groups : Stmt := top 72
abbrev N_groups : List Str := ["house", "state", "found", "room", "mark"]
theorem sc_groups : FnScope N_groups ["house", "state"] (defScope s_groups) := ⟨rfl, rfl, rfl, by decide +kernel, rfl, by decide +kernel, by decide +kernel⟩
abbrev s_explained_doors : Stmt := top 73
abbrev N_explained_doors : List Str := ["house", "state", "marks", "door", "a", "b"]
theorem sc_explained_doors : FnScope N_explained_doors ["house", "state"] (defScope s_explained_doors) := ⟨rfl, rfl, rfl, by decide +kernel, rfl, by decide +kernel, by decide +kernel⟩
abbrev s_last_moves : Stmt := top 74
abbrev N_last_moves : List Str := ["house", "state", "rooms", "barred", "moves", "door", "a", "b", "person", "start"]
theorem sc_last_moves : FnScope N_last_moves ["house", "state"] (defScope s_last_moves) := ⟨rfl, rfl, rfl, by decide +kernel, rfl, by decide +kernel, by decide +kernel⟩
abbrev s_count_previous : Stmt := top 75
abbrev N_count_previous : List Str := ["house", "state"]
theorem sc_count_previous : FnScope N_count_previous ["house", "state"] (defScope s_count_previous) := ⟨rfl, rfl, rfl, by decide +kernel, rfl, by decide +kernel, by decide +kernel⟩
abbrev s_state_before : Stmt := top 76
abbrev N_state_before : List Str := ["state", "rooms", "door", "before"]
theorem sc_state_before : FnScope N_state_before ["state", "rooms", "door", "before"] (defScope s_state_before) := ⟨rfl, rfl, rfl, by decide +kernel, rfl, by decide +kernel, by decide +kernel⟩
abbrev s_previous_at : Stmt := top 77
abbrev N_previous_at : List Str := ["house", "state", "index", "count", "place", "other", "rooms", "door", "person", "before"]
theorem sc_previous_at : FnScope N_previous_at ["house", "state", "index"] (defScope s_previous_at) := ⟨rfl, rfl, rfl, by decide +kernel, rfl, by decide +kernel, by decide +kernel⟩
abbrev s_previous_index : Stmt := top 78
abbrev N_previous_index : List Str := ["house", "state", "previous", "place", "rooms", "door", "person", "before", "other"]
theorem sc_previous_index : FnScope N_previous_index ["house", "state", "previous"] (defScope s_previous_index) := ⟨rfl, rfl, rfl, by decide +kernel, rfl, by decide +kernel, by decide +kernel⟩
abbrev s_l_cell : Stmt := top 80
abbrev N_l_cell : List Str := ["_law_script", "_law_index"]
theorem sc_l_cell : FnScope N_l_cell ["_law_script", "_law_index"] (defScope s_l_cell) := ⟨rfl, rfl, rfl, by decide +kernel, rfl, by decide +kernel, by decide +kernel⟩
abbrev s_l_hash : Stmt := top 81
abbrev N_l_hash : List Str := ["_law_seed", "_law_index", "_law_value"]
theorem sc_l_hash : FnScope N_l_hash ["_law_seed", "_law_index"] (defScope s_l_hash) := ⟨rfl, rfl, rfl, by decide +kernel, rfl, by decide +kernel, by decide +kernel⟩
abbrev s_l_generator : Stmt := top 82
abbrev N_l_generator : List Str := ["_law_script", "_law_index", "_law_seed"]
theorem sc_l_generator : FnScope N_l_generator ["_law_script", "_law_index"] (defScope s_l_generator) := ⟨rfl, rfl, rfl, by decide +kernel, rfl, by decide +kernel, by decide +kernel⟩
abbrev s_l_random : Stmt := top 83
abbrev N_l_random : List Str := ["_law_generator_here", "_law_bound", "_law_value", "_law_part"]
theorem sc_l_random : FnScope N_l_random ["_law_generator_here", "_law_bound"] (defScope s_l_random) := ⟨rfl, rfl, rfl, by decide +kernel, rfl, by decide +kernel, by decide +kernel⟩
abbrev s_l_shuffled : Stmt := top 84
abbrev N_l_shuffled : List Str := ["_law_generator_here", "_law_items", "_law_pool", "_law_item"]
theorem sc_l_shuffled : FnScope N_l_shuffled ["_law_generator_here", "_law_items"] (defScope s_l_shuffled) := ⟨rfl, rfl, rfl, by decide +kernel, rfl, by decide +kernel, by decide +kernel⟩
abbrev s_l_random_house : Stmt := top 85
abbrev N_l_random_house : List Str := ["_law_generator_here", "_law_size", "_law_labels", "_law_kind", "_law_doors", "_law_index", "_law_earlier", "_law_ends"]
theorem sc_l_random_house : FnScope N_l_random_house ["_law_generator_here", "_law_size"] (defScope s_l_random_house) := ⟨rfl, rfl, rfl, by decide +kernel, rfl, by decide +kernel, by decide +kernel⟩
abbrev s_l_around : Stmt := top 86
abbrev N_l_around : List Str := ["_law_layout", "_law_around_here", "_law_spot", "_law_door", "_law_one", "_law_other"]
theorem sc_l_around : FnScope N_l_around ["_law_layout"] (defScope s_l_around) := ⟨rfl, rfl, rfl, by decide +kernel, rfl, by decide +kernel, by decide +kernel⟩
abbrev s_l_random_state : Stmt := top 87
abbrev N_l_random_state : List Str := ["_law_generator_here", "_law_layout", "_law_count", "_law_rooms", "_law_who", "_law_barred", "_law_local", "_law_one", "_law_other", "_law_near", "_law_chosen"]
theorem sc_l_random_state : FnScope N_l_random_state ["_law_generator_here", "_law_layout", "_law_count"] (defScope s_l_random_state) := ⟨rfl, rfl, rfl, by decide +kernel, rfl, by decide +kernel, by decide +kernel⟩
abbrev s_l_no_previous : Stmt := top 88
abbrev N_l_no_previous : List Str := ["_law_layout", "_law_situation", "_law_error", "caught"]
theorem sc_l_no_previous : FnScope N_l_no_previous ["_law_layout", "_law_situation"] (defScope s_l_no_previous) := ⟨rfl, rfl, rfl, by decide +kernel, rfl, by decide +kernel, by decide +kernel⟩
abbrev s_l_one_room_holds : Stmt := top 89
abbrev N_l_one_room_holds : List Str := ["_law_count", "_law_situation", "_law_alone", "_law_who"]
theorem sc_l_one_room_holds : FnScope N_l_one_room_holds ["_law_count"] (defScope s_l_one_room_holds) := ⟨rfl, rfl, rfl, by decide +kernel, rfl, by decide +kernel, by decide +kernel⟩
abbrev s_l_one_person_holds : Stmt := top 90
abbrev N_l_one_person_holds : List Str := ["_law_layout", "_law_start", "_law_target", "_law_situation", "_law_expected"]
theorem sc_l_one_person_holds : FnScope N_l_one_person_holds ["_law_layout", "_law_start", "_law_target"] (defScope s_l_one_person_holds) := ⟨rfl, rfl, rfl, by decide +kernel, rfl, by decide +kernel, by decide +kernel⟩
abbrev s_l_one_place_holds : Stmt := top 91
abbrev N_l_one_place_holds : List Str := ["_law_generator_here", "_law_layout", "_law_count", "_law_place", "_law_situation", "_law_door", "_law_near", "_law_ends"]
theorem sc_l_one_place_holds : FnScope N_l_one_place_holds ["_law_generator_here", "_law_layout", "_law_count"] (defScope s_l_one_place_holds) := ⟨rfl, rfl, rfl, by decide +kernel, rfl, by decide +kernel, by decide +kernel⟩
abbrev s_law : Stmt := top 92
abbrev N_law : List Str := ["_law_script", "_law_cell_here", "_law_generator_here", "_law_layout", "_law_start", "_law_target"]
theorem sc_law : FnScope N_law ["_law_script"] (defScope s_law) := ⟨rfl, rfl, rfl, by decide +kernel, rfl, by decide +kernel, by decide +kernel⟩
abbrev s_Walk_init : Stmt := mem 0 (top 28)
abbrev N_Walk_init : List Str := ["self", "house", "state"]
theorem sc_Walk_init : FnScope N_Walk_init ["self", "house", "state"] (defScope s_Walk_init) := ⟨rfl, rfl, rfl, by decide +kernel, rfl, by decide +kernel, by decide +kernel⟩
abbrev s_Walk_step : Stmt := mem 1 (top 28)
abbrev N_Walk_step : List Str := ["self", "person", "door", "a", "b", "start", "end"]
theorem sc_Walk_step : FnScope N_Walk_step ["self", "person", "door"] (defScope s_Walk_step) := ⟨rfl, rfl, rfl, by decide +kernel, rfl, by decide +kernel, by decide +kernel⟩
abbrev s_Walk_cross : Stmt := mem 2 (top 28)
abbrev N_Walk_cross : List Str := ["self", "crowd", "door", "late", "person", "who"]
theorem sc_Walk_cross : FnScope N_Walk_cross ["self", "crowd", "door"] (defScope s_Walk_cross) := ⟨rfl, rfl, rfl, by decide +kernel, rfl, by decide +kernel, by decide +kernel⟩
abbrev s_Walk_lead : Stmt := mem 3 (top 28)
abbrev N_Walk_lead : List Str := ["self", "crowd", "doors", "door"]
theorem sc_Walk_lead : FnScope N_Walk_lead ["self", "crowd", "doors"] (defScope s_Walk_lead) := ⟨rfl, rfl, rfl, by decide +kernel, rfl, by decide +kernel, by decide +kernel⟩
abbrev s_Walk_doors_to : Stmt := mem 4 (top 28)
abbrev N_Walk_doors_to : List Str := ["self", "person", "room"]
theorem sc_Walk_doors_to : FnScope N_Walk_doors_to ["self", "person", "room"] (defScope s_Walk_doors_to) := ⟨rfl, rfl, rfl, by decide +kernel, rfl, by decide +kernel, by decide +kernel⟩
/-- the built-ins that the text calls stand as they were -/
structure Bl (mg : Str → Option Value) : Prop where
  len : mg "len" = none
  isinstance : mg "isinstance" = none
  enumerate : mg "enumerate" = none
  range : mg "range" = none
  list : mg "list" = none
  set : mg "set" = none
  sorted : mg "sorted" = none
  max : mg "max" = none
  min : mg "min" = none
  tuple : mg "tuple" = none
  int : mg "int" = none
  bool : mg "bool" = none
  all : mg "all" = none
  sum : mg "sum" = none
  divmod : mg "divmod" = none

/-- a house at a: a tuple of tuples -/
def HouseAt (K : PySem.W.Frag) (H : Hp) (a : Addr) (ds : List (Nat × Nat)) : Prop :=
  ∃ rs : List Addr, SqT K H a (rs.map V.ref) ∧ rs.length = ds.length ∧ ∀ (d : Nat) (r : Addr) (e : Nat × Nat), rs[d]? = some r → ds[d]? = some e → SqT K H r [.int e.1, .int e.2]
section
variable {K : PySem.W.Frag} {H H' : Hp} {a g : Addr} {ds : List (Nat × Nat)}
theorem HouseAt.same (h : HouseAt K H a ds) (s : Same H H') : HouseAt K H' a ds := by
  obtain ⟨rs, h1, h2, h3⟩ := h
  exact ⟨rs, s.tup h1, h2, fun d r e x y => s.tup (h3 d r e x y)⟩
theorem HouseAt.but {xs : List V} (h : HouseAt K H a ds) (hg : H g = some (.lst xs)) (s : But g H H') : HouseAt K H' a ds := by
  obtain ⟨rs, h1, h2, h3⟩ := h
  exact ⟨rs, s.tup hg h1, h2, fun d r e x y => s.tup hg (h3 d r e x y)⟩
theorem ty_tup {xs : List V} (h : SqT K H a xs) : TyX K H (.ref a) (.type "tuple") := by
  rcases h with (h | ⟨o, h⟩) | ⟨o, its, n, h, c, _⟩
  · exact .base (.tup h)
  · exact .fTuple h
  · exact .kTuple h c
end
end K5

namespace K5
open PySem PySem.Spec PyProof.Rows L2
def spWhole : Sp := fun vs H Q _ => ∃ i : Int, vs = [.int i] ∧ Q (.bl true) H
def spIndex : Sp := fun vs H Q _ => ∃ i n : Int, vs = [.int i, .int n] ∧ Q (.bl (decide (0 ≤ i ∧ i < n))) H
def spDoor (K : PySem.W.Frag) : Sp := fun vs H Q _ => ∃ (a : Addr) (x y n : Int), vs = [.ref a, .int n] ∧ SqT K H a [.int x, .int y] ∧ (0 ≤ x ∧ x < n) ∧ (0 ≤ y ∧ y < n) ∧ x ≠ y ∧ Q (.bl true) H
section
variable {P : Program} {w : World} {K : PySem.W.Frag}
      {mg : Str → Option Value} {base : Heap}
theorem ok_is_whole (T : Bl mg) (D : Def K mg "is_whole" s_is_whole) : Cal P w K mg base "is_whole" ["value"] 1 spWhole := by
  refine D.ok sc_is_whole (fun _ _ _ _ _ _ us hl => match us, hl with | [_], _ => rfl) (fun vs H Q E h => ?_) (fun f cdv A outer s H vs Q E hr h => ?_)
  · obtain ⟨i, rfl, _⟩ := h
    rfl
  obtain ⟨i, rfl, q⟩ := h
  refine ⟨_, (pss_one (ps_ret (pe_and (pe_callB call_isi (by rfl) T.isinstance (by decide +kernel) (pa_cons (pv 0) (pa_cons (pe_bltn (v := .ty "int") (u := .type "int") (by rfl) T.int (by decide +kernel) rfl) pa_nil))) (pe_one (pe_not (pe_callB call_isi (by rfl) T.isinstance (by decide +kernel) (pa_cons (pv 0) (pa_cons (pe_bltn (v := .ty "bool") (u := .type "bool") (by rfl) T.bool (by decide +kernel) rfl) pa_nil)))))))), ?_⟩
  refine ⟨_, rfl, _, _, _, _, _, rfl, .ty _, .base (.int _), kit_ty (r := true) (by decide +kernel), _, rfl, iteT ?_⟩
  refine ⟨_, rfl, _, _, _, _, _, rfl, .ty _, .base (.int _), kit_ty (r := false) (by decide +kernel), _, rfl, q⟩
theorem ok_is_index (T : Bl mg) (D : Def K mg "is_index" s_is_index) (C_is_whole : Cal P w K mg base "is_whole" ["value"] 1 spWhole) : Cal P w K mg base "is_index" ["value", "count"] 2 spIndex := by
  refine D.ok sc_is_index (fun _ _ _ _ _ _ us hl => match us, hl with | [_, _], _ => rfl) (fun vs H Q E h => ?_) (fun f cdv A outer s H vs Q E hr h => ?_)
  · obtain ⟨i, n, rfl, _⟩ := h
    rfl
  obtain ⟨i, n, rfl, q⟩ := h
  obtain ⟨f_is_whole, fd_is_whole, g_is_whole, k_is_whole, b_is_whole, G_is_whole⟩ := C_is_whole
  refine ⟨_, (pss_one (ps_ret (pe_and (pe_call G_is_whole (hr.mono (by decide)) (by rfl) g_is_whole k_is_whole b_is_whole .nil pass0 (pa_cons (pv 0) pa_nil)) (pe_one (pe_chain op_le op_lt pe_int (pv 0) (pv 1)))))), ?_⟩
  refine ⟨_, rfl, _, rfl, _, rfl, iteT ?_⟩
  refine ⟨_, rfl, _, _, rfl, rfl, _, rfl, ite2 (fun h => ?_) (fun h => ?_)⟩
  · have h := of_decide_eq_true h
    refine ⟨_, rfl, _, _, rfl, rfl, ?_⟩
    have e : decide (i < n) = decide (0 ≤ i ∧ i < n) := by simp [h]
    show Q (.bl (decide (i < n))) H
    rw [e]
    exact q
  · have e : false = decide (0 ≤ i ∧ i < n) := by
      have h : ¬ 0 ≤ i := fun z => h (decide_eq_true z)
      simp [h]
    show Q (.bl false) H
    rw [e]
    exact q
theorem ok_is_door (T : Bl mg) (D : Def K mg "is_door" s_is_door) (C_is_index : Cal P w K mg base "is_index" ["value", "count"] 2 spIndex) : Cal P w K mg base "is_door" ["value", "count"] 3 (spDoor K) := by
  refine D.ok sc_is_door (fun _ _ _ _ _ _ us hl => match us, hl with | [_, _], _ => rfl) (fun vs H Q E h => ?_) (fun f cdv A outer s H vs Q E hr h => ?_)
  · obtain ⟨a, x, y, n, rfl, _⟩ := h
    rfl
  obtain ⟨a, x, y, n, rfl, ht, hx, hy, hne, q⟩ := h
  obtain ⟨f_is_index, fd_is_index, g_is_index, k_is_index, b_is_index, G_is_index⟩ := C_is_index
  refine ⟨_, (pss_cons (ps_if (PW.pt (pw_or (pt_not (pt_val (pe_callB call_isi (by rfl) T.isinstance (by decide +kernel) (pa_cons (pv 0) (pa_cons (pe_bltn (v := .ty "tuple") (u := .type "tuple") (by rfl) T.tuple (by decide +kernel) rfl) pa_nil))))) (pw_or1 (pt_cmpR op_ne (pe_callB call_len_seq (by rfl) T.len PySem.boot_len (pa_cons (pv 0) pa_nil)) pe_int (nomark _))))) (pss_one (ps_ret pe_bl)) pss_nil)
    (pss_cons (ps_asg (pv 0) (pg_tup (n := 2) rfl (pgs_cons (pg_name (i := 2) sc_is_door.nd rfl (.inl rfl)) (pgs_cons (pg_name (i := 3) sc_is_door.nd rfl (.inl rfl)) pgs_nil))))
    (pss_one (ps_ret (pe_and (pe_call G_is_index (hr.mono (by decide)) (by rfl) g_is_index k_is_index b_is_index .nil pass0 (pa_cons (pv 2) (pa_cons (pv 1) pa_nil))) (pe_and (pe_call G_is_index (hr.mono (by decide)) (by rfl) g_is_index k_is_index b_is_index .nil pass0 (pa_cons (pv 3) (pa_cons (pv 1) pa_nil))) (pe_one (pe_cmpR op_ne (pv 2) (pv 3) (nomark _))))))))), ?_⟩
  refine ⟨_, rfl, _, _, _, _, _, rfl, .ty _, ty_tup ht, kit_ty (r := true) (by decide +kernel), _, rfl, iteF ?_⟩
  refine ⟨_, rfl, _, _, rfl, .inr ht, rfl, _, rfl, iteF ?_⟩
  refine ⟨_, rfl, _, _, rfl, ht, rfl, _, _, rfl, _, _, rfl, rfl, ?_⟩
  refine ⟨_, rfl, _, rfl, _, _, rfl, _, rfl, ?_⟩
  rw [decide_eq_true hx]
  refine iteT ⟨_, rfl, _, rfl, _, _, rfl, _, rfl, ?_⟩
  rw [decide_eq_true hy]
  refine iteT ⟨_, rfl, _, rfl, rfl, ?_⟩
  rw [decide_eq_false (show ¬ V.int x = V.int y from fun z => hne (V.int.inj z))]
  exact q
end
end K5

namespace K5
open PySem PySem.Spec PyProof.Rows L2
/-- a list of numbers as values -/
def nv (L : List Nat) : List V := L.map fun (x : Nat) => V.int (x : Int)
theorem nv_len (L : List Nat) : (nv L).length = L.length := by unfold nv; rw [List.length_map]
theorem nv_get {L : List Nat} {x y : Nat} (h : L[x]? = some y) : (nv L)[x]? = some (.int (y : Int)) := by
  unfold nv
  rw [List.getElem?_map, h]
  rfl
theorem nv_set (L : List Nat) (x y : Nat) : (nv L).set x (.int (y : Int)) = nv (L.set x y) := by
  unfold nv
  rw [List.map_set]
theorem nv_at {L : List Nat} {x y : Nat} (h : L[x]? = some y) : atI (nv L) (x : Int) = some (.int (y : Int)) := atI_nat (nv_get h)
theorem ixN_nat {n x : Nat} (h : x < n) : ixN n (x : Int) = some x := by
  unfold ixN
  rw [if_pos (by omega), if_pos (by omega), Int.toNat_natCast]
theorem upd_self {H : Hp} {p : Addr} {o : HO} (h : H p = some o) : upd H p o = H := by
  funext b
  unfold upd
  by_cases e : b = p
  · rw [if_pos e, e, h]
  · rw [if_neg e]
theorem get_of {α : Type} {L : List α} {n x : Nat} (h : L.length = n) (hx : x < n) : ∃ y, L[x]? = some y := ⟨_, List.getElem?_eq_getElem (h ▸ hx)⟩
theorem rgV_nat (n : Nat) : rgV 0 (n : Int) = nv (List.range n) := by
  unfold rgV nv
  rw [show ((n : Int) - 0).toNat = n by omega]
  apply List.map_congr_left
  intro i _
  rw [Int.zero_add]
theorem dec_ne {i j : Int} (h : i ≠ j) : decide (V.int i = V.int j) = false := decide_eq_false fun z => h (V.int.inj z)
theorem dec_eq (i : Int) : decide (V.int i = V.int i) = true := decide_eq_true rfl
def spFind : Sp := fun vs H Q _ => ∃ (p : Addr) (L : List Nat) (n : Nat) (rank : Nat → Nat) (R : Nat → Nat → Prop) (room : Nat), vs = [.ref p, .int (room : Int)] ∧ H p = some (.lst (nv L)) ∧ Uf n L rank R ∧
  (∀ a b c, R a b → R b c → R a c) ∧ (∀ a, R a a) ∧ room < n ∧ ∀ (L' : List Nat) (r : Nat), Uf n L' rank R → R room r → L'[r]? = some r → (∀ x : Nat, L[x]? = some x → L'[x]? = some x) → Q (.int (r : Nat)) (upd H p (.lst (nv L')))
def spRing (K : PySem.W.Frag) : Sp := fun vs H Q _ => ∃ (a : Addr) (ds : List (Nat × Nat)) (n : Nat), vs = [.ref a] ∧ HouseAt K H a ds ∧ Tree n ds ∧ n ≤ 1000 ∧ ∀ H', Same H H' → Q .non H'
section
variable {P : Program} {w : World} {K : PySem.W.Frag}
      {mg : Str → Option Value} {base : Heap}
theorem ok_find_root (T : Bl mg) (D : Def K mg "find_root" s_find_root) : Cal P w K mg base "find_root" ["links", "room"] 1 spFind := by
  refine D.ok sc_find_root (fun _ _ _ _ _ _ us hl => match us, hl with | [_, _], _ => rfl) (fun vs H Q E h => ?_) (fun f cdv A outer s H vs Q E hr h => ?_)
  · obtain ⟨p, L, n, rank, R, room, rfl, _⟩ := h
    rfl
  obtain ⟨p, L, n, rank, R, room, rfl, hp, u, tr, rf, hlt, q⟩ := h
  refine ⟨_, (pss_cons (ps_while PassesOwn.never (pt_cmpR op_ne (pe_ix ix_list (pv 0) (pv 1) (fun _ _ => rfl)) (pv 1) (nomark _)) (pss_cons (ps_asg (pe_ix ix_list (pv 0) (pe_ix ix_list (pv 0) (pv 1) (fun _ _ => rfl)) (fun _ _ => rfl)) (pg_sub (pv 0) (pv 1) set_list))
    (pss_one (ps_set (i := 1) sc_find_root.nd rfl (.inl rfl) (pe_ix ix_list (pv 0) (pv 1) (fun _ _ => rfl))))))
    (pss_one (ps_ret (pv 1)))), ?_⟩
  refine ⟨fun m σ H1 => ∃ (L1 : List Nat) (r : Nat), m = rank r ∧ σ = [some (.ref p), some (.int (r : Nat))] ∧ H1 = upd H p (.lst (nv L1)) ∧ Uf n L1 rank R ∧ R room r ∧ r < n ∧ ∀ x : Nat, L[x]? = some x → L1[x]? = some x, ⟨rank room, L, room, rfl, rfl, (upd_self hp).symm, u, rf _, hlt, fun _ h => h⟩, fun m σ H1 hW => ?_⟩
  obtain ⟨L1, r, rfl, rfl, rfl, u1, rr, hr1, ro⟩ := hW
  obtain ⟨y, hy⟩ := get_of u1.len hr1
  refine ⟨_, rfl, _, rfl, _, _, _, _, rfl, rfl, SqL.of upd_same, nv_at hy, _, rfl, rfl, _, rfl, ?_⟩
  by_cases e : y = r
  · subst e
    rw [dec_eq]
    exact iteF ⟨_, rfl, q L1 y u1 rr hy ro⟩
  · rw [dec_ne (by omega)]
    obtain ⟨z, hz⟩ := get_of u1.len (u1.at_ _ _ hy).1
    refine iteT ⟨fun σ' H' => ∃ (L2 : List Nat) (r2 : Nat), rank r2 < rank r ∧ σ' = [some (.ref p), some (.int (r2 : Nat))] ∧ H' = upd H p (.lst (nv L2)) ∧ Uf n L2 rank R ∧ R room r2 ∧ r2 < n ∧ ∀ x : Nat, L[x]? = some x → L2[x]? = some x, fun σ' H' ⟨L2, r2, h1, h2⟩ => ⟨_, h1, L2, r2, rfl, h2⟩, ?_⟩
    refine ⟨_, rfl, _, rfl, _, rfl, _, _, _, _, rfl, rfl, SqL.of upd_same, nv_at hy, _, _, _, _, rfl, rfl, SqL.of upd_same, nv_at hz, ?_⟩
    refine ⟨_, rfl, _, rfl, _, _, _, r, rfl, rfl, upd_same, ixN_nat (by rw [nv_len, u1.len]; exact hr1), ?_⟩
    rw [upd_upd, nv_set]
    have hz' : (L1.set r z)[r]? = some z := by
      rw [List.getElem?_set_self (by rw [u1.len]; exact hr1)]
    refine ⟨_, rfl, _, rfl, _, _, _, _, rfl, rfl, SqL.of upd_same, nv_at hz', ?_⟩
    have a1 := u1.at_ _ _ hy
    have a2 := u1.at_ _ _ hz
    refine ⟨L1.set r z, z, u1.less hy hz e, rfl, rfl, u1.half tr hy hz, tr _ _ _ rr (tr _ _ _ a1.2.1 a2.2.1), a2.1, fun x hx => ?_⟩
    have h1 := ro x hx
    have ne : r ≠ x := fun z => by
      subst z
      rw [h1] at hy
      exact e (Option.some.inj hy).symm
    rw [List.getElem?_set_ne ne]
    exact h1
theorem ok_first_ring (T : Bl mg) (D : Def K mg "first_ring" s_first_ring) (C_find_root : Cal P w K mg base "find_root" ["links", "room"] 1 spFind) : Cal P w K mg base "first_ring" ["doors"] 2 (spRing K) := by
  refine D.ok sc_first_ring (fun _ _ _ _ _ _ us hl => match us, hl with | [_], _ => rfl) (fun vs H Q E h => ?_) (fun f cdv A outer s H vs Q E hr h => ?_)
  · obtain ⟨a, ds, n, rfl, _⟩ := h
    rfl
  obtain ⟨a, ds, n, rfl, hH, tree, hn, q⟩ := h
  obtain ⟨rs, hrs, hlen, hds⟩ := id hH
  obtain ⟨side, s1, s2⟩ := tree.side
  have hdn := tree.len
  obtain ⟨f_find_root, fd_find_root, g_find_root, k_find_root, b_find_root, G_find_root⟩ := C_find_root
  refine ⟨_, (pss_cons (ps_set (i := 1) sc_first_ring.nd rfl (.inl rfl) (pe_listRg rfl (by rfl) T.list (prg_1 (by rfl) T.range (pe_op op_add (pe_callB call_len_seq (by rfl) T.len PySem.boot_len (pa_cons (pv 0) pa_nil)) pe_int))))
    (pss_cons (ps_for PassesOwn.never rfl (pi_enumT (by rfl) T.enumerate (pa_cons (pv 0) pa_nil)) (pg_tup (n := 2) rfl (pgs_cons (pg_name (i := 2) sc_first_ring.nd rfl (.inl rfl)) (pgs_cons (pg_tup (n := 2) rfl (pgs_cons (pg_name (i := 3) sc_first_ring.nd rfl (.inl rfl)) (pgs_cons (pg_name (i := 4) sc_first_ring.nd rfl (.inl rfl)) pgs_nil))) pgs_nil)))
    (pss_cons (ps_set (i := 5) sc_first_ring.nd rfl (.inl rfl) (pe_call G_find_root (hr.mono (by decide)) (by rfl) g_find_root k_find_root b_find_root .nil pass0 (pa_cons (pv 1) (pa_cons (pv 3) pa_nil))))
    (pss_cons (ps_set (i := 6) sc_first_ring.nd rfl (.inl rfl) (pe_call G_find_root (hr.mono (by decide)) (by rfl) g_find_root k_find_root b_find_root .nil pass0 (pa_cons (pv 1) (pa_cons (pv 4) pa_nil))))
    (pss_cons (ps_if (pt_cmpR op_eq (pv 5) (pv 6) (nomark _)) (pss_one (ps_ret (pv 2))) pss_nil)
    (pss_one (ps_asg (pv 6) (pg_sub (pv 1) (pv 5) set_list)))))))
    (pss_one (ps_ret pe_non)))), ?_⟩
  have e1 : (((rs.map V.ref).length : Nat) : Int) + 1 = ((n : Nat) : Int) := by
    rw [List.length_map, hlen]
    omega
  refine ⟨_, rfl, _, _, rfl, .inr hrs, _, _, rfl, rfl, _, rfl, .of_le (Int.le_refl _) (by omega) (by omega) (by omega), fun q0 nq => ?_⟩
  rw [e1, rgV_nat]
  refine ⟨_, rfl, a, _, rfl, (Same.upd nq).tup hrs, ?_⟩
  refine for_it (walk_enumT (K := K) (a := a) (xs := rs.map V.ref)) (fun k σ H1 => ∃ L rank y2 y3 y4 y5 y6, σ = [some (.ref a), some (.ref q0), y2, y3, y4, y5, y6] ∧ Same H H1 ∧ H1 q0 = some (.lst (nv L)) ∧ Uf n L rank (Rk side k))
    ⟨_, _, _, _, _, _, _, rfl, Same.upd nq, upd_same, Uf.range n _ Rk.rf⟩ (fun i σ H1 _ ⟨_, _, _, _, _, _, _, _, sm, _⟩ => sm.tup hrs) ?_ ?_
  · rintro k x σ H1 H2 hk ⟨L, rank, y2, y3, y4, y5, y6, rfl, sm, hq0, u⟩ ⟨t, x1, x2, rfl, nt, rfl, ex1, ex2⟩
    cases ex1
    have hk' : k < ds.length := by
      rw [List.length_map, hlen] at hk
      exact hk
    obtain ⟨e, he⟩ : ∃ e, ds[k]? = some e := get_of rfl hk'
    obtain ⟨r, hr0⟩ : ∃ r, rs[k]? = some r := get_of hlen hk'
    have ex2' : V.ref r = x2 := by
      have ex2 : (rs.map V.ref)[k]? = some x2 := ex2
      rw [List.getElem?_map, hr0] at ex2
      exact Option.some.inj ex2
    subst ex2'
    have sm2 : Same H1 (upd H1 t (.tup [.int (k : Nat), .ref r])) := Same.upd nt
    have hrd := sm2.tup (sm.tup (hds k r e hr0 he))
    have hq2 := sm2 _ _ hq0
    have elt := tree.lt e (List.mem_of_getElem? he)
    refine ⟨t, _, rfl, SqT.of upd_same, rfl, _, _, rfl, _, _, rfl, ⟨r, _, rfl, hrd, rfl, _, _, rfl, _, _, rfl, rfl, rfl, ?_⟩⟩
    refine ⟨_, rfl, _, rfl, q0, L, n, rank, Rk side k, e.1, rfl, hq2, u, Rk.tr, Rk.rf, elt.1, fun L1 ra u1 hra rta _ => ?_⟩
    refine ⟨_, rfl, _, rfl, q0, L1, n, rank, Rk side k, e.2, rfl, upd_same, u1, Rk.tr, Rk.rf, elt.2, fun L2 rb u2 hrb rtb ro2 => ?_⟩
    rw [upd_upd]
    refine ⟨_, rfl, _, rfl, rfl, _, rfl, ?_⟩
    have nab : ra ≠ rb := fun z => ring_no s1 he hra (z ▸ hrb)
    show if decide (V.int (ra : Int) = V.int (rb : Int)) = true then _ else _
    rw [dec_ne (by omega)]
    refine iteF ?_
    have rta2 := ro2 ra rta
    refine ⟨_, rfl, _, rfl, _, rfl, _, _, _, ra, rfl, rfl, upd_same, ixN_nat (by rw [nv_len]; exact get_lt rta2), ?_⟩
    rw [upd_upd, nv_set]
    exact ⟨_, _, _, _, _, _, _, rfl, (sm.trans sm2).at nq, upd_same, u2.union s1 s2 he hra hrb rta2 rtb⟩
  · rintro σ H1 ⟨L, rank, y2, y3, y4, y5, y6, rfl, sm, hq0, u⟩
    exact q H1 sm
end
end K5

namespace K5
open PySem PySem.Spec PyProof.Rows L2
def spNeedRoom (K : PySem.W.Frag) : Sp := fun vs H Q _ => ∃ (a : Addr) (ds : List (Nat × Nat)) (x : Int), vs = [.ref a, .int x] ∧ HouseAt K H a ds ∧ 0 ≤ x ∧ x < ds.length + 1 ∧ Q .non H
def spNeedDoor (K : PySem.W.Frag) : Sp := fun vs H Q _ => ∃ (a : Addr) (ds : List (Nat × Nat)) (x : Int), vs = [.ref a, .int x] ∧ HouseAt K H a ds ∧ 0 ≤ x ∧ x < ds.length ∧ Q .non H
section
variable {P : Program} {w : World} {K : PySem.W.Frag}
      {mg : Str → Option Value} {base : Heap}
theorem ok_check_house (T : Bl mg) (D : Def K mg "check_house" s_check_house) (C_is_door : Cal P w K mg base "is_door" ["value", "count"] 3 (spDoor K)) (C_first_ring : Cal P w K mg base "first_ring" ["doors"] 2 (spRing K)) :
    Cal P w K mg base "check_house" ["value"] 4 (spRing K) := by
  refine D.ok sc_check_house (fun _ _ _ _ _ _ us hl => match us, hl with | [_], _ => rfl) (fun vs H Q E h => ?_) (fun f cdv A outer s H vs Q E hr h => ?_)
  · obtain ⟨a, ds, n, rfl, _⟩ := h
    rfl
  obtain ⟨a, ds, n, rfl, hH, tree, hn, q⟩ := h
  obtain ⟨rs, hrs, hlen, hds⟩ := id hH
  have hdn := tree.len
  obtain ⟨f_is_door, fd_is_door, g_is_door, k_is_door, b_is_door, G_is_door⟩ := C_is_door
  obtain ⟨f_first_ring, fd_first_ring, g_first_ring, k_first_ring, b_first_ring, G_first_ring⟩ := C_first_ring
  refine ⟨_, (pss_cons (ps_if (pt_not (pt_val (pe_callB call_isi (by rfl) T.isinstance (by decide +kernel) (pa_cons (pv 0) (pa_cons (pe_bltn (v := .ty "tuple") (u := .type "tuple") (by rfl) T.tuple (by decide +kernel) rfl) pa_nil))))) (pss_one (ps_ret (pe_tup (pa_cons pe_str pa_nil)))) pss_nil)
    (pss_cons (ps_for PassesOwn.never rfl (pi_enumT (by rfl) T.enumerate (pa_cons (pv 0) pa_nil)) (pg_tup (n := 2) rfl (pgs_cons (pg_name (i := 1) sc_check_house.nd rfl (.inl rfl)) (pgs_cons (pg_name (i := 2) sc_check_house.nd rfl (.inl rfl)) pgs_nil)))
    (pss_one (ps_if (pt_not (pt_val (pe_call G_is_door (hr.mono (by decide)) (by rfl) g_is_door k_is_door b_is_door .nil pass0 (pa_cons (pv 2) (pa_cons (pe_op op_add (pe_callB call_len_seq (by rfl) T.len PySem.boot_len (pa_cons (pv 0) pa_nil)) pe_int) pa_nil))))) (pss_one (ps_ret (pe_tup (pa_cons pe_str (pa_cons (pv 1) pa_nil))))) pss_nil)))
    (pss_cons (ps_set (i := 3) sc_check_house.nd rfl (.inl rfl) (pe_call G_first_ring (hr.mono (by decide)) (by rfl) g_first_ring k_first_ring b_first_ring .nil pass0 (pa_cons (pv 0) pa_nil)))
    (pss_cons (ps_if (pt_cmpR op_notN (pv 3) pe_non (nomark _)) (pss_one (ps_ret (pe_tup (pa_cons pe_str (pa_cons (pv 3) pa_nil))))) pss_nil)
    (pss_one (ps_ret pe_non)))))), ?_⟩
  refine ⟨_, rfl, _, _, _, _, _, rfl, .ty _, ty_tup hrs, kit_ty (r := true) (by decide +kernel), _, rfl, iteF ?_⟩
  refine ⟨_, rfl, a, _, rfl, hrs, ?_⟩
  refine for_it (walk_enumT (K := K) (a := a) (xs := rs.map V.ref)) (fun k σ H1 => ∃ y1 y2 y3, σ = [some (.ref a), y1, y2, y3] ∧ Same H H1)
    ⟨_, _, _, rfl, Same.refl _⟩ (fun i σ H1 _ ⟨_, _, _, _, sm⟩ => sm.tup hrs) ?_ ?_
  · rintro k x σ H1 H2 hk ⟨y1, y2, y3, rfl, sm⟩ ⟨t, x1, x2, rfl, nt, rfl, ex1, ex2⟩
    cases ex1
    have hk' : k < ds.length := by
      rw [List.length_map, hlen] at hk
      exact hk
    obtain ⟨e, he⟩ : ∃ e, ds[k]? = some e := get_of rfl hk'
    obtain ⟨r, hr0⟩ : ∃ r, rs[k]? = some r := get_of hlen hk'
    have ex2' : V.ref r = x2 := by
      have ex2 : (rs.map V.ref)[k]? = some x2 := ex2
      rw [List.getElem?_map, hr0] at ex2
      exact Option.some.inj ex2
    subst ex2'
    have sm2 : Same H1 (upd H1 t (.tup [.int (k : Nat), .ref r])) := Same.upd nt
    have sm3 := sm.trans sm2
    have elt := tree.lt e (List.mem_of_getElem? he)
    obtain ⟨side, s1, s2⟩ := tree.side
    have ene : e.1 ≠ e.2 := fun z => s1 k e he (by rw [z])
    refine ⟨t, _, rfl, SqT.of upd_same, rfl, _, _, rfl, _, _, rfl, rfl, ?_⟩
    refine ⟨_, rfl, _, rfl, _, _, rfl, .inr (sm3.tup hrs), _, _, rfl, rfl, ?_⟩
    refine ⟨r, e.1, e.2, _, rfl, sm3.tup (hds k r e hr0 he), ?_, ?_, by omega, _, rfl, iteF ⟨_, _, _, rfl, sm3⟩⟩
    · rw [List.length_map, hlen]; omega
    · rw [List.length_map, hlen]; omega
  · rintro σ H1 ⟨y1, y2, y3, rfl, sm⟩
    refine ⟨_, rfl, a, ds, n, rfl, hH.same sm, tree, hn, fun H2 sm2 => ?_⟩
    refine ⟨_, rfl, rfl, _, rfl, iteF ?_⟩
    exact q H2 (sm.trans sm2)
theorem ok_need_house (T : Bl mg) (D : Def K mg "need_house" s_need_house) (C_check_house : Cal P w K mg base "check_house" ["value"] 4 (spRing K)) : Cal P w K mg base "need_house" ["house"] 5 (spRing K) := by
  refine D.ok sc_need_house (fun _ _ _ _ _ _ us hl => match us, hl with | [_], _ => rfl) (fun vs H Q E h => ?_) (fun f cdv A outer s H vs Q E hr h => ?_)
  · obtain ⟨a, ds, n, rfl, _⟩ := h
    rfl
  obtain ⟨a, ds, n, rfl, hH, tree, hn, q⟩ := h
  obtain ⟨f_check_house, fd_check_house, g_check_house, k_check_house, b_check_house, G_check_house⟩ := C_check_house
  refine ⟨_, (pss_cons (ps_set (i := 1) sc_need_house.nd rfl (.inl rfl) (pe_call G_check_house (hr.mono (by decide)) (by rfl) g_check_house k_check_house b_check_house .nil pass0 (pa_cons (pv 0) pa_nil)))
    (pss_one (ps_if (pt_cmpR op_notN (pv 1) pe_non (nomark _)) pss_never pss_nil))), ?_⟩
  refine ⟨_, rfl, a, ds, n, rfl, hH, tree, hn, fun H2 sm2 => ⟨_, rfl, rfl, _, rfl, iteF ?_⟩⟩
  exact q H2 sm2
theorem ok_need_room (T : Bl mg) (D : Def K mg "need_room" s_need_room) (C_is_index : Cal P w K mg base "is_index" ["value", "count"] 2 spIndex) : Cal P w K mg base "need_room" ["house", "room"] 3 (spNeedRoom K) := by
  refine D.ok sc_need_room (fun _ _ _ _ _ _ us hl => match us, hl with | [_, _], _ => rfl) (fun vs H Q E h => ?_) (fun f cdv A outer s H vs Q E hr h => ?_)
  · obtain ⟨a, ds, x, rfl, _⟩ := h
    rfl
  obtain ⟨a, ds, x, rfl, hH, h0, h1, q⟩ := h
  obtain ⟨rs, hrs, hlen, hds⟩ := id hH
  obtain ⟨f_is_index, fd_is_index, g_is_index, k_is_index, b_is_index, G_is_index⟩ := C_is_index
  refine ⟨_, (pss_one (ps_if (pt_not (pt_val (pe_call G_is_index (hr.mono (by decide)) (by rfl) g_is_index k_is_index b_is_index .nil pass0 (pa_cons (pv 1) (pa_cons (pe_op op_add (pe_callB call_len_seq (by rfl) T.len PySem.boot_len (pa_cons (pv 0) pa_nil)) pe_int) pa_nil))))) pss_never pss_nil)), ?_⟩
  refine ⟨_, rfl, _, rfl, _, _, rfl, .inr hrs, _, _, rfl, rfl, _, _, rfl, _, rfl, ?_⟩
  rw [decide_eq_true (by rw [List.length_map, hlen]; omega)]
  exact iteF q
end
end K5

namespace K5
open PySem PySem.Spec PyProof.Rows L2
/-- a list at q of pairs of numbers, each a tuple -/
def PairsAt (H : Hp) (q : Addr) (l : List (Nat × Nat)) : Prop :=
  ∃ ts : List Addr, H q = some (.lst (ts.map V.ref)) ∧ ts.length = l.length ∧ ∀ (i : Nat) (t : Addr) (e : Nat × Nat), ts[i]? = some t → l[i]? = some e → H t = some (.tup [.int e.1, .int e.2])
theorem PairsAt.same {H H' : Hp} {q : Addr} {l} (h : PairsAt H q l) (s : Same H H') : PairsAt H' q l := by
  obtain ⟨ts, h1, h2, h3⟩ := h
  exact ⟨ts, s _ _ h1, h2, fun i t e a b => s _ _ (h3 i t e a b)⟩
theorem ne_lt {H : Hp} {a b : Addr} {xs ys : List V} (h : H a = some (.lst xs)) (h' : H b = some (.tup ys)) : b ≠ a := ne_of h' h (by intro z; cases z)
/-- what stands aside of q keeps -/
theorem PairsAt.aside {H H' : Hp} {q p : Addr} {l} {xs : List V} (h : PairsAt H q l) (hp : H p = some (.lst xs)) (ne : q ≠ p) (s : But p H H') : PairsAt H' q l := by
  obtain ⟨ts, h1, h2, h3⟩ := h
  exact ⟨ts, s _ _ ne h1, h2, fun i t e a b => s _ _ (ne_lt hp (h3 i t e a b)) (h3 i t e a b)⟩
theorem PairsAt.push {H H' : Hp} {q t : Addr} {l : List (Nat × Nat)} {ts : List Addr} {d y : Nat} (h1 : H q = some (.lst (ts.map V.ref))) (h2 : ts.length = l.length) (h3 : ∀ (i : Nat) (t : Addr) (e : Nat × Nat), ts[i]? = some t → l[i]? = some e → H t = some (.tup [.int e.1, .int e.2]))
    (s : But q H H') (hq : H' q = some (.lst (ts.map V.ref ++ [.ref t]))) (ht : H' t = some (.tup [.int (d : Int), .int (y : Int)])) : PairsAt H' q (l ++ [(d, y)]) := by
  refine ⟨ts ++ [t], by rw [hq, List.map_append]; rfl, by simp [h2], fun i t' e a b => ?_⟩
  by_cases hi : i < ts.length
  · rw [List.getElem?_append_left hi] at a
    rw [List.getElem?_append_left (by omega)] at b
    have := h3 i t' e a b
    exact s _ _ (ne_lt h1 this) this
  · have hlt := get_lt a
    rw [List.length_append, List.length_singleton] at hlt
    have ei : i = ts.length := by omega
    subst ei
    rw [List.getElem?_append_right (Nat.le_refl _), Nat.sub_self] at a
    rw [h2, List.getElem?_append_right (Nat.le_refl _), Nat.sub_self] at b
    cases a
    cases b
    exact ht
/-- the rows of exits: a list each -/
def Rows (H : Hp) (ps : List Addr) (ex : Nat → List (Nat × Nat)) : Prop := ∀ (x : Nat) (q : Addr), ps[x]? = some q → PairsAt H q (ex x)
theorem Rows.same {H H' : Hp} {ps ex} (h : Rows H ps ex) (s : Same H H') : Rows H' ps ex := fun x q e => (h x q e).same s
theorem Rows.push {H : Hp} {ps : List Addr} {ex : Nat → List (Nat × Nat)} (R : Rows H ps ex) (nd : ps.Nodup) {x : Nat} {q t : Addr} (hq : ps[x]? = some q) (nt : H t = none) {d y : Nat} {xs : List V} (hx : H q = some (.lst xs)) :
    Rows (upd (upd H t (.tup [.int (d : Int), .int (y : Int)])) q (.lst (xs ++ [.ref t]))) ps (fun z => if z = x then ex z ++ [(d, y)] else ex z) := by
  have s1 : But q H (upd (upd H t (.tup [.int (d : Int), .int (y : Int)])) q (.lst (xs ++ [.ref t]))) := fun b o ne e => by
    rw [upd_ne ne, upd_ne (ne_of_none e nt)]
    exact e
  have ntq : t ≠ q := (ne_of_none hx nt).symm
  intro z q' hz
  by_cases e : z = x
  · subst e
    rw [hq] at hz
    cases hz
    obtain ⟨ts, h1, h2, h3⟩ := R z q hq
    rw [hx] at h1
    cases h1
    simp only [if_true]
    exact .push (ts := ts) hx h2 h3 s1 upd_same (by rw [upd_ne ntq, upd_same])
  · simp only [if_neg e]
    have ne : q' ≠ q := fun z' => by
      subst z'
      exact e (nd_ix nd hz hq)
    exact (R z q' hz).aside hx ne s1
theorem ex_mem {ds : List (Nat × Nat)} {ex : Nat → List (Nat × Nat)} {k : Nat} {e : Nat × Nat} (he : ds[k]? = some e) (ne : e.1 ≠ e.2) (mem : ∀ x d y, (d, y) ∈ ex x ↔ d < k ∧ Joins ds d x y) (x d y : Nat) :
    (d, y) ∈ (if x = e.2 then (if x = e.1 then ex x ++ [(k, e.2)] else ex x) ++ [(k, e.1)] else if x = e.1 then ex x ++ [(k, e.2)] else ex x) ↔ d < k + 1 ∧ Joins ds d x y := by
  have J : Joins ds k x y ↔ (x = e.1 ∧ y = e.2) ∨ (x = e.2 ∧ y = e.1) := by
    unfold Joins
    rw [he]
    constructor
    · rintro (h | h)
      · have h := Option.some.inj h
        exact .inl ⟨by rw [h], by rw [h]⟩
      · have h := Option.some.inj h
        exact .inr ⟨by rw [h], by rw [h]⟩
    · rintro (⟨rfl, rfl⟩ | ⟨rfl, rfl⟩)
      · exact .inl rfl
      · exact .inr rfl
  have step : (d < k + 1 ∧ Joins ds d x y) ↔ (d < k ∧ Joins ds d x y) ∨ (d = k ∧ ((x = e.1 ∧ y = e.2) ∨ (x = e.2 ∧ y = e.1))) := by
    constructor
    · rintro ⟨h1, h2⟩
      by_cases q : d = k
      · subst q
        exact .inr ⟨rfl, J.mp h2⟩
      · exact .inl ⟨by omega, h2⟩
    · rintro (⟨h1, h2⟩ | ⟨rfl, h2⟩)
      · exact ⟨by omega, h2⟩
      · exact ⟨by omega, J.mpr h2⟩
  rw [step, ← mem x d y]
  by_cases h2 : x = e.2
  · have h1 : ¬ x = e.1 := fun z => ne (z.symm.trans h2)
    rw [if_pos h2, if_neg h1, List.mem_append, List.mem_singleton, Prod.mk.injEq]
    simp [h1, h2, ne.symm]
  · rw [if_neg h2]
    by_cases h1 : x = e.1
    · rw [if_pos h1, List.mem_append, List.mem_singleton, Prod.mk.injEq]
      simp [h1, ne]
    · rw [if_neg h1]
      simp [h1, h2]
theorem small3k {n : Nat} (h : n ≤ 3000) : n < sizeLine := Nat.lt_of_le_of_lt h (by decide)
theorem lcYes {A B : Hp → Prop} {σ : L2.St} {H : Hp} (h : A H) : tYes σ H (fun b H3 => if b = true then A H3 else B H3) := by
  show (if true = true then A H else B H)
  rw [if_pos rfl]
  exact h
def spExits (K : PySem.W.Frag) : Sp := fun vs H Q _ => ∃ (a : Addr) (ds : List (Nat × Nat)) (n : Nat), vs = [.ref a] ∧ HouseAt K H a ds ∧ Tree n ds ∧ n ≤ 1000 ∧
  ∀ (H' : Hp) (p : Addr) (ps : List Addr) (ex : Nat → List (Nat × Nat)), Same H H' → H p = none → H' p = some (.lst (ps.map V.ref)) → ps.length = n → Rows H' ps ex → (∀ x d y, (d, y) ∈ ex x ↔ Joins ds d x y) → Q (.ref p) H'
section
variable {P : Program} {w : World} {K : PySem.W.Frag}
      {mg : Str → Option Value} {base : Heap}
theorem ok_exits_of (T : Bl mg) (D : Def K mg "exits_of" s_exits_of) : Cal P w K mg base "exits_of" ["house"] 1 (spExits K) := by
  refine D.ok sc_exits_of (fun _ _ _ _ _ _ us hl => match us, hl with | [_], _ => rfl) (fun vs H Q E h => ?_) (fun f cdv A outer s H vs Q E hr h => ?_)
  · obtain ⟨a, ds, n, rfl, _⟩ := h
    rfl
  obtain ⟨a, ds, n, rfl, hH, tree, hn, q⟩ := h
  obtain ⟨rs, hrs, hlen, hds⟩ := id hH
  have hdn := tree.len
  refine ⟨_, (pss_cons (ps_setLc (i := 1) (own := [("room", 2)]) (g := gName 2)  rfl sc_exits_of.nd rfl rfl (sw_true rfl rfl rfl (by decide +kernel)) (pi_range1 rfl T.range (pa_cons (pe_op op_add (pe_callB call_len_seq (by rfl) T.len PySem.boot_len (pa_cons (pv 0) pa_nil)) pe_int) pa_nil)) (blkOk_by (N := N_exits_of) (sc := defScope s_exits_of) (own := [("room", 2)]) (by decide +kernel)) (fun _ _ _ _ _ => (pg_name (i := 2) sc_exits_of.nd rfl (.inl rfl) (.inr rfl))) (fun _ _ _ _ _ => pts_nil) (fun _ _ _ _ _ => (pe_lst pa_nil)))
    (pss_cons (ps_for PassesOwn.never rfl (pi_enumT (by rfl) T.enumerate (pa_cons (pv 0) pa_nil)) (pg_tup (n := 2) rfl (pgs_cons (pg_name (i := 3) sc_exits_of.nd rfl (.inl rfl)) (pgs_cons (pg_tup (n := 2) rfl (pgs_cons (pg_name (i := 4) sc_exits_of.nd rfl (.inl rfl)) (pgs_cons (pg_name (i := 5) sc_exits_of.nd rfl (.inl rfl)) pgs_nil))) pgs_nil)))
    (pss_cons (ps_expr (pe_bm PySem.F.plainAttrs_list PySem.F.slot_list_append PySem.F.type_list_append mt_append (pe_ix ix_list (pv 1) (pv 4) (fun _ _ => rfl)) (pa_cons (pe_tup (pa_cons (pv 3) (pa_cons (pv 5) pa_nil))) pa_nil)))
    (pss_one (ps_expr (pe_bm PySem.F.plainAttrs_list PySem.F.slot_list_append PySem.F.type_list_append mt_append (pe_ix ix_list (pv 1) (pv 5) (fun _ _ => rfl)) (pa_cons (pe_tup (pa_cons (pv 3) (pa_cons (pv 4) pa_nil))) pa_nil))))))
    (pss_one (ps_ret (pv 1))))), ?_⟩
  have en : (((rs.map V.ref).length : Nat) : Int) + 1 = ((n : Nat) : Int) := by
    rw [List.length_map, hlen]
    omega
  refine ⟨_, rfl, _, _, rfl, .inr hrs, _, _, rfl, rfl, (n : Int), congrArg (fun z => [V.int z]) en, by omega, by omega, fun p np => ?_⟩
  refine lc_range (lo := 0) (n := n) (fun i H1 => ∃ ps : List Addr, Same H H1 ∧ H1 p = some (.lst (ps.map V.ref)) ∧ ps.length = i ∧ ps.Nodup ∧ ∀ x ∈ ps, H x = none ∧ H1 x = some (.lst [])) ?_ ?_ ?_
  · exact ⟨[], Same.upd np, upd_same, rfl, List.nodup_nil, fun _ h => nomatch h⟩
  · rintro i H1 hi ⟨ps, sm, hp, hl, nd, hx⟩
    refine ⟨rfl, lcYes ?_⟩
    refine ⟨Nat.zero_le _, fun x nx => ?_⟩
    have npx : p ≠ x := ne_of_none hp nx
    have xps : x ∉ ps := fun m => by
      rw [(hx x m).2] at nx
      cases nx
    have pps : p ∉ ps := fun m => by
      have h1 := (hx p m).2
      rw [hp] at h1
      cases ps with
      | nil => cases m
      | cons a r => cases h1
    refine ⟨ps.map V.ref, by rw [upd_ne npx]; exact hp, ?_, ps ++ [x], (sm.trans (Same.upd nx)).at np, ?_, by simp [hl], ?_, fun z m => ?_⟩
    · rw [List.length_map]
      exact small1000 (by omega)
    · rw [upd_same, List.map_append]
      rfl
    · exact nd_snoc nd xps
    · rcases List.mem_append.mp m with m | m
      · have ne1 : z ≠ p := fun e => pps (e ▸ m)
        have ne2 : z ≠ x := fun e => xps (e ▸ m)
        rw [upd_ne ne1, upd_ne ne2]
        exact hx z m
      · rw [List.mem_singleton.mp m, upd_ne npx.symm, upd_same]
        exact ⟨sm.free nx, rfl⟩
  · rintro H1 ⟨ps, sm, hp, hl, nd, hx⟩
    have pps : p ∉ ps := fun m => by
      have h1 := (hx p m).2
      rw [hp] at h1
      cases ps with
      | nil => cases m
      | cons a r => cases h1
    refine ⟨_, rfl, a, _, rfl, sm.tup hrs, ?_⟩
    refine for_it (walk_enumT (K := K) (a := a) (xs := rs.map V.ref)) (fun k σ H2 => ∃ ex y2 y3 y4 y5, σ = [some (.ref a), some (.ref p), y2, y3, y4, y5] ∧ Same H H2 ∧ H2 p = some (.lst (ps.map V.ref)) ∧ Rows H2 ps ex ∧
        (∀ x d y, (d, y) ∈ ex x ↔ d < k ∧ Joins ds d x y) ∧ ∀ x, (ex x).length ≤ 2 * k)
      ⟨fun _ => [], _, _, _, _, rfl, sm, hp, fun x q e => ⟨[], (hx q (List.mem_of_getElem? e)).2, rfl, fun i t e h => by simp at h⟩, fun x d y => by simp, fun x => Nat.zero_le _⟩
      (fun i σ H1 _ ⟨_, _, _, _, _, _, sm, _⟩ => sm.tup hrs) ?_ ?_
    · rintro k x σ H2 H3 hk ⟨ex, y2, y3, y4, y5, rfl, sm2, hp2, ro, mem, le⟩ ⟨t, x1, x2, rfl, nt, rfl, ex1, ex2⟩
      cases ex1
      have hk' : k < ds.length := by
        rw [List.length_map, hlen] at hk
        exact hk
      obtain ⟨e, he⟩ : ∃ e, ds[k]? = some e := get_of rfl hk'
      obtain ⟨r, hr0⟩ : ∃ r, rs[k]? = some r := get_of hlen hk'
      have ex2' : V.ref r = x2 := by
        have ex2 : (rs.map V.ref)[k]? = some x2 := ex2
        rw [List.getElem?_map, hr0] at ex2
        exact Option.some.inj ex2
      subst ex2'
      have elt := tree.lt e (List.mem_of_getElem? he)
      obtain ⟨side, s1, s2⟩ := tree.side
      have ene : e.1 ≠ e.2 := fun z => s1 k e he (by rw [z])
      have smt : Same H2 (upd H2 t (.tup [.int (k : Nat), .ref r])) := Same.upd nt
      have sm3 := sm2.trans smt
      have hp3 := smt _ _ hp2
      have ro3 := ro.same smt
      refine ⟨t, _, rfl, SqT.of upd_same, rfl, _, _, rfl, _, _, rfl, ⟨r, _, rfl, sm3.tup (hds k r e hr0 he), rfl, _, _, rfl, _, _, rfl, rfl, rfl, ?_⟩⟩
      generalize upd H2 t (.tup [.int (k : Nat), .ref r]) = H4 at sm3 hp3 ro3 smt
      obtain ⟨q1, hq1⟩ := get_of hl elt.1
      obtain ⟨q2, hq2⟩ := get_of hl elt.2
      obtain ⟨ts1, g1, g2, g3⟩ := ro3 _ _ hq1
      refine ⟨_, rfl, _, rfl, _, _, _, V.ref q1, rfl, rfl, SqL.of hp3, atI_nat (v := V.ref q1) (by rw [List.getElem?_map, hq1]; rfl), .inl ⟨rfl, _, SqL.of g1⟩, _, rfl, _, rfl, by show 2 ≤ sizeLine; decide, fun t1 nt1 => ?_⟩
      refine ⟨q1, _, _, rfl, rfl, by rw [upd_ne (ne_of_none g1 nt1)]; exact g1, by rw [List.length_map, g2]; exact small3k (by have := le e.1; omega), ?_⟩
      have ro4 := ro3.push nd hq1 nt1 (d := k) (y := e.2) g1
      have nq1 : H q1 = none := (hx q1 (List.mem_of_getElem? hq1)).1
      have nq2 : H q2 = none := (hx q2 (List.mem_of_getElem? hq2)).1
      have pq1 : p ≠ q1 := fun z => pps (z ▸ List.mem_of_getElem? hq1)
      have pq2 : p ≠ q2 := fun z => pps (z ▸ List.mem_of_getElem? hq2)
      have sm4 : Same H (upd (upd H4 t1 (.tup [.int (k : Nat), .int (e.2 : Nat)])) q1 (.lst (ts1.map V.ref ++ [V.ref t1]))) := (sm3.trans (Same.upd nt1)).at nq1
      have hp4 : (upd (upd H4 t1 (.tup [.int (k : Nat), .int (e.2 : Nat)])) q1 (.lst (ts1.map V.ref ++ [V.ref t1]))) p = some (.lst (ps.map V.ref)) := by
        rw [upd_ne pq1, upd_ne (ne_of_none hp3 nt1)]
        exact hp3
      generalize (upd (upd H4 t1 (.tup [.int (k : Nat), .int (e.2 : Nat)])) q1 (.lst (ts1.map V.ref ++ [V.ref t1]))) = H5 at ro4 sm4 hp4
      obtain ⟨ts2, f1, f2, f3⟩ := ro4 _ _ hq2
      have f2' : ts2.length = (ex e.2).length := by
        rw [f2]
        simp only [if_neg ene.symm]
      refine ⟨_, rfl, _, rfl, _, _, _, V.ref q2, rfl, rfl, SqL.of hp4, atI_nat (v := V.ref q2) (by rw [List.getElem?_map, hq2]; rfl), .inl ⟨rfl, _, SqL.of f1⟩, _, rfl, _, rfl, by show 2 ≤ sizeLine; decide, fun t2 nt2 => ?_⟩
      refine ⟨q2, _, _, rfl, rfl, by rw [upd_ne (ne_of_none f1 nt2)]; exact f1, by rw [List.length_map, f2']; exact small3k (by have := le e.2; omega), ?_⟩
      refine ⟨_, _, _, _, _, rfl, (sm4.trans (Same.upd nt2)).at nq2, by rw [upd_ne pq2, upd_ne (ne_of_none hp4 nt2)]; exact hp4, ro4.push nd hq2 nt2 (d := k) (y := e.1) f1, fun x d y => ?_, fun x => ?_⟩
      · exact ex_mem he ene mem x d y
      · have := le x
        by_cases e2 : x = e.2
        · simp only [e2, if_true, if_neg ene.symm]
          have := le e.2
          simp; omega
        · by_cases e1 : x = e.1
          · simp only [e1, if_true, if_neg ene]
            have := le e.1
            simp; omega
          · simp only [if_neg e1, if_neg e2]
            omega
    · rintro σ H2 ⟨ex, y2, y3, y4, y5, rfl, sm2, hp2, ro, mem, le⟩
      refine ⟨_, rfl, q H2 p ps ex sm2 np hp2 hl ro fun x d y => ?_⟩
      rw [mem x d y]
      refine ⟨fun h => h.2, fun h => ⟨?_, h⟩⟩
      rw [List.length_map, hlen]
      rcases h with h | h
      · exact get_lt h
      · exact get_lt h
end
end K5

namespace K5
open PySem PySem.Spec PyProof.Rows L2
/-- a dict whose keys are numbers: key by key -/
def DicR {β : Type} (VR : V → β → Prop) (kvs : List (Key × V)) (ks : List (Nat × β)) : Prop := Paired (fun (kv : Key × V) (k : Nat × β) => kv.1 = Sum.inl (k.1 : Int) ∧ VR kv.2 k.2) kvs ks
section
variable {β : Type} {VR VR' : V → β → Prop}
theorem DicR.mono {kvs ks} (h : DicR VR kvs ks) (f : ∀ v o, VR v o → VR' v o) : DicR VR' kvs ks := Paired.mapP h fun a b x => ⟨x.1, f _ _ x.2⟩
theorem DicR.len {kvs ks} (h : DicR VR kvs ks) : kvs.length = ks.length := Paired.length h
theorem DicR.no : ∀ {kvs : List (Key × V)} {ks : List (Nat × β)} {x : Nat}, DicR VR kvs ks → x ∉ ks.map Prod.fst → valV kvs (Sum.inl (x : Int)) = none
  | _, _, x, .nil, _ => rfl
  | kv :: _, k :: _, x, .cons h t, hx => by
    have hne : ¬ kv.1 = Sum.inl (x : Int) := fun z => by
      rw [h.1] at z
      have z := Sum.inl.inj z
      exact hx (List.mem_map.mpr ⟨k, List.mem_cons_self, by omega⟩)
    rw [valV_neg hne]
    exact DicR.no t fun m => hx (by rw [List.map_cons]; exact List.mem_cons_of_mem _ m)
theorem DicR.val : ∀ {kvs : List (Key × V)} {ks : List (Nat × β)} {x : Nat}, DicR VR kvs ks → x ∈ ks.map Prod.fst → ∃ v o, valV kvs (Sum.inl (x : Int)) = some v ∧ (x, o) ∈ ks ∧ VR v o
  | _, _, x, .nil, hx => by cases hx
  | kv :: _, k :: _, x, .cons h t, hx => by
    by_cases e : k.1 = x
    · refine ⟨kv.2, k.2, valV_pos (by rw [h.1, e]), ?_, h.2⟩
      rw [← e]
      exact List.mem_cons_self
    · have hne : ¬ kv.1 = Sum.inl (x : Int) := fun z => by
        rw [h.1] at z
        have z := Sum.inl.inj z
        omega
      rw [List.map_cons] at hx
      obtain ⟨v, o, a, b, c⟩ := DicR.val t ((List.mem_cons.mp hx).resolve_left fun q => e q.symm)
      exact ⟨v, o, by rw [valV_neg hne]; exact a, List.mem_cons_of_mem _ b, c⟩
theorem DicR.snoc : ∀ {kvs : List (Key × V)} {ks : List (Nat × β)} {x : Nat} {v : V} {o : β}, DicR VR kvs ks → VR v o → DicR VR (kvs ++ [(Sum.inl (x : Int), v)]) (ks ++ [(x, o)])
  | _, _, x, v, o, .nil, r => .cons ⟨rfl, r⟩ .nil
  | _, _, x, v, o, .cons h t, r => .cons h (DicR.snoc t r)
theorem DicR.add {kvs : List (Key × V)} {ks : List (Nat × β)} {x : Nat} {v : V} {o : β} (h : DicR VR kvs ks) (hx : x ∉ ks.map Prod.fst) (r : VR v o) : DicR VR (putK kvs (Sum.inl (x : Int)) v) (ks ++ [(x, o)]) := by
  rw [putK_new v (h.no hx)]
  exact h.snoc r
end
/-- a way's step: None, or a tuple (door, next room) -/
def WayR (H : Hp) (v : V) (o : Option (Nat × Nat)) : Prop := match o with
  | none => v = .non
  | some e => ∃ t, v = .ref t ∧ H t = some (.tup [.int (e.1 : Int), .int (e.2 : Int)])
theorem WayR.keep {H H' : Hp} {v o} (h : WayR H v o) (s : ∀ t xs, H t = some (.tup xs) → H' t = some (.tup xs)) : WayR H' v o := by
  cases o with
  | none => exact h
  | some e =>
    obtain ⟨t, a, b⟩ := h
    exact ⟨t, a, s _ _ b⟩
theorem snoc_nil {α : Type} (l : List α) : l = [] ∨ ∃ r x, l = r ++ [x] := by
  by_cases h : l = []
  · exact .inl h
  · exact .inr ⟨l.dropLast, l.getLast h, (List.dropLast_concat_getLast h).symm⟩
theorem mem_ofNat {d : Nat} {l : List Nat} : ((d : Int) ∈ l.map fun x : Nat => (x : Int)) ↔ d ∈ l := by
  constructor
  · intro h
    obtain ⟨x, hx, e⟩ := List.mem_map.mp h
    have : x = d := by omega
    exact this ▸ hx
  · intro h
    exact List.mem_map.mpr ⟨d, h, rfl⟩
theorem nv_int (l : List Nat) : nv l = (l.map fun x : Nat => (x : Int)).map V.int := by
  unfold nv
  rw [List.map_map]
  rfl
theorem nv_snoc (l : List Nat) (x : Nat) : nv (l ++ [x]) = nv l ++ [.int (x : Int)] := by
  unfold nv
  rw [List.map_append]
  rfl
/-- the dict and the list that the search writes; what stood ahead of them stands -/
structure WS (Hb H : Hp) (pw pq : Addr) (ks : List (Nat × Option (Nat × Nat))) (ws : List Nat) : Prop where
  sm : Same Hb H
  w : ∃ kvs, H pw = some (.dK kvs) ∧ DicR (WayR H) kvs ks
  q : H pq = some (.lst (nv ws))
  le : ws.length ≤ ks.length
theorem WS.ne {Hb H pw pq ks ws} (S : WS Hb H pw pq ks ws) : pw ≠ pq := by
  obtain ⟨kvs, h, _⟩ := S.w
  exact ne_of h S.q (by intro z; cases z)
theorem WS.setq {Hb H pw pq ks ws ws'} (S : WS Hb H pw pq ks ws) (nq : Hb pq = none) (hl : ws'.length ≤ ks.length) : WS Hb (upd H pq (.lst (nv ws'))) pw pq ks ws' := by
  obtain ⟨kvs, h, r⟩ := S.w
  refine ⟨S.sm.at nq, ⟨kvs, by rw [upd_ne S.ne]; exact h, r.mono fun v o x => x.keep fun t xs e => ?_⟩, upd_same, hl⟩
  rw [upd_ne (ne_lt S.q e)]
  exact e
theorem WS.add {Hb H pw pq ks ws} (S : WS Hb H pw pq ks ws) (nw : Hb pw = none) {t : Addr} (nt : H t = none) {kvs} (hk : H pw = some (.dK kvs)) (r : DicR (WayR H) kvs ks) {y d here : Nat} (ny : y ∉ ks.map Prod.fst) :
    WS Hb (upd (upd H t (.tup [.int (d : Int), .int (here : Int)])) pw (.dK (putK kvs (Sum.inl (y : Int)) (.ref t)))) pw pq (ks ++ [(y, some (d, here))]) ws := by
  have ntw : t ≠ pw := (ne_of_none hk nt).symm
  refine ⟨(S.sm.trans (Same.upd nt)).at nw, ⟨_, upd_same, (r.mono fun v o x => x.keep fun t' xs e => ?_).add ny ⟨t, rfl, by rw [upd_ne ntw, upd_same]⟩⟩, ?_, by rw [List.length_append]; exact Nat.le_trans S.le (Nat.le_add_right _ _)⟩
  · rw [upd_ne (ne_of e hk (by intro z; cases z)), upd_ne (ne_of_none e nt)]
    exact e
  · rw [upd_ne S.ne.symm, upd_ne (ne_of_none S.q nt)]
    exact S.q
def spWays (K : PySem.W.Frag) : Sp := fun vs H Q _ => ∃ (a sh : Addr) (ds : List (Nat × Nat)) (n room : Nat) (shut : List Nat), vs = [.ref a, .int (room : Int), .ref sh] ∧ HouseAt K H a ds ∧ Tree n ds ∧ n ≤ 1000 ∧ room < n ∧ SqL K H sh (nv shut) ∧ shut.length ≤ 1000 ∧
  ∀ (H' : Hp) (p : Addr) (kvs : List (Key × V)) (ks : List (Nat × Option (Nat × Nat))), Same H H' → H p = none → H' p = some (.dK kvs) → DicR (WayR H') kvs ks → Dfs n ds shut (ks.map Prod.fst) [] → Ptr ds shut room ks → room ∈ ks.map Prod.fst → Q (.ref p) H'
section
variable {P : Program} {w : World} {K : PySem.W.Frag}
      {mg : Str → Option Value} {base : Heap}
theorem ok_ways_from (T : Bl mg) (D : Def K mg "ways_from" s_ways_from) (C_exits_of : Cal P w K mg base "exits_of" ["house"] 1 (spExits K)) : Cal P w K mg base "ways_from" ["house", "room", "shut"] 2 (spWays K) := by
  refine D.ok sc_ways_from (fun _ _ _ _ _ _ us hl => match us, hl with | [_, _, _], _ => rfl) (fun vs H Q E h => ?_) (fun f cdv A outer s H vs Q E hr h => ?_)
  · obtain ⟨a, sh, ds, n, room, shut, rfl, _⟩ := h
    rfl
  obtain ⟨a, sh, ds, n, room, shut, rfl, hH, tree, hn, hroom, hsh, hshl, q⟩ := h
  obtain ⟨f_exits_of, fd_exits_of, g_exits_of, k_exits_of, b_exits_of, G_exits_of⟩ := C_exits_of
  refine ⟨_, (pss_cons (ps_set (i := 3) sc_ways_from.nd rfl (.inl rfl) (pe_call G_exits_of (hr.mono (by decide)) (by rfl) g_exits_of k_exits_of b_exits_of .nil pass0 (pa_cons (pv 0) pa_nil)))
    (pss_cons (ps_set (i := 4) sc_ways_from.nd rfl (.inl rfl) (pe_callTy (cr_setI rfl) (by rfl) T.set (by decide +kernel) (pa_cons (pv 2) pa_nil)))
    (pss_cons (ps_set (i := 5) sc_ways_from.nd rfl (.inl rfl) (pe_disp (pps_cons (pv 1) pe_non pps_nil) (by rfl) (by rfl) (fun z => by cases z) (by decide)))
    (pss_cons (ps_set (i := 6) sc_ways_from.nd rfl (.inl rfl) (pe_lst (pa_cons (pv 1) pa_nil)))
    (pss_cons (ps_while PassesOwn.never (pt_truth (pv 6) (by intro _; rfl)) (pss_cons (ps_set (i := 7) sc_ways_from.nd rfl (.inl rfl) (pe_bm0 PySem.F.plainAttrs_list PySem.F.slot_list_pop PySem.F.type_list_pop mt_pop (pv 6)))
    (pss_one (ps_for PassesOwn.never rfl (pi_list (pe_ix ix_list (pv 3) (pv 7) (fun _ _ => rfl))) (pg_tup (n := 2) rfl (pgs_cons (pg_name (i := 8) sc_ways_from.nd rfl (.inl rfl)) (pgs_cons (pg_name (i := 9) sc_ways_from.nd rfl (.inl rfl)) pgs_nil)))
    (pss_one (ps_if (PW.pt (pw_and (pt_cmpR op_notset (pv 8) (pv 4) (by rfl)) (pw_and1 (pt_cmp (pc_dnotin (hu_of hr) (pv 9) (pv 5)))))) (pss_cons (ps_dput (hu_of hr) (pv 5) (pv 9) (pe_tup (pa_cons (pv 8) (pa_cons (pv 7) pa_nil))) rfl)
    (pss_one (ps_expr (pe_bm PySem.F.plainAttrs_list PySem.F.slot_list_append PySem.F.type_list_append mt_append (pv 6) (pa_cons (pv 9) pa_nil))))) pss_nil))))))
    (pss_one (ps_ret (pv 5)))))))), ?_⟩
  refine ⟨_, rfl, a, ds, n, rfl, hH, tree, hn, fun H1 px ps ex sm1 npx hpx hpl ro mem => ?_⟩
  refine ⟨_, rfl, sh, shut.map (fun x : Nat => (x : Int)), rfl, by rw [← nv_int]; exact sm1.seq hsh, ?_, fun sa S sn nsa hS => ?_⟩
  · rw [List.length_map]
    exact Nat.lt_of_le_of_lt (Nat.succ_le_succ hshl) (by decide)
  have sm2 : Same H1 (upd H1 sa (.set S sn)) := Same.upd nsa
  have hsa : (upd H1 sa (.set S sn)) sa = some (.set S sn) := upd_same
  have hpx2 := sm2 _ _ hpx
  have ro2 := ro.same sm2
  have sm := sm1.trans sm2
  generalize upd H1 sa (.set S sn) = H2 at sm2 hsa hpx2 ro2 sm
  intro pw npw
  refine ⟨_, rfl, upd_same, [(Sum.inl (room : Int), .non)], rfl, (by show 1 ≤ 15; decide), ?_⟩
  rw [upd_upd]
  refine ⟨_, rfl, by show 1 ≤ sizeLine; decide, fun pq npq => ?_⟩
  have npw2 : pw ≠ pq := fun z => by
    subst z
    rw [upd_same] at npq
    cases npq
  have npq2 : H2 pq = none := by
    rw [upd_ne npw2.symm] at npq
    exact npq
  have S0 : WS H2 (upd (upd H2 pw (.dK (mergeK [] [(Sum.inl (room : Int), .non)]))) pq (.lst [.int (room : Int)])) pw pq [(room, none)] [room] :=
    ⟨(Same.upd npw).at npq2, ⟨[(Sum.inl (room : Int), .non)], by rw [upd_ne npw2, upd_same]; rfl, .cons ⟨rfl, rfl⟩ .nil⟩, by rw [upd_same]; rfl, Nat.le_refl _⟩
  generalize (upd (upd H2 pw (.dK (mergeK [] [(Sum.inl (room : Int), .non)]))) pq (.lst [.int (room : Int)])) = H3 at S0
  refine ⟨fun m σ H4 => ∃ ks ws y7 y8 y9, m = 2 * (n - ks.length) + ws.length ∧ σ = [some (.ref a), some (.int (room : Int)), some (.ref sh), some (.ref px), some (.ref sa), some (.ref pw), some (.ref pq), y7, y8, y9] ∧
      WS H2 H4 pw pq ks ws ∧ Dfs n ds shut (ks.map Prod.fst) ws ∧ Ptr ds shut room ks ∧ room ∈ ks.map Prod.fst,
    ⟨_, [(room, none)], [room], _, _, _, rfl, rfl, S0, Dfs.start hroom, Ptr.start, List.mem_singleton.mpr rfl⟩, fun m σ H4 hW => ?_⟩
  obtain ⟨ks, ws, y7, y8, y9, rfl, rfl, S, df, pt, hrm⟩ := hW
  refine ⟨_, rfl, _, .inl ⟨nv ws, SqL.of S.q, rfl⟩, ?_⟩
  rcases snoc_nil ws with rfl | ⟨wr, here, rfl⟩
  · refine iteF ⟨_, rfl, ?_⟩
    obtain ⟨kvs, hk, r⟩ := S.w
    exact q H4 pw kvs ks (sm.trans S.sm) (sm.free npw) hk r df pt hrm
  · have e1 : (!(nv (wr ++ [here])).isEmpty) = true := by
      rw [nv_snoc]
      cases nv wr <;> rfl
    rw [e1]
    have hhere : here < n := df.lt _ (df.sub _ (List.mem_append.mpr (.inr (List.mem_singleton.mpr rfl))))
    have dfi := df.pop
    have hlast : (nv (wr ++ [here]))[(nv (wr ++ [here])).length - 1]? = some (.int (here : Int)) := by
      rw [nv_snoc, List.length_append, List.length_singleton, Nat.add_sub_cancel, List.getElem?_append_right (Nat.le_refl _), Nat.sub_self]
      rfl
    refine iteT ⟨fun σ' H' => ∃ ks' ws' y7 y8 y9, 2 * (n - ks'.length) + ws'.length < 2 * (n - ks.length) + (wr ++ [here]).length ∧ σ' = [some (.ref a), some (.int (room : Int)), some (.ref sh), some (.ref px), some (.ref sa), some (.ref pw), some (.ref pq), y7, y8, y9] ∧
      WS H2 H' pw pq ks' ws' ∧ Dfs n ds shut (ks'.map Prod.fst) ws' ∧ Ptr ds shut room ks' ∧ room ∈ ks'.map Prod.fst, fun σ' H' ⟨ks', ws', z7, z8, z9, h1, h2⟩ => ⟨_, h1, ks', ws', z7, z8, z9, rfl, h2⟩, ?_⟩
    refine ⟨_, rfl, .inl ⟨rfl, _, SqL.of S.q⟩, pq, _, _, rfl, rfl, S.q, hlast, ?_⟩
    rw [nv_snoc, List.dropLast_concat]
    have S1 := S.setq (ws' := wr) npq2 (by have := S.le; simp at this; omega)
    generalize upd H4 pq (.lst (nv wr)) = H5 at S1
    obtain ⟨qx, hqx⟩ := get_of hpl hhere
    obtain ⟨ts, g1, g2, g3⟩ := ro2 _ _ hqx
    refine ⟨_, rfl, _, rfl, px, _, _, V.ref qx, rfl, rfl, SqL.of (S1.sm _ _ hpx2), atI_nat (v := V.ref qx) (by rw [List.getElem?_map, hqx]; rfl), qx, rfl, ⟨_, SqL.of (S1.sm _ _ g1)⟩, ?_⟩
    refine for_it (walk_list (K := K) (a := qx) (xs := ts.map V.ref)) (fun j σ H6 => ∃ ks' ws' y8 y9, 2 * (n - ks'.length) + ws'.length < 2 * (n - ks.length) + (wr ++ [here]).length ∧ σ = [some (.ref a), some (.int (room : Int)), some (.ref sh), some (.ref px), some (.ref sa), some (.ref pw), some (.ref pq), some (.int (here : Int)), y8, y9] ∧
      WS H2 H6 pw pq ks' ws' ∧ DfsIn n ds shut (ks'.map Prod.fst) ws' here ((ex here).take j) ∧ Ptr ds shut room ks' ∧ room ∈ ks'.map Prod.fst)
      ⟨ks, wr, _, _, by rw [List.length_append, List.length_singleton]; omega, rfl, S1, dfi, pt, hrm⟩ (fun i σ H1 _ ⟨_, _, _, _, _, _, S, _⟩ => SqL.of (S.sm _ _ g1)) ?_ ?_
    · rintro j x σ H6 H7 hj ⟨ks', ws', y8, y9, hm, rfl, S2, di, pt', hrm'⟩ ⟨rfl, ex1⟩
      have hj' : j < ts.length := by
        rw [List.length_map] at hj
        exact hj
      obtain ⟨t, ht⟩ : ∃ t, ts[j]? = some t := get_of rfl hj'
      obtain ⟨e, he⟩ : ∃ e, (ex here)[j]? = some e := get_of g2.symm hj'
      rw [List.getElem?_map, ht] at ex1
      cases ex1
      have htup := S2.sm _ _ (g3 j t e ht he)
      have ejoin : Joins ds e.1 here e.2 := (mem here e.1 e.2).mp (List.mem_of_getElem? he)
      have etake : (ex here).take (j + 1) = (ex here).take j ++ [(e.1, e.2)] := by
        rw [List.take_add_one, he]
        rfl
      obtain ⟨kvs, hk, r⟩ := S2.w
      refine ⟨t, _, rfl, SqT.of htup, rfl, _, _, rfl, _, _, rfl, rfl, ?_⟩
      refine ⟨_, rfl, _, rfl, _, sa, _, sn, rfl, rfl, S2.sm _ _ hsa, _, rfl, ?_⟩
      rw [hS]
      by_cases hd : e.1 ∈ shut
      · rw [decide_eq_true (mem_ofNat.mpr hd)]
        refine iteF (iteF ?_)
        exact ⟨ks', ws', _, _, hm, rfl, S2, by rw [etake]; exact di.skip (.inl hd), pt', hrm'⟩
      · rw [decide_eq_false fun z => hd (mem_ofNat.mp z)]
        refine iteT ⟨_, rfl, _, rfl, pw, _, rfl, DGet.k (k := Sum.inl (e.2 : Int)) hk, _, rfl, ?_⟩
        by_cases hy : e.2 ∈ ks'.map Prod.fst
        · obtain ⟨v, o, hv, _, _⟩ := r.val hy
          rw [hv]
          refine iteF ?_
          exact ⟨ks', ws', _, _, hm, rfl, S2, by rw [etake]; exact di.skip (.inr hy), pt', hrm'⟩
        · rw [r.no hy]
          refine iteT ?_
          have ely := (Joins.lt tree ejoin).2.1
          have di2 := di.add (d := e.1) ely hy
          have hle := di2.le
          rw [List.length_append, List.length_singleton, List.length_map] at hle
          refine ⟨_, rfl, _, rfl, by show 2 ≤ sizeLine; decide, fun t2 nt2 => ⟨_, rfl, _, rfl, pw, _, rfl, DPut.k (k := Sum.inl (e.2 : Int)) (by rw [upd_ne (ne_of_none hk nt2)]; exact hk) (by rw [r.len]; exact small1000 (by omega)), ?_⟩⟩
          have S3 := S2.add npw nt2 hk r (y := e.2) (d := e.1) (here := here) hy
          generalize (upd (upd H7 t2 (.tup [.int (e.1 : Int), .int (here : Int)])) pw (.dK (putK kvs (Sum.inl (e.2 : Int)) (.ref t2)))) = H8 at S3
          refine ⟨_, rfl, .inl ⟨rfl, _, SqL.of S3.q⟩, _, rfl, pq, _, _, rfl, rfl, S3.q, ?_, ?_⟩
          · rw [nv_len]
            have := S2.le
            exact small1000 (by omega)
          · rw [← nv_snoc]
            refine ⟨ks' ++ [(e.2, some (e.1, here))], ws' ++ [e.2], _, _, ?_, rfl, S3.setq npq2 (by have := S2.le; simp; omega), ?_, pt'.add ejoin.symm hd di.he hy, ?_⟩
            · rw [List.length_append, List.length_append, List.length_singleton, List.length_singleton]
              omega
            · rw [etake, List.map_append]
              exact di2
            · rw [List.map_append]
              exact List.mem_append.mpr (.inl hrm')
    · rintro σ H6 ⟨ks', ws', y8, y9, hm, rfl, S2, di, pt', hrm'⟩
      refine ⟨ks', ws', _, _, _, hm, rfl, S2, di.done fun d y j => ?_, pt', hrm'⟩
      rw [List.length_map, g2, List.take_length]
      exact (mem here d y).mpr j
end
end K5

namespace K5
open PySem PySem.Spec PyProof.Rows L2
theorem ptr_side {ds : List (Nat × Nat)} {door room : Nat} {ks : List (Nat × Option (Nat × Nat))} (P : Ptr ds [door] room ks) {side : Nat → Nat → Bool} (s2 : ∀ c d e, ds[d]? = some e → c ≠ d → side c e.1 = side c e.2) :
    ∀ (m x : Nat), x ∈ ks.map Prod.fst → (ks.map Prod.fst).idxOf x = m → side door x = side door room := by
  intro m
  induction m using Nat.strongRecOn with
  | ind m ih =>
    intro x hx hm
    obtain ⟨⟨x', o⟩, hk, rfl⟩ := List.mem_map.mp hx
    cases o with
    | none => rw [P.fin _ hk]
    | some e =>
      obtain ⟨j, ns, hy, lt⟩ := P.st _ e.1 e.2 hk
      rw [side_other s2 j fun z => ns (by rw [z]; exact List.mem_singleton.mpr rfl)]
      exact ih _ (by rw [← hm]; exact lt) e.2 hy rfl
/-- a list of steps (door, start, end), by its doors -/
def Steps (H : Hp) (ts : List Addr) (p : List Nat) : Prop := ts.length = p.length ∧ ∀ (i : Nat) (t : Addr) (d : Nat), ts[i]? = some t → p[i]? = some d → ∃ x y : Int, H t = some (.tup [.int (d : Int), .int x, .int y])
def spSteps (K : PySem.W.Frag) : Sp := fun vs H Q _ => ∃ (p : Addr) (a n room : Nat) (ds : List (Nat × Nat)) (shut : List Nat) (kvs : List (Key × V)) (ks : List (Nat × Option (Nat × Nat))), vs = [.ref p, .int (a : Int)] ∧ H p = some (.dK kvs) ∧ DicR (WayR H) kvs ks ∧ Ptr ds shut room ks ∧
  Tree n ds ∧ ks.length ≤ 1000 ∧ a ∈ ks.map Prod.fst ∧ ∀ (H' : Hp) (q : Addr) (ts : List Addr) (path : List Nat), Same H H' → H q = none → H' q = some (.lst (ts.map V.ref)) → Steps H' ts path → Walk ds a path room → path.Nodup → path.length ≤ 1000 → Q (.ref q) H'
def spPath (K : PySem.W.Frag) : Sp := fun vs H Q _ => ∃ (a : Addr) (ds : List (Nat × Nat)) (n x y : Nat), vs = [.ref a, .int (x : Int), .int (y : Int)] ∧ HouseAt K H a ds ∧ Tree n ds ∧ n ≤ 1000 ∧ x < n ∧ y < n ∧
  ∀ (H' : Hp) (q : Addr) (path : List Nat), Same H H' → H q = none → H' q = some (.lst (nv path)) → Walk ds x path y → path.Nodup → Q (.ref q) H'
def spFar (K : PySem.W.Frag) : Sp := fun vs H Q _ => ∃ (a : Addr) (ds : List (Nat × Nat)) (n door room : Nat), vs = [.ref a, .int (door : Int), .int (room : Int)] ∧ HouseAt K H a ds ∧ Tree n ds ∧ n ≤ 1000 ∧ door < ds.length ∧ room < n ∧
  ∀ (H' : Hp) (q : Addr) (kl : List Nat), Same H H' → H q = none → H' q = some (.lst (nv ((List.range n).filter fun y => decide (y ∉ kl)))) → (∀ x p, Walk ds room p x → door ∉ p → x ∈ kl) →
    (∀ side : Nat → Nat → Bool, (∀ c d e, ds[d]? = some e → c ≠ d → side c e.1 = side c e.2) → ∀ x, x ∈ kl → side door x = side door room) → Q (.ref q) H'
def spStepsB (K : PySem.W.Frag) : Sp := fun vs H Q _ => ∃ (a : Addr) (ds : List (Nat × Nat)) (n x y : Nat), vs = [.ref a, .int (x : Int), .int (y : Int)] ∧ HouseAt K H a ds ∧ Tree n ds ∧ n ≤ 1000 ∧ x < n ∧ y < n ∧
  ∀ (H' : Hp) (q : Addr) (ts : List Addr) (path : List Nat), Same H H' → H q = none → H' q = some (.lst (ts.map V.ref)) → Steps H' ts path → Walk ds x path y → path.Nodup → path.length ≤ 1000 → Q (.ref q) H'
section
variable {P : Program} {w : World} {K : PySem.W.Frag}
      {mg : Str → Option Value} {base : Heap}
theorem ok_steps_along (T : Bl mg) (D : Def K mg "steps_along" s_steps_along) : Cal P w K mg base "steps_along" ["ways", "room"] 1 (spSteps K) := by
  refine D.ok sc_steps_along (fun _ _ _ _ _ _ us hl => match us, hl with | [_, _], _ => rfl) (fun vs H Q E h => ?_) (fun f cdv A outer s H vs Q E hr h => ?_)
  · obtain ⟨p, a, n, room, ds, shut, kvs, ks, rfl, _⟩ := h
    rfl
  obtain ⟨p, a, n, room, ds, shut, kvs, ks, rfl, hp, r, pt, tree, hks, ha, q⟩ := h
  refine ⟨_, (pss_cons (ps_set (i := 2) sc_steps_along.nd rfl (.inl rfl) (pe_lst pa_nil))
    (pss_cons (ps_set (i := 3) sc_steps_along.nd rfl (.inl rfl) (pv 1))
    (pss_cons (ps_while PassesOwn.never (pt_cmpR op_notN (pe_dget (hu_of hr) (pv 0) (pv 3) (fun _ _ => rfl)) pe_non (nomark _)) (pss_cons (ps_asg (pe_dget (hu_of hr) (pv 0) (pv 3) (fun _ _ => rfl)) (pg_tup (n := 2) rfl (pgs_cons (pg_name (i := 4) sc_steps_along.nd rfl (.inl rfl)) (pgs_cons (pg_name (i := 5) sc_steps_along.nd rfl (.inl rfl)) pgs_nil))))
    (pss_cons (ps_expr (pe_bm PySem.F.plainAttrs_list PySem.F.slot_list_append PySem.F.type_list_append mt_append (pv 2) (pa_cons (pe_tup (pa_cons (pv 4) (pa_cons (pv 3) (pa_cons (pv 5) pa_nil)))) pa_nil)))
    (pss_one (ps_set (i := 3) sc_steps_along.nd rfl (.inl rfl) (pv 5))))))
    (pss_one (ps_ret (pv 2)))))), ?_⟩
  refine ⟨Nat.zero_le _, fun q0 nq => ?_⟩
  refine ⟨_, rfl, ?_⟩
  refine ⟨fun m σ H1 => ∃ here path ts y4 y5, m = (ks.map Prod.fst).idxOf here ∧ σ = [some (.ref p), some (.int (a : Int)), some (.ref q0), some (.int (here : Nat)), y4, y5] ∧ Same H H1 ∧ H1 q0 = some (.lst (ts.map V.ref)) ∧ Steps H1 ts path ∧
      Made ds (ks.map Prod.fst) a path here ∧ here ∈ ks.map Prod.fst ∧ path.length + (ks.map Prod.fst).idxOf here ≤ ks.length,
    ⟨_, a, [], [], _, _, rfl, rfl, Same.upd nq, upd_same, ⟨rfl, fun i t d h => by simp at h⟩, Made.start, ha, ?_⟩, fun m σ H1 hW => ?_⟩
  · have := List.idxOf_lt_length_iff.mpr ha
    rw [List.length_map] at this
    simp
    omega
  obtain ⟨here, path, ts, y4, y5, rfl, rfl, sm, hq, st, md, hh, hle⟩ := hW
  obtain ⟨v, o, hv, hko, hw⟩ := r.val hh
  have hk1 := sm _ _ hp
  have hg : DGet H1 p (.int (here : Int)) (some v) := by
    rw [← hv]
    exact DGet.k (k := Sum.inl (here : Int)) hk1
  refine ⟨_, rfl, _, rfl, p, v, rfl, hg, rfl, _, rfl, ?_⟩
  cases o with
  | none =>
    have hw : v = .non := hw
    subst hw
    refine iteF ⟨_, rfl, q H1 q0 ts path sm nq hq st ?_ md.nd (by omega)⟩
    rw [← pt.fin _ hko]
    exact md.w
  | some e =>
    obtain ⟨t, rfl, ht⟩ := hw
    obtain ⟨j, ns, hy, lt⟩ := pt.st here e.1 e.2 hko
    have ht1 := sm _ _ ht
    refine iteT ⟨fun σ' H' => ∃ here' path ts y4 y5, (ks.map Prod.fst).idxOf here' < (ks.map Prod.fst).idxOf here ∧ σ' = [some (.ref p), some (.int (a : Int)), some (.ref q0), some (.int (here' : Nat)), y4, y5] ∧ Same H H' ∧ H' q0 = some (.lst (ts.map V.ref)) ∧ Steps H' ts path ∧
      Made ds (ks.map Prod.fst) a path here' ∧ here' ∈ ks.map Prod.fst ∧ path.length + (ks.map Prod.fst).idxOf here' ≤ ks.length, fun σ' H' ⟨h', p', t', z4, z5, g1, g2⟩ => ⟨_, g1, h', p', t', z4, z5, rfl, g2⟩, ?_⟩
    refine ⟨_, rfl, _, rfl, p, V.ref t, rfl, hg, t, _, rfl, SqT.of ht1, rfl, _, _, rfl, _, _, rfl, rfl, ?_⟩
    refine ⟨_, rfl, .inl ⟨rfl, _, SqL.of hq⟩, _, rfl, _, rfl, _, rfl, by show 3 ≤ sizeLine; decide, fun t2 nt2 => ⟨q0, _, _, rfl, rfl, by rw [upd_ne (ne_of_none hq nt2)]; exact hq, by rw [List.length_map, st.1]; exact small1000 (by omega), ?_⟩⟩
    refine ⟨_, rfl, ?_⟩
    have n2q : t2 ≠ q0 := (ne_of_none hq nt2).symm
    refine ⟨e.2, path ++ [e.1], ts ++ [t2], _, _, lt, rfl, (sm.trans (Same.upd nt2)).at nq, by rw [upd_same, List.map_append]; rfl, ⟨by simp [st.1], fun i t' d' g1 g2 => ?_⟩, md.step ⟨n, tree⟩ pt hko, hy, ?_⟩
    · by_cases hi : i < ts.length
      · rw [List.getElem?_append_left hi] at g1
        rw [List.getElem?_append_left (by rw [← st.1]; exact hi)] at g2
        obtain ⟨x, y, e'⟩ := st.2 i t' d' g1 g2
        refine ⟨x, y, ?_⟩
        rw [upd_ne (ne_lt hq e'), upd_ne (ne_of_none e' nt2)]
        exact e'
      · have hlt := get_lt g1
        rw [List.length_append, List.length_singleton] at hlt
        have ei : i = ts.length := by omega
        subst ei
        rw [List.getElem?_append_right (Nat.le_refl _), Nat.sub_self] at g1
        rw [st.1, List.getElem?_append_right (Nat.le_refl _), Nat.sub_self] at g2
        cases g1
        cases g2
        exact ⟨_, _, by rw [upd_ne n2q, upd_same]⟩
    · rw [List.length_append, List.length_singleton]
      omega
theorem ok_steps_between (T : Bl mg) (D : Def K mg "steps_between" s_steps_between) (C_steps_along : Cal P w K mg base "steps_along" ["ways", "room"] 1 (spSteps K))
    (C_ways_from : Cal P w K mg base "ways_from" ["house", "room", "shut"] 2 (spWays K)) : Cal P w K mg base "steps_between" ["house", "a", "b"] 3 (spStepsB K) := by
  refine D.ok sc_steps_between (fun _ _ _ _ _ _ us hl => match us, hl with | [_, _, _], _ => rfl) (fun vs H Q E h => ?_) (fun f cdv A outer s H vs Q E hr h => ?_)
  · obtain ⟨a, ds, n, x, y, rfl, _⟩ := h
    rfl
  obtain ⟨a, ds, n, x, y, rfl, hH, tree, hn, hx, hy, q⟩ := h
  have hdn := tree.len
  obtain ⟨f_steps_along, fd_steps_along, g_steps_along, k_steps_along, b_steps_along, G_steps_along⟩ := C_steps_along
  obtain ⟨f_ways_from, fd_ways_from, g_ways_from, k_ways_from, b_ways_from, G_ways_from⟩ := C_ways_from
  refine ⟨_, (pss_one (ps_ret (pe_call G_steps_along (hr.mono (by decide)) (by rfl) g_steps_along k_steps_along b_steps_along .nil pass0 (pa_cons (pe_call G_ways_from (hr.mono (by decide)) (by rfl) g_ways_from k_ways_from b_ways_from .nil pass0 (pa_cons (pv 0) (pa_cons (pv 2) (pa_cons (pe_lst pa_nil) pa_nil)))) (pa_cons (pv 1) pa_nil))))), ?_⟩
  refine ⟨_, rfl, _, rfl, Nat.zero_le _, fun sh nsh => ?_⟩
  have sm2 := Same.upd (o := .lst []) nsh
  have hsh : (upd H sh (.lst [])) sh = some (.lst []) := upd_same
  generalize upd H sh (.lst []) = H2 at sm2 hsh
  refine ⟨a, sh, ds, n, y, [], rfl, hH.same sm2, tree, hn, hy, SqL.of hsh, Nat.zero_le _, fun H3 pw kvs ks sm3 npw hpw r df pt hrm => ?_⟩
  have hle := df.le
  rw [List.length_map] at hle
  refine ⟨_, rfl, pw, x, n, y, ds, [], kvs, ks, rfl, hpw, r, pt, tree, by omega, df.all tree hrm x hx, fun H4 ps ts path sm4 nps hps st wk nd hpl => ?_⟩
  have sm5 := (sm2.trans sm3).trans sm4
  exact q H4 ps ts path sm5 ((sm2.trans sm3).free nps) hps st wk nd hpl
theorem ok_doors_between (T : Bl mg) (D : Def K mg "doors_between" s_doors_between) (C_steps_between : Cal P w K mg base "steps_between" ["house", "a", "b"] 3 (spStepsB K)) : Cal P w K mg base "doors_between" ["house", "a", "b"] 4 (spPath K) := by
  refine D.ok sc_doors_between (fun _ _ _ _ _ _ us hl => match us, hl with | [_, _, _], _ => rfl) (fun vs H Q E h => ?_) (fun f cdv A outer s H vs Q E hr h => ?_)
  · obtain ⟨a, ds, n, x, y, rfl, _⟩ := h
    rfl
  obtain ⟨a, ds, n, x, y, rfl, hH, tree, hn, hx, hy, q⟩ := h
  obtain ⟨f_steps_between, fd_steps_between, g_steps_between, k_steps_between, b_steps_between, G_steps_between⟩ := C_steps_between
  refine ⟨_, (pss_one (ps_ret (pe_lc (own := [("door", 3), ("start", 4), ("end", 5)]) (g := gTup K 3 (gCons (gName 3) (gCons (gName 4) (gCons (gName 5) gNil))))  rfl sc_doors_between.nd (pi_list (pe_call G_steps_between (hr.mono (by decide)) (by rfl) g_steps_between k_steps_between b_steps_between .nil pass0 (pa_cons (pv 0) (pa_cons (pv 1) (pa_cons (pv 2) pa_nil))))) (blkOk_by (N := N_doors_between) (sc := defScope s_doors_between) (own := [("door", 3), ("start", 4), ("end", 5)]) (by decide +kernel)) (fun _ _ _ _ _ => (pg_tup (n := 3) rfl (pgs_cons (pg_name (i := 3) sc_doors_between.nd rfl (.inl rfl) (.inr rfl)) (pgs_cons (pg_name (i := 4) sc_doors_between.nd rfl (.inl rfl) (.inr rfl)) (pgs_cons (pg_name (i := 5) sc_doors_between.nd rfl (.inl rfl) (.inr rfl)) pgs_nil))))) (fun _ _ _ _ _ => pts_nil) (fun _ _ _ _ _ => (pv 3))))), ?_⟩
  refine ⟨_, rfl, _, rfl, _, rfl, a, ds, n, x, y, rfl, hH, tree, hn, hx, hy, fun H4 ps ts path sm5 nps hps st wk nd hpl => ?_⟩
  refine ⟨ps, rfl, ⟨_, SqL.of hps⟩, fun pd npd => ?_⟩
  refine lc_it (walk_list (K := K) (a := ps) (xs := ts.map V.ref)) (fun i H5 => Same H4 H5 ∧ H5 pd = some (.lst (nv (path.take i)))) ⟨Same.upd npd, upd_same⟩ (fun i H5 _ h => SqL.of (h.1 _ _ hps)) ?_ ?_
  · rintro i v H5 H6 hi ⟨sm6, hpd⟩ ⟨rfl, ex⟩
    have hi' : i < ts.length := by
      rw [List.length_map] at hi
      exact hi
    obtain ⟨t, ht⟩ : ∃ t, ts[i]? = some t := get_of rfl hi'
    obtain ⟨d, hd⟩ : ∃ d, path[i]? = some d := get_of st.1.symm hi'
    rw [List.getElem?_map, ht] at ex
    cases ex
    obtain ⟨u, v, e⟩ := st.2 i t d ht hd
    refine ⟨t, _, rfl, SqT.of (sm6 _ _ e), rfl, _, _, rfl, _, _, rfl, _, _, rfl, rfl, rfl, lcYes ?_⟩
    refine ⟨_, rfl, _, hpd, ?_, sm6.at npd, ?_⟩
    · rw [nv_len, List.length_take]
      exact small1000 (Nat.le_trans (Nat.min_le_right _ _) hpl)
    · rw [upd_same, ← nv_snoc, List.take_add_one, hd]
      rfl
  · rintro H5 ⟨sm6, hpd⟩
    rw [List.length_map, st.1, List.take_length] at hpd
    exact q H5 pd path (sm5.trans sm6) (sm5.free npd) hpd wk nd
end
end K5

namespace K5
open PySem PySem.Spec PyProof.Rows L2
theorem bits29 {m : Int} (h0 : 0 < m) (h1 : m < 2 ^ 29) : ((Builtin.Int.intBits m : Nat) : Int) / 30 = 0 := by
  have h : Builtin.Int.intBits m ≤ 29 := by
    unfold Builtin.Int.intBits
    have hne : ¬ (m == 0) = true := fun z => by
      have := eq_of_beq z
      omega
    rw [if_neg hne]
    have : m.natAbs.log2 < 29 := (Nat.log2_lt (by omega)).mpr (by omega)
    omega
  omega
/-- a generator of draws: a list of three numbers, the third at most b -/
def GenAt (H : Hp) (g : Addr) (b : Nat) : Prop := ∃ x y z : Int, H g = some (.lst [.int x, .int y, .int z]) ∧ 0 ≤ x ∧ 0 ≤ z ∧ z ≤ (b : Int)
theorem GenAt.mono {H g b c} (h : GenAt H g b) (l : b ≤ c) : GenAt H g c := by
  obtain ⟨x, y, z, a, b, c, d⟩ := h
  exact ⟨x, y, z, a, b, c, by omega⟩
theorem GenAt.same {H H' g b} (h : GenAt H g b) (s : Same H H') : GenAt H' g b := by
  obtain ⟨x, y, z, a, b, c, d⟩ := h
  exact ⟨x, y, z, s _ _ a, b, c, d⟩
theorem GenAt.lst {H g b} (h : GenAt H g b) : ∃ xs, H g = some (.lst xs) := by
  obtain ⟨x, y, z, a, _⟩ := h
  exact ⟨_, a⟩
def spCell (K : PySem.W.Frag) : Sp := fun vs H Q _ => ∃ (a : Addr) (ns : List Int) (i : Int), vs = [.ref a, .int i] ∧ SqL K H a (ns.map V.int) ∧ 0 ≤ i ∧ ∀ z : Int, Q (.int z) H
def spHash : Sp := fun vs H Q _ => ∃ x i : Int, vs = [.int x, .int i] ∧ 0 ≤ i ∧ i < 2 ^ 62 ∧ ∀ z : Int, Q (.int z) H
def spGen (K : PySem.W.Frag) : Sp := fun vs H Q _ => ∃ (a : Addr) (ns : List Int) (i : Nat), vs = [.ref a, .int (i : Int)] ∧ SqL K H a (ns.map V.int) ∧ i ≤ 1000 ∧ ∀ (H' : Hp) (g : Addr), Same H H' → H g = none → GenAt H' g 1000000 → Q (.ref g) H'
def spRand : Sp := fun vs H Q _ => ∃ (g : Addr) (b m : Nat), vs = [.ref g, .int (m : Int)] ∧ GenAt H g b ∧ 0 < m ∧ m < 2 ^ 29 ∧ b < 2 ^ 60 ∧ ∀ (H' : Hp) (v : Nat), But g H H' → GenAt H' g (b + 1) → v < m → Q (.int (v : Int)) H'
section
variable {P : Program} {w : World} {K : PySem.W.Frag}
      {mg : Str → Option Value} {base : Heap}
theorem ok_cell (T : Bl mg) (D : Def K mg "_law_cell" s_l_cell) : Cal P w K mg base "_law_cell" ["_law_script", "_law_index"] 1 (spCell K) := by
  refine D.ok sc_l_cell (fun _ _ _ _ _ _ us hl => match us, hl with | [_, _], _ => rfl) (fun vs H Q E h => ?_) (fun f cdv A outer s H vs Q E hr h => ?_)
  · obtain ⟨a, ns, i, rfl, _⟩ := h
    rfl
  obtain ⟨a, ns, i, rfl, hs, hi, q⟩ := h
  refine ⟨_, (pss_cons (ps_if (pt_cmpR op_lt (pv 1) (pe_callB call_len_seq (by rfl) T.len PySem.boot_len (pa_cons (pv 0) pa_nil)) (nomark _)) (pss_one (ps_ret (pe_ix ix_list (pv 0) (pv 1) (fun _ _ => rfl)))) pss_nil)
    (pss_one (ps_ret pe_int))), ?_⟩
  refine ⟨_, rfl, _, rfl, _, _, rfl, .inl hs, _, _, rfl, rfl, _, rfl, ite2 (fun h => ?_) (fun h => ?_)⟩
  · have h := of_decide_eq_true h
    rw [List.length_map] at h
    obtain ⟨k, rfl⟩ : ∃ k : Nat, i = (k : Int) := ⟨i.toNat, by omega⟩
    have hk : k < ns.length := by omega
    refine ⟨_, rfl, _, rfl, _, _, _, _, rfl, rfl, hs, atI_nat (v := V.int ns[k]) (by rw [List.getElem?_map, List.getElem?_eq_getElem hk]; rfl), q _⟩
  · exact q 0
theorem ok_hash (T : Bl mg) (D : Def K mg "_law_hash" s_l_hash) : Cal P w K mg base "_law_hash" ["_law_seed", "_law_index"] 1 spHash := by
  refine D.ok sc_l_hash (fun _ _ _ _ _ _ us hl => match us, hl with | [_, _], _ => rfl) (fun vs H Q E h => ?_) (fun f cdv A outer s H vs Q E hr h => ?_)
  · obtain ⟨x, i, rfl, _⟩ := h
    rfl
  obtain ⟨x, i, rfl, h0, h1, q⟩ := h
  refine ⟨_, (pss_cons (ps_set (i := 2) sc_l_hash.nd rfl (.inl rfl) (pe_op op_mod (pe_op op_add (pe_op op_add (pe_op op_add (pe_op op_mul (pv 0) pe_int) (pe_op op_mul (pe_op op_mul pe_int (pv 1)) (pv 1))) (pv 1)) pe_int) pe_int))
    (pss_cons (ps_set (i := 2) sc_l_hash.nd rfl (.inl rfl) (pe_op op_mod (pe_op op_add (pe_op op_mul (pv 2) (pv 2)) pe_int) pe_int))
    (pss_one (ps_ret (pe_op op_mod (pe_op op_mul (pv 2) pe_int) pe_int))))), ?_⟩
  refine ⟨_, rfl, _, _, rfl, rfl, .inr (by decide), _, rfl, _, _, rfl, rfl, .inl (by decide), _, rfl, _, _, rfl, rfl, .inr ⟨by omega, by omega⟩, _, _, rfl, rfl, _, rfl, _, _, rfl, rfl, _, _, rfl, rfl, _, _, rfl, rfl, (by show (0 : Int) < 2147483647; decide), ?_⟩
  have b0 := Int.emod_nonneg (x * 1103515245 + 7919 * i * i + i + 1) (show (2147483647 : Int) ≠ 0 by decide)
  have b1 := Int.emod_lt_of_pos (x * 1103515245 + 7919 * i * i + i + 1) (show (0 : Int) < 2147483647 by decide)
  generalize (x * 1103515245 + 7919 * i * i + i + 1) % 2147483647 = u at b0 b1
  refine ⟨_, rfl, _, rfl, _, _, rfl, rfl, .inl ⟨by omega, by omega⟩, _, _, rfl, rfl, _, _, rfl, rfl, (by show (0 : Int) < 2147483629; decide), ?_⟩
  refine ⟨_, rfl, _, _, rfl, rfl, .inr (by decide), _, _, rfl, rfl, (by show (0 : Int) < 2147483587; decide), q _⟩
theorem ok_generator (T : Bl mg) (D : Def K mg "_law_generator" s_l_generator) (C_l_cell : Cal P w K mg base "_law_cell" ["_law_script", "_law_index"] 1 (spCell K)) : Cal P w K mg base "_law_generator" ["_law_script", "_law_index"] 2 (spGen K) := by
  refine D.ok sc_l_generator (fun _ _ _ _ _ _ us hl => match us, hl with | [_, _], _ => rfl) (fun vs H Q E h => ?_) (fun f cdv A outer s H vs Q E hr h => ?_)
  · obtain ⟨a, ns, i, rfl, _⟩ := h
    rfl
  obtain ⟨a, ns, i, rfl, hs, hi, q⟩ := h
  obtain ⟨f_l_cell, fd_l_cell, g_l_cell, k_l_cell, b_l_cell, G_l_cell⟩ := C_l_cell
  refine ⟨_, (pss_cons (ps_set (i := 2) sc_l_generator.nd rfl (.inl rfl) (pe_call G_l_cell (hr.mono (by decide)) (by rfl) g_l_cell k_l_cell b_l_cell .nil pass0 (pa_cons (pv 0) (pa_cons (pv 1) pa_nil))))
    (pss_one (ps_ret (pe_lst (pa_cons (pe_op op_mod (pe_callB (call_max2 rfl) (by rfl) T.max (by decide +kernel) (pa_cons (pe_op op_sub (pv 2) (pe_op op_pow pe_int pe_int)) (pa_cons pe_int pa_nil))) (pe_op op_powX (pe_op op_pow pe_int pe_int) pe_int)) (pa_cons (pe_op op_mod (pv 2) pe_int) (pa_cons (pe_op op_mul pe_int (pv 1)) pa_nil))))))), ?_⟩
  refine ⟨_, rfl, _, rfl, a, ns, _, rfl, hs, by omega, fun z => ?_⟩
  have hpos : (0 : Int) < (10 ^ (60 : Int).toNat) ^ (10 : Int).toNat := by decide +kernel
  refine ⟨_, rfl, _, _, rfl, rfl, ⟨by decide, by decide, by decide⟩, _, _, rfl, rfl, _, _, rfl, _, _, rfl, rfl, ⟨by decide, by decide, by decide⟩, _, _, rfl, rfl, (by decide +kernel), _, _, rfl, rfl, hpos, _, rfl, _, _, rfl, rfl, (by show (0 : Int) < 2147483647; decide), _, rfl, _, _, rfl, rfl, .inl (by decide), by show 3 ≤ sizeLine; decide, fun g ng => ?_⟩
  refine q _ g (Same.upd ng) ng ⟨_, _, _, upd_same, Int.emod_nonneg _ (by omega), by omega, by omega⟩
theorem ok_random (T : Bl mg) (D : Def K mg "_law_random" s_l_random) (C_l_hash : Cal P w K mg base "_law_hash" ["_law_seed", "_law_index"] 1 spHash) : Cal P w K mg base "_law_random" ["_law_generator_here", "_law_bound"] 2 spRand := by
  refine D.ok sc_l_random (fun _ _ _ _ _ _ us hl => match us, hl with | [_, _], _ => rfl) (fun vs H Q E h => ?_) (fun f cdv A outer s H vs Q E hr h => ?_)
  · obtain ⟨g, b, m, rfl, _⟩ := h
    rfl
  obtain ⟨g, b, m, rfl, ⟨x, y, z, hg, hx, hz, hzb⟩, hm, hm2, hb, q⟩ := h
  obtain ⟨f_l_hash, fd_l_hash, g_l_hash, k_l_hash, b_l_hash, G_l_hash⟩ := C_l_hash
  refine ⟨_, (pss_cons (ps_if (pt_cmpR op_gt (pe_ix ix_list (pv 0) pe_int (fun _ _ => rfl)) pe_int (nomark _)) (pss_cons (ps_set (i := 2) sc_l_random.nd rfl (.inl rfl) (pe_op op_mod (pe_ix ix_list (pv 0) pe_int (fun _ _ => rfl)) (pv 1)))
    (pss_cons (ps_asg (pe_op op_fdiv (pe_ix ix_list (pv 0) pe_int (fun _ _ => rfl)) (pv 1)) (pg_sub (pv 0) pe_int set_list))
    (pss_one (ps_ret (pv 2))))) pss_nil)
    (pss_cons (ps_set (i := 2) sc_l_random.nd rfl (.inl rfl) pe_int)
    (pss_cons (ps_for PassesOwn.never rfl (pi_range1 rfl T.range (pa_cons (pe_op op_add pe_int (pe_op op_fdiv (pe_bits (pv 1)) pe_int)) pa_nil)) (pg_name (i := 3) sc_l_random.nd rfl (.inl rfl))
    (pss_cons (ps_asg (pe_op op_add (pe_ix ix_list (pv 0) pe_int (fun _ _ => rfl)) pe_int) (pg_sub (pv 0) pe_int set_list))
    (pss_one (ps_set (i := 2) sc_l_random.nd rfl (.inl rfl) (pe_op op_add (pe_op op_mul (pv 2) pe_int) (pe_call G_l_hash (hr.mono (by decide)) (by rfl) g_l_hash k_l_hash b_l_hash .nil pass0 (pa_cons (pe_ix ix_list (pv 0) pe_int (fun _ _ => rfl)) (pa_cons (pe_ix ix_list (pv 0) pe_int (fun _ _ => rfl)) pa_nil))))))))
    (pss_one (ps_ret (pe_op op_mod (pv 2) (pv 1))))))), ?_⟩
  have hm' : (0 : Int) < (m : Int) := by omega
  refine ⟨_, rfl, _, _, _, V.int x, rfl, rfl, SqL.of hg, atI_nat (j := 0) (v := V.int x) rfl, _, _, rfl, rfl, _, rfl, ite2 (fun h => ?_) (fun h => ?_)⟩
  · refine ⟨_, rfl, _, _, _, V.int x, rfl, rfl, SqL.of hg, atI_nat (j := 0) (v := V.int x) rfl, _, rfl, _, _, rfl, rfl, hm', ?_⟩
    refine ⟨_, rfl, _, _, _, V.int x, rfl, rfl, SqL.of hg, atI_nat (j := 0) (v := V.int x) rfl, _, rfl, _, _, rfl, rfl, ⟨hm', by omega⟩, ?_⟩
    refine ⟨_, rfl, g, _, _, 0, rfl, rfl, hg, rfl, ?_⟩
    refine ⟨_, rfl, ?_⟩
    have e : x % (m : Int) = ((x % (m : Int)).toNat : Int) := (Int.toNat_of_nonneg (Int.emod_nonneg _ (by omega))).symm
    have l := Int.emod_lt_of_pos x hm'
    show Q (.int (x % (m : Int))) _
    rw [e]
    refine q _ _ (fun c o n e => by rw [upd_ne n]; exact e) ⟨x / (m : Int), y, z, upd_same, Int.ediv_nonneg hx (by omega), hz, by omega⟩ (by omega)
  · have eb : (1 : Int) + ((Builtin.Int.intBits (m : Int) : Nat) : Int) / 30 = 1 := by
      rw [bits29 hm' (by omega)]
      rfl
    refine ⟨_, rfl, _, rfl, _, _, rfl, rfl, ⟨by decide, by decide⟩, _, _, rfl, rfl, (1 : Int), congrArg (fun z => [V.int z]) eb, by decide, by decide, ?_⟩
    refine for_range (lo := 0) (n := 1) (fun i σ H1 => ∃ (r : Int) (y3 : Option V) (z1 : Int), σ = [some (.ref g), some (.int (m : Int)), some (.int r), y3] ∧ But g H H1 ∧ H1 g = some (.lst [.int x, .int y, .int z1]) ∧ 0 ≤ z1 ∧ z1 ≤ (b : Int) + (i : Int))
      ⟨0, _, z, rfl, fun _ _ _ e => e, hg, hz, by omega⟩ ?_ ?_
    · rintro i σ H1 hi ⟨r, y3, z1, rfl, bt, hg1, hz1, hz2⟩
      refine ⟨_, rfl, _, _, _, V.int z1, rfl, rfl, SqL.of hg1, atI_nat (j := 2) (v := V.int z1) rfl, _, _, rfl, rfl, _, rfl, g, _, _, 2, rfl, rfl, hg1, rfl, ?_⟩
      have hg2 : (upd H1 g (.lst [.int x, .int y, .int (z1 + 1)])) g = some (.lst [.int x, .int y, .int (z1 + 1)]) := upd_same
      refine ⟨_, rfl, _, _, rfl, rfl, .inr (by decide), _, rfl, _, _, _, V.int y, rfl, rfl, SqL.of hg2, atI_nat (j := 1) (v := V.int y) rfl, _, rfl, _, _, _, V.int (z1 + 1), rfl, rfl, SqL.of hg2, atI_nat (j := 2) (v := V.int (z1 + 1)) rfl, _, _, rfl, by omega, by omega, fun u => ?_⟩
      refine ⟨_, _, rfl, rfl, ?_⟩
      exact ⟨_, _, z1 + 1, rfl, bt.upd _, hg2, by omega, by omega⟩
    · rintro σ H1 ⟨r, y3, z1, rfl, bt, hg1, hz1, hz2⟩
      refine ⟨_, rfl, _, rfl, _, _, rfl, rfl, hm', ?_⟩
      have e : r % (m : Int) = ((r % (m : Int)).toNat : Int) := (Int.toNat_of_nonneg (Int.emod_nonneg _ (by omega))).symm
      have l := Int.emod_lt_of_pos r hm'
      show Q (.int (r % (m : Int))) _
      rw [e]
      exact q _ _ bt ⟨x, y, z1, hg1, hx, hz1, by omega⟩ (by omega)
end
end K5

namespace K5
open PySem PySem.Spec PyProof.Rows L2
theorem cons_erase {α : Type} : ∀ (l : List α) (i : Nat) (y : α), l[i]? = some y → (y :: l.eraseIdx i).Perm l
  | [], i, y, h => by simp at h
  | a :: r, 0, y, h => by
    have e : a = y := Option.some.inj h
    subst e
    exact List.Perm.refl _
  | a :: r, i + 1, y, h => ((List.Perm.swap a y _).trans ((cons_erase r i y h).cons a))
theorem _root_.L2.But.seq {K : PySem.W.Frag} {g a : Addr} {H H' : Hp} {xs : List V} (s : But g H H') (n : a ≠ g) (h : SqL K H a xs) : SqL K H' a xs := by
  rcases h with (h | ⟨o, h⟩) | h
  · exact .inl (.inl (s _ _ n h))
  · exact .inl (.inr ⟨o, s _ _ n h⟩)
  · exact .inr h
theorem _root_.L2.But.at {g p : Addr} {H H' : Hp} (s : But g H H') (n : H p = none) (o : HO) : But g H (upd H' p o) := fun b u ne e => by
  rw [upd_ne (ne_of_none e n)]
  exact s b u ne e
theorem _root_.L2.But.refl (g : Addr) (H : Hp) : But g H H := fun _ _ _ e => e
theorem _root_.L2.But.free {g p : Addr} {H H' : Hp} (s : But g H H') (ne : p ≠ g) (h : H' p = none) : H p = none := by
  cases q : H p with
  | none => rfl
  | some o =>
    rw [s p o ne q] at h
    cases h
theorem GenAt.at {H g b p o} (h : GenAt H g b) (n : p ≠ g) : GenAt (upd H p o) g b := by
  obtain ⟨x, y, z, a, r⟩ := h
  exact ⟨x, y, z, by rw [upd_ne n.symm]; exact a, r⟩
theorem GenAt.ne {H g b p} (h : GenAt H g b) (n : H p = none) : p ≠ g := by
  obtain ⟨x, y, z, a, r⟩ := h
  exact (ne_of_none a n).symm
theorem seq_nat {v n : Nat} (h : v < n) : seqIndex? (v : Int) n = some v := (ixN_seq (ixN_nat h)).1
def spShuf (K : PySem.W.Frag) : Sp := fun vs H Q _ => ∃ (g a : Addr) (b : Nat) (xs : List V), vs = [.ref g, .ref a] ∧ GenAt H g b ∧ SqL K H a xs ∧ a ≠ g ∧ xs.length ≤ 1000 ∧ b < 2 ^ 59 ∧
  ∀ (H' : Hp) (q : Addr) (ys : List V), But g H H' → GenAt H' g (b + xs.length) → H q = none → H' q = some (.lst ys) → ys.Perm xs → Q (.ref q) H'
section
variable {P : Program} {w : World} {K : PySem.W.Frag}
      {mg : Str → Option Value} {base : Heap}
theorem ok_shuffled (T : Bl mg) (D : Def K mg "_law_shuffled" s_l_shuffled) (C_l_random : Cal P w K mg base "_law_random" ["_law_generator_here", "_law_bound"] 2 spRand) : Cal P w K mg base "_law_shuffled" ["_law_generator_here", "_law_items"] 3 (spShuf K) := by
  refine D.ok sc_l_shuffled (fun _ _ _ _ _ _ us hl => match us, hl with | [_, _], _ => rfl) (fun vs H Q E h => ?_) (fun f cdv A outer s H vs Q E hr h => ?_)
  · obtain ⟨g, a, b, xs, rfl, _⟩ := h
    rfl
  obtain ⟨g, a, b, xs, rfl, hg, hs, nag, hxs, hb, q⟩ := h
  obtain ⟨f_l_random, fd_l_random, g_l_random, k_l_random, b_l_random, G_l_random⟩ := C_l_random
  refine ⟨_, (pss_cons (ps_set (i := 2) sc_l_shuffled.nd rfl (.inr rfl) (pe_callTy call_list_of (by rfl) T.list (by decide +kernel) (pa_cons (pv 1) pa_nil)))
    (pss_one (ps_ret (pe_lc (own := [("_law_item", 3)]) (g := gName 3)  (te := (tBM K "list" rPopAt (tVar 2) (tCons (tCall spRand [] E0 (tCons (tVar 0) (tCons (tCB (fun xs H Q => ∃ p ys, xs = [V.ref p] ∧ (SqL K H p ys ∨ SqT K H p ys) ∧ Q (.int ys.length) H) (tCons (tVar 2) tNil)) tNil))) tNil))) rfl sc_l_shuffled.nd (pi_list (pv 1)) (blkOk_by (N := N_l_shuffled) (sc := defScope s_l_shuffled) (own := [("_law_item", 3)]) (by decide +kernel)) (fun _ _ _ _ _ => (pg_name (i := 3) sc_l_shuffled.nd rfl (.inl rfl) (.inr rfl))) (fun _ _ _ _ _ => pts_nil) (fun _ _ _ _ _ => (pe_bm PySem.F.plainAttrs_list PySem.F.slot_list_pop PySem.F.type_list_pop mt_popAt (pv 2) (pa_cons (pe_call G_l_random (hr.mono (by decide)) (by rfl) g_l_random k_l_random b_l_random .nil pass0 (pa_cons (pv 0) (pa_cons (pe_callB call_len_seq (by rfl) T.len PySem.boot_len (pa_cons (pv 2) pa_nil)) pa_nil))) pa_nil))))))), ?_⟩
  refine ⟨_, rfl, a, xs, rfl, .inl hs, fun pp npp => ?_⟩
  have s1 := Same.upd (o := .lst xs) npp
  have h1 : (upd H pp (.lst xs)) pp = some (.lst xs) := upd_same
  have g1 := hg.same s1
  generalize upd H pp (.lst xs) = H1 at s1 h1 g1
  refine ⟨_, rfl, a, rfl, ⟨_, s1.seq hs⟩, fun pd npd => ?_⟩
  have ndp : pd ≠ pp := (ne_of_none h1 npd).symm
  have ndg : pd ≠ g := g1.ne npd
  have npg : pp ≠ g := hg.ne npp
  refine lc_it (walk_list (K := K) (a := a) (xs := xs)) (fun i H2 => ∃ acc pl, But g H H2 ∧ GenAt H2 g (b + i) ∧ H2 pp = some (.lst pl) ∧ H2 pd = some (.lst acc) ∧ (acc ++ pl).Perm xs ∧ acc.length = i)
    ⟨[], xs, s1.but.at (s1.free npd) _, g1.at ndg, by rw [upd_ne ndp.symm]; exact h1, upd_same, List.Perm.refl _, rfl⟩ (fun i H2 _ ⟨_, _, bt, _⟩ => bt.seq nag hs) ?_ ?_
  · rintro i v H2 H3 hi ⟨acc, pl, bt, g2, h2, hd2, pm, hl⟩ ⟨rfl, ex⟩
    have hlen := pm.length_eq
    rw [List.length_append] at hlen
    refine ⟨rfl, lcYes ?_⟩
    refine ⟨_, rfl, .inl ⟨rfl, _, SqL.of h2⟩, _, rfl, _, rfl, pp, pl, rfl, .inl (SqL.of h2), ?_⟩
    refine ⟨g, b + i, pl.length, rfl, g2, by omega, by omega, by omega, fun H4 u bt4 g4 hu => ?_⟩
    have h4 := bt4 _ _ npg h2
    have hd4 := bt4 _ _ ndg hd2
    obtain ⟨y, hy⟩ : ∃ y, pl[u]? = some y := ⟨_, List.getElem?_eq_getElem hu⟩
    refine ⟨pp, pl, _, u, y, rfl, rfl, h4, by omega, by omega, seq_nat hu, hy, ?_⟩
    refine ⟨acc, by rw [upd_ne ndp]; exact hd4, small1000 (by omega), acc ++ [y], pl.eraseIdx u, ?_, ?_, ?_, upd_same, ?_, by rw [List.length_append, hl]; rfl⟩
    · exact (((bt.trans bt4).at npp _).at (s1.free npd) _)
    · exact (g4.at npg).at ndg
    · rw [upd_ne ndp.symm, upd_same]
    · rw [List.append_assoc]
      exact (List.Perm.append_left acc (cons_erase pl u y hy)).trans pm
  · rintro H2 ⟨acc, pl, bt, g2, h2, hd2, pm, hl⟩
    have hlen := pm.length_eq
    rw [List.length_append] at hlen
    have : pl = [] := List.eq_nil_of_length_eq_zero (by omega)
    subst this
    rw [List.append_nil] at pm
    exact q H2 pd acc bt g2 (s1.free npd) hd2 pm
end
end K5

namespace K5
open PySem PySem.Spec PyProof.Rows L2
/-! ### moves and states, as plain mathematics -/
/-- person, start, end -/
abbrev Mv := Nat × Nat × Nat
/-- where each person is; whom each door bars -/
abbrev S2 := List Nat × List Nat
theorem Tree.one_door {n ds} (T : Tree n ds) {d c x y : Nat} (j : Joins ds d x y) (k : Joins ds c x y) : d = c := by
  obtain ⟨side, s1, s2⟩ := T.side
  refine Classical.byContradiction fun h => ?_
  exact side_join s1 j (side_other s2 k h)
/-- the door between two rooms -/
def dix (ds : List (Nat × Nat)) (x y : Nat) : Nat := ((List.range ds.length).find? fun d => decide (ds[d]? = some (x, y) ∨ ds[d]? = some (y, x))).getD 0
theorem joins_lt {ds : List (Nat × Nat)} {d x y : Nat} (j : Joins ds d x y) : d < ds.length := by
  rcases j with j | j
  · exact get_lt j
  · exact get_lt j
theorem dix_is {n ds} (T : Tree n ds) {d x y : Nat} (j : Joins ds d x y) : dix ds x y = d := by
  unfold dix
  cases h : (List.range ds.length).find? fun d => decide (ds[d]? = some (x, y) ∨ ds[d]? = some (y, x)) with
  | none =>
    have := List.find?_eq_none.mp h d (List.mem_range.mpr (joins_lt j))
    exact absurd (decide_eq_true (show ds[d]? = some (x, y) ∨ ds[d]? = some (y, x) from j)) this
  | some c =>
    have k : ds[c]? = some (x, y) ∨ ds[c]? = some (y, x) := by
      have := List.find?_some h
      exact of_decide_eq_true this
    exact T.one_door k j
/-- a move that names a person and a door -/
def VM (ds : List (Nat × Nat)) (P : Nat) (m : Mv) : Prop := m.1 < P ∧ ∃ d, Joins ds d m.2.1 m.2.2
/-- why the move is not possible -/
def why (ds : List (Nat × Nat)) (S : S2) (m : Mv) : Option String :=
  if S.1.getD m.1 0 ≠ m.2.1 then some "away" else if S.2.getD (dix ds m.2.1 m.2.2) 0 = m.1 then some "barred" else none
def nxt (ds : List (Nat × Nat)) (S : S2) (m : Mv) : S2 := (S.1.set m.1 m.2.2, S.2.set (dix ds m.2.1 m.2.2) m.1)
def runs (ds : List (Nat × Nat)) : Nat → S2 → List Mv → (Nat × String) ⊕ S2
  | _, S, [] => .inr S
  | i, S, m :: r => match why ds S m with
    | some w => .inl (i, w)
    | none => runs ds (i + 1) (nxt ds S m) r
structure StOk (n : Nat) (ds : List (Nat × Nat)) (S : S2) : Prop where
  one : 1 ≤ S.1.length
  few : S.1.length ≤ 10
  rooms : ∀ x ∈ S.1, x < n
  doors : S.2.length = ds.length
  bars : ∀ y ∈ S.2, y < S.1.length
theorem StOk.nxt {n ds S m} (T : Tree n ds) (h : StOk n ds S) (v : VM ds S.1.length m) : StOk n ds (nxt ds S m) := by
  obtain ⟨v1, d, j⟩ := v
  obtain ⟨_, l2, _, _⟩ := j.lt T
  have e1 : (K5.nxt ds S m).1.length = S.1.length := List.length_set
  refine ⟨by rw [e1]; exact h.one, by rw [e1]; exact h.few, fun x hx => ?_, by rw [show (K5.nxt ds S m).2.length = S.2.length from List.length_set]; exact h.doors, fun y hy => ?_⟩
  · rcases List.mem_or_eq_of_mem_set hx with q | q
    · exact h.rooms x q
    · rw [q]; exact l2
  · rw [e1]
    rcases List.mem_or_eq_of_mem_set hy with q | q
    · exact h.bars y q
    · rw [q]; exact v1
theorem nxt_len {ds S m} : (nxt ds S m).1.length = S.1.length := List.length_set
theorem runs_drop {ds : List (Nat × Nat)} {S : S2} {ms : List Mv} {k : Nat} {m : Mv} (h : ms[k]? = some m) : runs ds k S (ms.drop k) = match why ds S m with
    | some w => .inl (k, w)
    | none => runs ds (k + 1) (nxt ds S m) (ms.drop (k + 1)) := by
  have hk := get_lt h
  have e : ms.drop k = m :: ms.drop (k + 1) := by
    rw [List.drop_eq_getElem_cons hk]
    rw [List.getElem?_eq_getElem hk] at h
    rw [Option.some.inj h]
  rw [e]
  rfl
/-- the moves that are possible -/
def Can (ds : List (Nat × Nat)) (S : S2) (m : Mv) : Prop := m.1 < S.1.length ∧ S.1[m.1]? = some m.2.1 ∧ ∃ d, Joins ds d m.2.1 m.2.2 ∧ S.2[d]? ≠ some m.1
theorem Can.vm {ds S m} (h : Can ds S m) : VM ds S.1.length m := ⟨h.1, h.2.2.choose, h.2.2.choose_spec.1⟩
theorem getD_of {l : List Nat} {i x : Nat} (h : l[i]? = some x) : l.getD i 0 = x := by
  rw [List.getD_eq_getElem?_getD, h]
  rfl
theorem Can.why {n ds S m} (T : Tree n ds) (h : Can ds S m) (o : StOk n ds S) : why ds S m = none := by
  obtain ⟨h1, h2, d, j, h3⟩ := h
  unfold K5.why
  rw [if_neg (by rw [getD_of h2]; simp), dix_is T j]
  have hd : d < S.2.length := by rw [o.doors]; exact joins_lt j
  obtain ⟨b, hb⟩ : ∃ b, S.2[d]? = some b := get_of rfl hd
  rw [getD_of hb, if_neg]
  intro z
  exact h3 (by rw [hb, z])
def mcode (m : Mv) : Int := TS.code 64 [(m.1 : Int), (m.2.1 : Int), (m.2.2 : Int)]
theorem mcode_is (m : Mv) : mcode m = (m.1 : Int) * 4096 + (m.2.1 : Int) * 64 + (m.2.2 : Int) := by
  unfold mcode
  show (m.1 : Int) * 64 ^ 2 + ((m.2.1 : Int) * 64 ^ 1 + ((m.2.2 : Int) * 64 ^ 0 + 0)) = _
  rw [show (64 : Int) ^ 2 = 4096 by decide, show (64 : Int) ^ 1 = 64 by decide, show (64 : Int) ^ 0 = 1 by decide]
  omega
def Sm (m : Mv) : Prop := m.1 < 64 ∧ m.2.1 < 64 ∧ m.2.2 < 64
theorem mcode_inj {m m' : Mv} (a : Sm m) (b : Sm m') (e : mcode m = mcode m') : m = m' := by
  obtain ⟨x, y, z⟩ := m
  obtain ⟨x', y', z'⟩ := m'
  rw [mcode_is, mcode_is] at e
  unfold Sm at a b
  simp only at e a b
  have h1 : x = x' := by omega
  have h2 : y = y' := by omega
  have h3 : z = z' := by omega
  rw [h1, h2, h3]
/-- the moves with P, each once, ascending -/
structure Canon (l : List Mv) (P : Mv → Prop) : Prop where
  mem : ∀ m, m ∈ l ↔ P m
  sm : ∀ m ∈ l, Sm m
  asc : l.Pairwise fun a b => mcode a < mcode b
theorem asc_unique : ∀ (l l' : List Mv), (l.Pairwise fun a b => mcode a < mcode b) → (l'.Pairwise fun a b => mcode a < mcode b) → (∀ m, m ∈ l ↔ m ∈ l') → (∀ m ∈ l, Sm m) → l = l'
  | [], [], _, _, _, _ => rfl
  | [], b :: r, _, _, h, _ => by
    have := (h b).mpr List.mem_cons_self
    cases this
  | a :: r, [], _, _, h, _ => by
    have := (h a).mp List.mem_cons_self
    cases this
  | a :: r, b :: r', p, p', h, sm => by
    obtain ⟨p1, p2⟩ := List.pairwise_cons.mp p
    obtain ⟨q1, q2⟩ := List.pairwise_cons.mp p'
    have e : a = b := by
      rcases List.mem_cons.mp ((h a).mp List.mem_cons_self) with e | h1
      · exact e
      · rcases List.mem_cons.mp ((h b).mpr List.mem_cons_self) with e | h2
        · exact e.symm
        · have := p1 b h2
          have := q1 a h1
          omega
    subst e
    have : r = r' := by
      refine asc_unique r r' p2 q2 (fun m => ?_) fun m hm => sm m (List.mem_cons_of_mem _ hm)
      constructor
      · intro hm
        rcases List.mem_cons.mp ((h m).mp (List.mem_cons_of_mem _ hm)) with e | h1
        · subst e
          have := p1 m hm
          omega
        · exact h1
      · intro hm
        rcases List.mem_cons.mp ((h m).mpr (List.mem_cons_of_mem _ hm)) with e | h1
        · subst e
          have := q1 m hm
          omega
        · exact h1
    rw [this]
theorem Canon.unique {l l' P} (a : Canon l P) (b : Canon l' P) : l = l' := asc_unique l l' a.asc b.asc (fun m => (a.mem m).trans (b.mem m).symm) a.sm
/-! ### how they stand in the heap -/
def tI (m : Mv) : List V := [.int (m.1 : Int), .int (m.2.1 : Int), .int (m.2.2 : Int)]
def TL (H : Hp) (ts : List Addr) (l : List Mv) : Prop := ts.length = l.length ∧ ∀ (i : Nat) (t : Addr) (m : Mv), ts[i]? = some t → l[i]? = some m → H t = some (.tup (tI m))
def TrisAt (H : Hp) (q : Addr) (l : List Mv) : Prop := ∃ ts : List Addr, H q = some (.lst (ts.map V.ref)) ∧ TL H ts l
def StateAt (K : PySem.W.Frag) (H : Hp) (a : Addr) (S : S2) : Prop := ∃ r b : Addr, SqT K H a [.ref r, .ref b] ∧ SqT K H r (nv S.1) ∧ SqT K H b (nv S.2)
section
variable {K : PySem.W.Frag} {H H' : Hp} {a g q t : Addr} {S : S2} {l : List Mv} {ts : List Addr} {m : Mv}
theorem StateAt.same (h : StateAt K H a S) (s : Same H H') : StateAt K H' a S := by
  obtain ⟨r, b, h1, h2, h3⟩ := h
  exact ⟨r, b, s.tup h1, s.tup h2, s.tup h3⟩
theorem StateAt.but {xs : List V} (h : StateAt K H a S) (hg : H g = some (.lst xs)) (s : But g H H') : StateAt K H' a S := by
  obtain ⟨r, b, h1, h2, h3⟩ := h
  exact ⟨r, b, s.tup hg h1, s.tup hg h2, s.tup hg h3⟩
theorem TL.same (h : TL H ts l) (s : Same H H') : TL H' ts l := ⟨h.1, fun i t m x y => s _ _ (h.2 i t m x y)⟩
theorem TL.but {xs : List V} (h : TL H ts l) (hg : H g = some (.lst xs)) (s : But g H H') : TL H' ts l := ⟨h.1, fun i t m x y => s _ _ (ne_lt hg (h.2 i t m x y)) (h.2 i t m x y)⟩
theorem TL.nil : TL H [] [] := ⟨rfl, fun i t m x => by simp at x⟩
theorem TL.append {ts2 : List Addr} {l2 : List Mv} (h : TL H ts l) (h2 : TL H ts2 l2) : TL H (ts ++ ts2) (l ++ l2) := by
  refine ⟨by rw [List.length_append, List.length_append, h.1, h2.1], fun i t m x y => ?_⟩
  by_cases hi : i < ts.length
  · rw [List.getElem?_append_left hi] at x
    rw [List.getElem?_append_left (by rw [← h.1]; exact hi)] at y
    exact h.2 i t m x y
  · rw [List.getElem?_append_right (by omega)] at x
    rw [List.getElem?_append_right (by rw [← h.1]; omega), ← h.1] at y
    exact h2.2 _ t m x y
theorem TL.one (h : H t = some (.tup (tI m))) : TL H [t] [m] := by
  refine ⟨rfl, fun i t' m' x y => ?_⟩
  match i with
  | 0 => cases x; cases y; exact h
  | i + 1 => simp at x
theorem TL.take (h : TL H ts l) (k : Nat) : TL H (ts.take k) (l.take k) := by
  refine ⟨by rw [List.length_take, List.length_take, h.1], fun i t m x y => ?_⟩
  rw [List.getElem?_take] at x y
  split at x
  · rename_i hi
    rw [if_pos hi] at y
    exact h.2 i t m x y
  · cases x
theorem TL.drop (h : TL H ts l) (k : Nat) : TL H (ts.drop k) (l.drop k) := by
  refine ⟨by rw [List.length_drop, List.length_drop, h.1], fun i t m x y => ?_⟩
  rw [List.getElem?_drop] at x y
  exact h.2 _ t m x y
theorem TrisAt.same (h : TrisAt H q l) (s : Same H H') : TrisAt H' q l := by
  obtain ⟨ts, h1, h2⟩ := h
  exact ⟨ts, s _ _ h1, h2.same s⟩
theorem TL.perm (h : TL H ts l) {ys : List V} (p : ys.Perm (ts.map V.ref)) : ∃ (ts' : List Addr) (l' : List Mv), ys = ts'.map V.ref ∧ l'.Perm l ∧ TL H ts' l' := by
  have e1 : ts.map V.ref = (ts.zip l).map (fun z => V.ref z.1) := by
    have e : (ts.zip l).map (fun z => V.ref z.1) = ((ts.zip l).map Prod.fst).map V.ref := by rw [List.map_map]; rfl
    rw [e, List.map_fst_zip (by rw [h.1]; omega)]
  rw [e1] at p
  obtain ⟨zs, ez, pz⟩ := perm_of_map _ _ _ p
  refine ⟨zs.map Prod.fst, zs.map Prod.snd, by rw [ez, List.map_map]; rfl, ?_, by simp, fun i t e a b => ?_⟩
  · have q := pz.map Prod.snd
    rw [List.map_snd_zip (by rw [h.1]; omega)] at q
    exact q
  · rw [List.getElem?_map] at a b
    cases hz : zs[i]? with
    | none => rw [hz] at a; cases a
    | some z =>
      rw [hz] at a b
      cases a
      cases b
      have hm := pz.mem_iff.mp (List.mem_of_getElem? hz)
      obtain ⟨j, hj⟩ := List.mem_iff_getElem?.mp hm
      rw [List.getElem?_zip_eq_some] at hj
      exact h.2 j _ _ hj.1 hj.2
/-- sorted's answer over such moves -/
theorem sorted_canon {ys : List V} {P : Mv → Prop} (h : TL H ts l) (mem : ∀ m, m ∈ l ↔ P m) (sm : ∀ m ∈ l, Sm m) (nd : l.Nodup) (pm : ys.Perm (ts.map V.ref))
    (asc : ys.Pairwise fun x y => ∀ n m, TupI K H x n → TupI K H y m → TS.code 64 n ≤ TS.code 64 m) : ∃ (ts' : List Addr) (l' : List Mv), ys = ts'.map V.ref ∧ Canon l' P ∧ TL H ts' l' := by
  obtain ⟨ts', l', rfl, pl, tl⟩ := h.perm pm
  have nd' := pl.nodup_iff.mpr nd
  refine ⟨ts', l', rfl, ⟨fun m => pl.mem_iff.trans (mem m), fun m hm => sm m (pl.mem_iff.mp hm), ?_⟩, tl⟩
  rw [List.pairwise_iff_getElem]
  intro i j hi hj hij
  have hi' : i < ts'.length := by rw [tl.1]; exact hi
  have hj' : j < ts'.length := by rw [tl.1]; exact hj
  have a1 := List.pairwise_iff_getElem.mp asc i j (by rw [List.length_map]; exact hi') (by rw [List.length_map]; exact hj') hij
  rw [List.getElem_map, List.getElem_map] at a1
  have t1 := tl.2 i ts'[i] l'[i] (List.getElem?_eq_getElem hi') (List.getElem?_eq_getElem hi)
  have t2 := tl.2 j ts'[j] l'[j] (List.getElem?_eq_getElem hj') (List.getElem?_eq_getElem hj)
  have le : mcode l'[i] ≤ mcode l'[j] := a1 _ _ ⟨_, rfl, SqT.of t1⟩ ⟨_, rfl, SqT.of t2⟩
  have ne : mcode l'[i] ≠ mcode l'[j] := by
    intro e
    have := mcode_inj (sm _ (pl.mem_iff.mp (List.getElem_mem hi))) (sm _ (pl.mem_iff.mp (List.getElem_mem hj))) e
    exact absurd this (List.pairwise_iff_getElem.mp nd' i j hi hj hij)
  omega
theorem tup_of {m : Mv} (h : H t = some (.tup (tI m))) (sm : Sm m) : ∃ ns, TupI K H (.ref t) ns ∧ ns.length = 3 ∧ TS.Bd 64 ns := by
  refine ⟨[(m.1 : Int), (m.2.1 : Int), (m.2.2 : Int)], ⟨t, rfl, SqT.of h⟩, rfl, ?_⟩
  obtain ⟨h1, h2, h3⟩ := sm
  intro x hx
  simp only [List.mem_cons, List.not_mem_nil,
        or_false] at hx
  rcases hx with rfl | rfl | rfl <;> omega
end
/-! ### as data -/
def dM (m : Mv) : PyData := .tuple [.int (m.1 : Int), .int (m.2.1 : Int), .int (m.2.2 : Int)]
def dMs (l : List Mv) : PyData := .list (l.map dM)
def dIs (l : List Nat) : List PyData := (l.map fun x : Nat => (x : Int)).map PyData.int
def dS (S : S2) : PyData := .tuple [.tuple (dIs S.1), .tuple (dIs S.2)]
def dO : (Nat × String) ⊕ S2 → PyData
  | .inl (i, w) => .list [.int (i : Int), .tuple [.str (Str.ofString w)]]
  | .inr S => dS S
theorem dIs_lay : ∀ l : List Nat, PyData.canLayAll0 (dIs l) = true
  | [] => by simp [dIs, PyData.canLayAll0]
  | x :: r => by
    have := dIs_lay r
    unfold dIs at this ⊢
    simp only [List.map_cons, PyData.canLayAll0, PyData.canLay0, this, Bool.and_true]
theorem dIs_depth : ∀ l : List Nat, PyData.depthAll (dIs l) ≤ 1
  | [] => by simp [dIs, PyData.depthAll]
  | x :: r => by
    have := dIs_depth r
    unfold dIs at this ⊢
    simp only [List.map_cons, PyData.depthAll,
          PyData.depth]
    omega
theorem dM_lay (z : Mv) : (dM z).canLay0 = true := by simp [dM, PyData.canLay0, PyData.canLayAll0]
theorem dM_depth (z : Mv) : (dM z).depth ≤ 2 := by simp [dM, PyData.depth, PyData.depthAll]
theorem dMs_lay : ∀ zs : List Mv, PyData.canLayAll0 (zs.map dM) = true
  | [] => by simp [PyData.canLayAll0]
  | z :: zs => by simp [PyData.canLayAll0, dM_lay z, dMs_lay zs]
theorem dMs_depth : ∀ zs : List Mv, PyData.depthAll (zs.map dM) ≤ 2
  | [] => by simp [PyData.depthAll]
  | z :: zs => by
    have h1 := dMs_depth zs
    have h2 := dM_depth z
    simp only [List.map_cons, PyData.depthAll]
    omega
theorem shaped_mk {d : PyData} (h1 : d.canLay0 = true) (h2 : d.depth ≤ 64) : SeqAt.shaped d = true := by
  show (d.canLay0 && decide (d.depth ≤ 64)) = true
  rw [h1, decide_eq_true h2]
  rfl
theorem dMs_shaped (l : List Mv) : SeqAt.shaped (dMs l) = true := by
  have h := dMs_depth l
  refine shaped_mk ?_ ?_
  · simp only [dMs, PyData.canLay0]
    exact dMs_lay l
  · simp only [dMs, PyData.depth]
    omega
theorem dS_shaped (S : S2) : SeqAt.shaped (dS S) = true := by
  have h1 := dIs_depth S.1
  have h2 := dIs_depth S.2
  have h3 := dIs_lay S.1
  have h4 := dIs_lay S.2
  refine shaped_mk ?_ ?_
  · simp only [dS, PyData.canLay0, PyData.canLayAll0, h3, h4, Bool.and_true]
  · simp only [dS, PyData.depth, PyData.depthAll]
    omega
theorem dO_shaped {o : (Nat × String) ⊕ S2} (h : ∀ i w, o = .inl (i, w) → w = "away" ∨ w = "barred") : SeqAt.shaped (dO o) = true := by
  match o, h with
  | .inl (i, w), h =>
    have hw : PyData.strOk (Str.ofString w) = true := by
      rcases h i w rfl with rfl | rfl
      · decide +kernel
      · decide +kernel
    refine shaped_mk ?_ ?_
    · simp only [dO, PyData.canLay0, PyData.canLayAll0, hw, Bool.and_true]
    · simp only [dO, PyData.depth, PyData.depthAll]
      omega
  | .inr S, _ => exact dS_shaped S
theorem why_word {ds S m w} (h : why ds S m = some w) : w = "away" ∨ w = "barred" := by
  unfold why at h
  split at h
  · exact .inl (Option.some.inj h).symm
  · split at h
    · exact .inr (Option.some.inj h).symm
    · cases h
theorem runs_word {ds : List (Nat × Nat)} : ∀ {ms : List Mv} {k : Nat} {S : S2} {i : Nat} {w : String}, runs ds k S ms = .inl (i, w) → w = "away" ∨ w = "barred"
  | [], k, S, i, w, h => by
    rw [runs] at h
    cases h
  | m :: r, k, S, i, w, h => by
    rw [runs] at h
    split at h
    · rename_i w' e
      cases h
      exact why_word e
    · exact runs_word h
theorem d_refl {d : PyData} (h : SeqAt.shaped d = true) : PyData.eqv d d = true := SeqAt.eqv_refl _ (SeqAt.canLay_of_shaped h)
section
variable {K : PySem.W.Frag} {H : Hp} {a q t : Addr} {S : S2} {l : List Mv} {ts : List Addr} {m : Mv}
theorem dp_is : ∀ l : List Nat, DpAll K H (nv l) (dIs l)
  | [] => .nil
  | x :: r => .cons (.int _) (dp_is r)
theorem dp_S (h : StateAt K H a S) : Dp K H (.ref a) (dS S) := by
  obtain ⟨r, b, h1, h2, h3⟩ := h
  exact .tup h1 (.cons (.tup h2 (dp_is _)) (.cons (.tup h3 (dp_is _)) .nil))
theorem dp_M (h : H t = some (.tup (tI m))) : Dp K H (.ref t) (dM m) := .tup (SqT.of h) (.cons (.int _) (.cons (.int _) (.cons (.int _) .nil)))
theorem dp_Ms : ∀ (ts : List Addr) (l : List Mv), TL H ts l → DpAll K H (ts.map V.ref) (l.map dM)
  | [], [], _ => .nil
  | [], m :: l, h => by have := h.1; simp at this
  | t :: ts, [], h => by have := h.1; simp at this
  | t :: ts, m :: l, h => .cons (dp_M (h.2 0 t m rfl rfl)) (dp_Ms ts l ⟨by have := h.1; simpa using this, fun i t' m' x y => h.2 (i + 1) t' m' x y⟩)
theorem dp_Tris (h : TrisAt H q l) : Dp K H (.ref q) (dMs l) := by
  obtain ⟨ts, h1, h2⟩ := h
  exact .lst (SqL.of h1) (dp_Ms ts l h2)
end
end K5

namespace K5
open PySem PySem.Spec PyProof.Rows L2
/-- steps (door, start, end) from a to b -/
def Trl (ds : List (Nat × Nat)) : Nat → List Mv → Nat → Prop
  | a, [], b => a = b
  | a, m :: r, b => m.2.1 = a ∧ Joins ds m.1 m.2.1 m.2.2 ∧ Trl ds m.2.2 r b
theorem Trl.snoc {ds : List (Nat × Nat)} {d y z : Nat} : ∀ {r : List Mv} {a : Nat}, Trl ds a r y → Joins ds d y z → Trl ds a (r ++ [(d, y, z)]) z
  | [], a, h, j => by
    have h : a = y := h
    subst h
    exact ⟨rfl, j, rfl⟩
  | m :: r, a, h, j => ⟨h.1, h.2.1, Trl.snoc h.2.2 j⟩
theorem Trl.walk {ds : List (Nat × Nat)} : ∀ {r : List Mv} {a b : Nat}, Trl ds a r b → Walk ds a (r.map Prod.fst) b
  | [], a, b, h => by
    have h : a = b := h
    subst h
    exact .nil _
  | m :: r, a, b, h => by
    obtain ⟨h1, h2, h3⟩ := h
    rw [h1] at h2
    exact .cons h2 (Trl.walk h3)
theorem nv_some {L : List Nat} {k : Nat} {x : V} (h : (nv L)[k]? = some x) : ∃ v, L[k]? = some v ∧ x = .int (v : Int) := by
  unfold nv at h
  rw [List.getElem?_map] at h
  cases e : L[k]? with
  | none => rw [e] at h; cases h
  | some v => rw [e] at h; exact ⟨v, rfl, (Option.some.inj h).symm⟩
/-- the doors that bar p -/
def barr (S : S2) (p : Nat) : List Nat := (List.range S.2.length).filter fun d => decide (S.2[d]? = some p)
theorem mem_barr {S : S2} {p d : Nat} : d ∈ barr S p ↔ S.2[d]? = some p := by
  unfold barr
  rw [List.mem_filter, List.mem_range]
  constructor
  · rintro ⟨_, h⟩
    exact of_decide_eq_true h
  · intro h
    exact ⟨get_lt h, decide_eq_true h⟩
theorem barr_len {S : S2} {p : Nat} : (barr S p).length ≤ S.2.length := by
  have := List.length_filter_le (fun d => decide (S.2[d]? = some p)) (List.range S.2.length)
  rw [List.length_range] at this
  exact this
/-- the rooms that a search finds; each with its way back -/
structure Reg (n : Nat) (ds : List (Nat × Nat)) (shut : List Nat) (room : Nat) (ks : List (Nat × Option (Nat × Nat))) : Prop where
  df : Dfs n ds shut (ks.map Prod.fst) []
  pt : Ptr ds shut room ks
  rm : room ∈ ks.map Prod.fst
def spStepsT (K : PySem.W.Frag) : Sp := fun vs H Q _ => ∃ (p : Addr) (a n room : Nat) (ds : List (Nat × Nat)) (shut : List Nat) (kvs : List (Key × V)) (ks : List (Nat × Option (Nat × Nat))), vs = [.ref p, .int (a : Int)] ∧ H p = some (.dK kvs) ∧ DicR (WayR H) kvs ks ∧ Ptr ds shut room ks ∧
  Tree n ds ∧ ks.length ≤ 1000 ∧ a ∈ ks.map Prod.fst ∧ ∀ (H' : Hp) (q : Addr) (tr : List Mv), Same H H' → H q = none → TrisAt H' q tr → Trl ds a tr room → (tr.map Prod.fst).Nodup → (∀ m ∈ tr, m.1 ∉ shut) → tr.length ≤ 1000 → Q (.ref q) H'
def spSt (K : PySem.W.Frag) : Sp := fun vs H Q _ => ∃ (a s : Addr) (ds : List (Nat × Nat)) (n : Nat) (S : S2), vs = [.ref a, .ref s] ∧ HouseAt K H a ds ∧ Tree n ds ∧ n ≤ 1000 ∧ StateAt K H s S ∧ StOk n ds S ∧ ∀ H', Same H H' → Q .non H'
def spShape (K : PySem.W.Frag) : Sp := fun vs H Q _ => ∃ (a s : Addr) (ds : List (Nat × Nat)) (n : Nat) (S : S2), vs = [.ref a, .ref s] ∧ HouseAt K H a ds ∧ StateAt K H s S ∧ StOk n ds S ∧ Q (.bl true) H
def spPerson (K : PySem.W.Frag) : Sp := fun vs H Q _ => ∃ (s : Addr) (p n : Nat) (ds : List (Nat × Nat)) (S : S2), vs = [.ref s, .int (p : Int)] ∧ StateAt K H s S ∧ StOk n ds S ∧ p < S.1.length ∧ Q .non H
def spBarring (K : PySem.W.Frag) : Sp := fun vs H Q _ => ∃ (s : Addr) (p n : Nat) (ds : List (Nat × Nat)) (S : S2), vs = [.ref s, .int (p : Int)] ∧ StateAt K H s S ∧ StOk n ds S ∧ n ≤ 1000 ∧ ds.length < n ∧ ∀ (H' : Hp) (q : Addr), Same H H' → H q = none → H' q = some (.lst (nv (barr S p))) → Q (.ref q) H'
def spRegWays (K : PySem.W.Frag) : Sp := fun vs H Q _ => ∃ (a s : Addr) (p n : Nat) (ds : List (Nat × Nat)) (S : S2), vs = [.ref a, .ref s, .int (p : Int)] ∧ HouseAt K H a ds ∧ Tree n ds ∧ n ≤ 1000 ∧ StateAt K H s S ∧ StOk n ds S ∧ p < S.1.length ∧
  ∀ (H' : Hp) (q : Addr) (kvs : List (Key × V)) (ks : List (Nat × Option (Nat × Nat))), Same H H' → H q = none → H' q = some (.dK kvs) → DicR (WayR H') kvs ks → Reg n ds (barr S p) (S.1.getD p 0) ks → Q (.ref q) H'
def spRegion (K : PySem.W.Frag) : Sp := fun vs H Q _ => ∃ (a s : Addr) (p n : Nat) (ds : List (Nat × Nat)) (S : S2), vs = [.ref a, .ref s, .int (p : Int)] ∧ HouseAt K H a ds ∧ Tree n ds ∧ n ≤ 60 ∧ StateAt K H s S ∧ StOk n ds S ∧ p < S.1.length ∧
  ∀ (H' : Hp) (q : Addr) (L : List Nat) (ks : List (Nat × Option (Nat × Nat))), Same H H' → H q = none → H' q = some (.lst (nv L)) → Reg n ds (barr S p) (S.1.getD p 0) ks → L.Perm (ks.map Prod.fst) → L.Pairwise (· ≤ ·) → Q (.ref q) H'
/-- walk_to: None where the room lies outside, else the steps of the way there -/
def spWalkTo (K : PySem.W.Frag) : Sp := fun vs H Q _ => ∃ (a s : Addr) (p x n : Nat) (ds : List (Nat × Nat)) (S : S2), vs = [.ref a, .ref s, .int (p : Int), .int (x : Int)] ∧ HouseAt K H a ds ∧ Tree n ds ∧ n ≤ 1000 ∧ StateAt K H s S ∧ StOk n ds S ∧ p < S.1.length ∧ x < n ∧
  (∀ (H' : Hp) (ks : List (Nat × Option (Nat × Nat))), Same H H' → Reg n ds (barr S p) x ks → S.1.getD p 0 ∉ ks.map Prod.fst → Q .non H') ∧
  (∀ (H' : Hp) (q : Addr) (tr : List Mv), Same H H' → H q = none → TrisAt H' q (tr.map fun m => (p, m.2.1, m.2.2)) → Trl ds (S.1.getD p 0) tr x → (tr.map Prod.fst).Nodup → (∀ m ∈ tr, m.1 ∉ barr S p) → tr.length ≤ 1000 → Q (.ref q) H')
section
variable {P : Program} {w : World} {K : PySem.W.Frag}
      {mg : Str → Option Value} {base : Heap}
theorem ok_has_state_shape (T : Bl mg) (D : Def K mg "has_state_shape" s_has_state_shape) : Cal P w K mg base "has_state_shape" ["house", "value"] 1 (spShape K) := by
  refine D.ok sc_has_state_shape (fun _ _ _ _ _ _ us hl => match us, hl with | [_, _], _ => rfl) (fun vs H Q E h => ?_) (fun f cdv A outer s H vs Q E hr h => ?_)
  · obtain ⟨a, s, ds, n, S, rfl, _⟩ := h
    rfl
  obtain ⟨a, s, ds, n, S, rfl, ⟨rs, hrs, hlen, hds⟩, ⟨r, b, h1, h2, h3⟩, ok, q⟩ := h
  refine ⟨_, (pss_cons (ps_if (PW.pt (pw_or (pt_not (pt_val (pe_callB call_isi (by rfl) T.isinstance (by decide +kernel) (pa_cons (pv 1) (pa_cons (pe_bltn (v := .ty "tuple") (u := .type "tuple") (by rfl) T.tuple (by decide +kernel) rfl) pa_nil))))) (pw_or1 (pt_cmpR op_ne (pe_callB call_len_seq (by rfl) T.len PySem.boot_len (pa_cons (pv 1) pa_nil)) pe_int (nomark _))))) (pss_one (ps_ret pe_bl)) pss_nil)
    (pss_cons (ps_asg (pv 1) (pg_tup (n := 2) rfl (pgs_cons (pg_name (i := 2) sc_has_state_shape.nd rfl (.inl rfl)) (pgs_cons (pg_name (i := 3) sc_has_state_shape.nd rfl (.inl rfl)) pgs_nil))))
    (pss_cons (ps_if (PW.pt (pw_or (pt_not (pt_val (pe_callB call_isi (by rfl) T.isinstance (by decide +kernel) (pa_cons (pv 2) (pa_cons (pe_bltn (v := .ty "tuple") (u := .type "tuple") (by rfl) T.tuple (by decide +kernel) rfl) pa_nil))))) (pw_or1 (pt_not (pt_val (pe_callB call_isi (by rfl) T.isinstance (by decide +kernel) (pa_cons (pv 3) (pa_cons (pe_bltn (v := .ty "tuple") (u := .type "tuple") (by rfl) T.tuple (by decide +kernel) rfl) pa_nil)))))))) (pss_one (ps_ret pe_bl)) pss_nil)
    (pss_one (ps_ret (pe_and (pe_cmpR op_ge (pe_callB call_len_seq (by rfl) T.len PySem.boot_len (pa_cons (pv 2) pa_nil)) pe_int (nomark _)) (pe_one (pe_cmpR op_eq (pe_callB call_len_seq (by rfl) T.len PySem.boot_len (pa_cons (pv 3) pa_nil)) (pe_callB call_len_seq (by rfl) T.len PySem.boot_len (pa_cons (pv 0) pa_nil)) (nomark _))))))))), ?_⟩
  refine ⟨_, rfl, _, _, _, _, _, rfl, .ty _, ty_tup h1, kit_ty (r := true) (by decide +kernel), _, rfl, iteF ?_⟩
  refine ⟨_, rfl, _, _, rfl, .inr h1, rfl, _, rfl, iteF ?_⟩
  refine ⟨_, rfl, _, _, rfl, h1, rfl, _, _, rfl, _, _, rfl, rfl, ?_⟩
  refine ⟨_, rfl, _, _, _, _, _, rfl, .ty _, ty_tup h2, kit_ty (r := true) (by decide +kernel), _, rfl, iteF ?_⟩
  refine ⟨_, rfl, _, _, _, _, _, rfl, .ty _, ty_tup h3, kit_ty (r := true) (by decide +kernel), _, rfl, iteF ?_⟩
  have o1 := ok.one
  refine ⟨_, rfl, _, _, rfl, .inr h2, _, _, rfl, rfl, _, rfl, ?_⟩
  rw [decide_eq_true (show (1 : Int) ≤ ((nv S.1).length : Nat) by rw [nv_len]; omega)]
  refine iteT ⟨_, rfl, _, _, rfl, .inr h3, _, rfl, _, _, rfl, .inr hrs, rfl, ?_⟩
  rw [decide_eq_true (show V.int ((nv S.2).length : Nat) = V.int ((rs.map V.ref).length : Nat) by rw [nv_len, List.length_map, hlen, ok.doors])]
  exact q
theorem ok_check_state (T : Bl mg) (D : Def K mg "check_state" s_check_state) (C_need_house : Cal P w K mg base "need_house" ["house"] 5 (spRing K)) (C_has_state_shape : Cal P w K mg base "has_state_shape" ["house", "value"] 1 (spShape K))
    (C_is_index : Cal P w K mg base "is_index" ["value", "count"] 2 spIndex) : Cal P w K mg base "check_state" ["house", "value"] 6 (spSt K) := by
  refine D.ok sc_check_state (fun _ _ _ _ _ _ us hl => match us, hl with | [_, _], _ => rfl) (fun vs H Q E h => ?_) (fun f cdv A outer s H vs Q E hr h => ?_)
  · obtain ⟨a, s, ds, n, S, rfl, _⟩ := h
    rfl
  obtain ⟨a, s, ds, n, S, rfl, hH, tree, hn, st, ok, q⟩ := h
  obtain ⟨rs, hrs, hlen, hds⟩ := id hH
  obtain ⟨r, b, h1, h2, h3⟩ := id st
  have hdn := tree.len
  obtain ⟨f_need_house, fd_need_house, g_need_house, k_need_house, b_need_house, G_need_house⟩ := C_need_house
  obtain ⟨f_has_state_shape, fd_has_state_shape, g_has_state_shape, k_has_state_shape, b_has_state_shape, G_has_state_shape⟩ := C_has_state_shape
  obtain ⟨f_is_index, fd_is_index, g_is_index, k_is_index, b_is_index, G_is_index⟩ := C_is_index
  refine ⟨_, (pss_cons (ps_expr (pe_call G_need_house (hr.mono (by decide)) (by rfl) g_need_house k_need_house b_need_house .nil pass0 (pa_cons (pv 0) pa_nil)))
    (pss_cons (ps_if (pt_not (pt_val (pe_call G_has_state_shape (hr.mono (by decide)) (by rfl) g_has_state_shape k_has_state_shape b_has_state_shape .nil pass0 (pa_cons (pv 0) (pa_cons (pv 1) pa_nil))))) (pss_one (ps_ret (pe_tup (pa_cons pe_str pa_nil)))) pss_nil)
    (pss_cons (ps_asg (pv 1) (pg_tup (n := 2) rfl (pgs_cons (pg_name (i := 2) sc_check_state.nd rfl (.inl rfl)) (pgs_cons (pg_name (i := 3) sc_check_state.nd rfl (.inl rfl)) pgs_nil))))
    (pss_cons (ps_for PassesOwn.never rfl (pi_enumT (by rfl) T.enumerate (pa_cons (pv 2) pa_nil)) (pg_tup (n := 2) rfl (pgs_cons (pg_name (i := 4) sc_check_state.nd rfl (.inl rfl)) (pgs_cons (pg_name (i := 5) sc_check_state.nd rfl (.inl rfl)) pgs_nil)))
    (pss_one (ps_if (pt_not (pt_val (pe_call G_is_index (hr.mono (by decide)) (by rfl) g_is_index k_is_index b_is_index .nil pass0 (pa_cons (pv 5) (pa_cons (pe_op op_add (pe_callB call_len_seq (by rfl) T.len PySem.boot_len (pa_cons (pv 0) pa_nil)) pe_int) pa_nil))))) (pss_one (ps_ret (pe_tup (pa_cons pe_str (pa_cons (pv 4) pa_nil))))) pss_nil)))
    (pss_cons (ps_for PassesOwn.never rfl (pi_enumT (by rfl) T.enumerate (pa_cons (pv 3) pa_nil)) (pg_tup (n := 2) rfl (pgs_cons (pg_name (i := 6) sc_check_state.nd rfl (.inl rfl)) (pgs_cons (pg_name (i := 4) sc_check_state.nd rfl (.inl rfl)) pgs_nil)))
    (pss_one (ps_if (pt_not (pt_val (pe_call G_is_index (hr.mono (by decide)) (by rfl) g_is_index k_is_index b_is_index .nil pass0 (pa_cons (pv 4) (pa_cons (pe_callB call_len_seq (by rfl) T.len PySem.boot_len (pa_cons (pv 2) pa_nil)) pa_nil))))) (pss_one (ps_ret (pe_tup (pa_cons pe_str (pa_cons (pv 6) pa_nil))))) pss_nil)))
    (pss_one (ps_ret pe_non))))))), ?_⟩
  refine ⟨_, rfl, a, ds, n, rfl, hH, tree, hn, fun H1 s1 => ?_⟩
  refine ⟨_, rfl, _, rfl, a, s, ds, n, S, rfl, hH.same s1, st.same s1, ok, _, rfl, iteF ?_⟩
  refine ⟨_, rfl, _, _, rfl, s1.tup h1, rfl, _, _, rfl, _, _, rfl, rfl, ?_⟩
  refine ⟨_, rfl, r, _, rfl, s1.tup h2, ?_⟩
  refine for_it (walk_enumT (K := K) (a := r) (xs := nv S.1)) (fun k σ H2 => ∃ y4 y5 y6, σ = [some (.ref a), some (.ref s), some (.ref r), some (.ref b), y4, y5, y6] ∧ Same H H2)
    ⟨_, _, _, rfl, s1⟩ (fun i σ H2 _ ⟨_, _, _, _, sm⟩ => sm.tup h2) ?_ ?_
  · rintro k x σ H2 H3 hk ⟨y4, y5, y6, rfl, sm⟩ ⟨t, x1, x2, rfl, nt, rfl, ex1, ex2⟩
    cases ex1
    obtain ⟨v, hv, rfl⟩ := nv_some ex2
    have sm3 := sm.trans (Same.upd (o := .tup [.int (k : Nat), .int (v : Int)]) nt)
    have lv := ok.rooms v (List.mem_of_getElem? hv)
    refine ⟨t, _, rfl, SqT.of upd_same, rfl, _, _, rfl, _, _, rfl, rfl, ?_⟩
    refine ⟨_, rfl, _, rfl, _, _, rfl, .inr (sm3.tup hrs), _, _, rfl, rfl, _, _, rfl, _, rfl, ?_⟩
    rw [decide_eq_true (by rw [List.length_map, hlen]; omega)]
    exact iteF ⟨_, _, _, rfl, sm3⟩
  · rintro σ H2 ⟨y4, y5, y6, rfl, sm⟩
    refine ⟨_, rfl, b, _, rfl, sm.tup h3, ?_⟩
    refine for_it (walk_enumT (K := K) (a := b) (xs := nv S.2)) (fun k σ H2 => ∃ y4 y5 y6, σ = [some (.ref a), some (.ref s), some (.ref r), some (.ref b), y4, y5, y6] ∧ Same H H2)
      ⟨_, _, _, rfl, sm⟩ (fun i σ H2 _ ⟨_, _, _, _, sm⟩ => sm.tup h3) ?_ ?_
    · rintro k x σ H2 H3 hk ⟨y4, y5, y6, rfl, sm⟩ ⟨t, x1, x2, rfl, nt, rfl, ex1, ex2⟩
      cases ex1
      obtain ⟨v, hv, rfl⟩ := nv_some ex2
      have sm3 := sm.trans (Same.upd (o := .tup [.int (k : Nat), .int (v : Int)]) nt)
      have lv := ok.bars v (List.mem_of_getElem? hv)
      refine ⟨t, _, rfl, SqT.of upd_same, rfl, _, _, rfl, _, _, rfl, rfl, ?_⟩
      refine ⟨_, rfl, _, rfl, _, _, rfl, .inr (sm3.tup h2), _, _, rfl, _, rfl, ?_⟩
      rw [decide_eq_true (by rw [nv_len]; omega)]
      exact iteF ⟨_, _, _, rfl, sm3⟩
    · rintro σ H2 ⟨y4, y5, y6, rfl, sm⟩
      exact q H2 sm
theorem ok_need_state (T : Bl mg) (D : Def K mg "need_state" s_need_state) (C_check_state : Cal P w K mg base "check_state" ["house", "value"] 6 (spSt K)) : Cal P w K mg base "need_state" ["house", "state"] 7 (spSt K) := by
  refine D.ok sc_need_state (fun _ _ _ _ _ _ us hl => match us, hl with | [_, _], _ => rfl) (fun vs H Q E h => ?_) (fun f cdv A outer s H vs Q E hr h => ?_)
  · obtain ⟨a, s, ds, n, S, rfl, _⟩ := h
    rfl
  obtain ⟨a, s, ds, n, S, rfl, hH, tree, hn, st, ok, q⟩ := h
  obtain ⟨f_check_state, fd_check_state, g_check_state, k_check_state, b_check_state, G_check_state⟩ := C_check_state
  refine ⟨_, (pss_cons (ps_set (i := 2) sc_need_state.nd rfl (.inl rfl) (pe_call G_check_state (hr.mono (by decide)) (by rfl) g_check_state k_check_state b_check_state .nil pass0 (pa_cons (pv 0) (pa_cons (pv 1) pa_nil))))
    (pss_one (ps_if (pt_cmpR op_notN (pv 2) pe_non (nomark _)) pss_never pss_nil))), ?_⟩
  refine ⟨_, rfl, _, rfl, a, s, ds, n, S, rfl, hH, tree, hn, st, ok, fun H2 sm2 => ⟨_, rfl, rfl, _, rfl, iteF ?_⟩⟩
  exact q H2 sm2
theorem ok_need_person (T : Bl mg) (D : Def K mg "need_person" s_need_person) (C_is_index : Cal P w K mg base "is_index" ["value", "count"] 2 spIndex) : Cal P w K mg base "need_person" ["state", "person"] 3 (spPerson K) := by
  refine D.ok sc_need_person (fun _ _ _ _ _ _ us hl => match us, hl with | [_, _], _ => rfl) (fun vs H Q E h => ?_) (fun f cdv A outer s H vs Q E hr h => ?_)
  · obtain ⟨s, p, n, ds, S, rfl, _⟩ := h
    rfl
  obtain ⟨s, p, n, ds, S, rfl, ⟨r, b, h1, h2, h3⟩, ok, hp, q⟩ := h
  obtain ⟨f_is_index, fd_is_index, g_is_index, k_is_index, b_is_index, G_is_index⟩ := C_is_index
  refine ⟨_, (pss_one (ps_if (pt_not (pt_val (pe_call G_is_index (hr.mono (by decide)) (by rfl) g_is_index k_is_index b_is_index .nil pass0 (pa_cons (pv 1) (pa_cons (pe_callB call_len_seq (by rfl) T.len PySem.boot_len (pa_cons (pe_ix ix_tup (pv 0) pe_int (fun _ _ => rfl)) pa_nil)) pa_nil))))) pss_never pss_nil)), ?_⟩
  refine ⟨_, rfl, _, rfl, s, _, _, _, rfl, rfl, h1, atI_nat (j := 0) rfl, _, _, rfl, .inr h2, _, _, rfl, _, rfl, ?_⟩
  rw [decide_eq_true (by rw [nv_len]; omega)]
  exact iteF q
theorem ok_doors_barring (T : Bl mg) (D : Def K mg "doors_barring" s_doors_barring) : Cal P w K mg base "doors_barring" ["state", "person"] 1 (spBarring K) := by
  refine D.ok sc_doors_barring (fun _ _ _ _ _ _ us hl => match us, hl with | [_, _], _ => rfl) (fun vs H Q E h => ?_) (fun f cdv A outer s H vs Q E hr h => ?_)
  · obtain ⟨s, p, n, ds, S, rfl, _⟩ := h
    rfl
  obtain ⟨s, p, n, ds, S, rfl, ⟨r, b, h1, h2, h3⟩, ok, hn, hdn, q⟩ := h
  refine ⟨_, (pss_one (ps_ret (pe_lc (own := [("door", 2), ("who", 3)]) (g := gTup K 2 (gCons (gName 2) (gCons (gName 3) gNil)))  rfl sc_doors_barring.nd (pi_enumT (by rfl) T.enumerate (pa_cons (pe_ix ix_tup (pv 0) pe_int (fun _ _ => rfl)) pa_nil)) (blkOk_by (N := N_doors_barring) (sc := defScope s_doors_barring) (own := [("door", 2), ("who", 3)]) (by decide +kernel)) (fun _ _ _ _ _ => (pg_tup (n := 2) rfl (pgs_cons (pg_name (i := 2) sc_doors_barring.nd rfl (.inl rfl) (.inr rfl)) (pgs_cons (pg_name (i := 3) sc_doors_barring.nd rfl (.inl rfl) (.inr rfl)) pgs_nil)))) (fun _ _ _ _ _ => (pts_one (pt_cmpR op_eq (pv 3) (pv 1) (nomark _)))) (fun _ _ _ _ _ => (pv 2))))), ?_⟩
  refine ⟨_, rfl, s, _, _, _, rfl, rfl, h1, atI_nat (j := 1) rfl, b, _, rfl, h3, fun pd npd => ?_⟩
  have hdl := ok.doors
  refine lc_it (walk_enumT (K := K) (a := b) (xs := nv S.2)) (fun i H2 => Same H H2 ∧ H2 pd = some (.lst (nv ((List.range i).filter fun d => decide (S.2[d]? = some p))))) ⟨Same.upd npd, upd_same⟩ (fun i H2 _ h => h.1.tup h3) ?_ ?_
  · rintro i x H2 H3 hi ⟨sm, hp⟩ ⟨t, x1, x2, rfl, nt, rfl, ex1, ex2⟩
    cases ex1
    obtain ⟨v, hv, rfl⟩ := nv_some ex2
    have st : Same H2 (upd H2 t (.tup [.int (i : Nat), .int (v : Int)])) := Same.upd nt
    have hp4 := st _ _ hp
    have il := get_lt hv
    refine ⟨t, _, rfl, SqT.of upd_same, rfl, _, _, rfl, _, _, rfl, rfl, rfl, ?_⟩
    refine ⟨_, rfl, _, rfl, rfl, _, rfl, ?_⟩
    by_cases c : v = p
    · rw [decide_eq_true (show V.int (v : Int) = V.int (p : Int) by rw [c])]
      refine iteT ⟨_, rfl, _, hp4, ?_, (sm.trans st).at npd, ?_⟩
      · rw [nv_len]
        have h1 := List.length_filter_le (fun d => decide (S.2[d]? = some p)) (List.range i)
        rw [List.length_range] at h1
        exact small1000 (by omega)
      · have e1 : [i].filter (fun d => decide (S.2[d]? = some p)) = [i] := by simp [hv, c]
        rw [upd_same, List.range_succ, List.filter_append, e1, nv_snoc]
    · rw [decide_eq_false (show ¬ V.int (v : Int) = V.int (p : Int) from fun z => c (by have := V.int.inj z; omega))]
      refine iteF ⟨sm.trans st, ?_⟩
      have e1 : [i].filter (fun d => decide (S.2[d]? = some p)) = [] := by simp [hv, c]
      rw [hp4, List.range_succ, List.filter_append, e1, List.append_nil]
  · rintro H2 ⟨sm, hp⟩
    rw [nv_len] at hp
    exact q H2 pd sm npd hp
theorem ok_region_ways (T : Bl mg) (D : Def K mg "region_ways" s_region_ways) (C_ways_from : Cal P w K mg base "ways_from" ["house", "room", "shut"] 2 (spWays K)) (C_doors_barring : Cal P w K mg base "doors_barring" ["state", "person"] 1 (spBarring K)) : Cal P w K mg base "region_ways" ["house", "state", "person"] 3 (spRegWays K) := by
  refine D.ok sc_region_ways (fun _ _ _ _ _ _ us hl => match us, hl with | [_, _, _], _ => rfl) (fun vs H Q E h => ?_) (fun f cdv A outer s H vs Q E hr h => ?_)
  · obtain ⟨a, s, p, n, ds, S, rfl, _⟩ := h
    rfl
  obtain ⟨a, s, p, n, ds, S, rfl, hH, tree, hn, st, ok, hp, q⟩ := h
  obtain ⟨r, b, h1, h2, h3⟩ := id st
  have hdn := tree.len
  obtain ⟨f_ways_from, fd_ways_from, g_ways_from, k_ways_from, b_ways_from, G_ways_from⟩ := C_ways_from
  obtain ⟨f_doors_barring, fd_doors_barring, g_doors_barring, k_doors_barring, b_doors_barring, G_doors_barring⟩ := C_doors_barring
  refine ⟨_, (pss_one (ps_ret (pe_call G_ways_from (hr.mono (by decide)) (by rfl) g_ways_from k_ways_from b_ways_from .nil pass0 (pa_cons (pv 0) (pa_cons (pe_ix ix_tup (pe_ix ix_tup (pv 1) pe_int (fun _ _ => rfl)) (pv 2) (fun _ _ => rfl)) (pa_cons (pe_call G_doors_barring (hr.mono (by decide)) (by rfl) g_doors_barring k_doors_barring b_doors_barring .nil pass0 (pa_cons (pv 1) (pa_cons (pv 2) pa_nil))) pa_nil)))))), ?_⟩
  obtain ⟨v, hv⟩ : ∃ v, S.1[p]? = some v := get_of rfl hp
  have lv := ok.rooms v (List.mem_of_getElem? hv)
  refine ⟨_, rfl, _, rfl, s, _, _, _, rfl, rfl, h1, atI_nat (j := 0) rfl, _, rfl, r, _, _, _, rfl, rfl, h2, nv_at hv, ?_⟩
  refine ⟨_, rfl, _, rfl, s, p, n, ds, S, rfl, st, ok, hn, by omega, fun H1 sh s1 nsh hsh => ?_⟩
  have bl := barr_len (S := S) (p := p)
  rw [ok.doors] at bl
  refine ⟨a, sh, ds, n, v, barr S p, rfl, hH.same s1, tree, hn, lv, SqL.of hsh, by omega, fun H2 q2 kvs ks s2 nq2 hq2 r2 df pt hrm => ?_⟩
  refine q H2 q2 kvs ks (s1.trans s2) (s1.free nq2) hq2 r2 ?_
  rw [getD_of hv]
  exact ⟨df, pt, hrm⟩
end
end K5

namespace L2
open PySem PySem.Spec PyProof.Rows
/-! own rule: list(o.values()), values of any kind -/
theorem vals_by_at : ∀ (xs : List V) (us : List Value), us.length = xs.length → (∀ (i : Nat) (x : V) (u : Value), xs[i]? = some x → us[i]? = some u → RelV x u) → Vals xs us
  | [], [], _, _ => .nil
  | [], _ :: _, h, _ => by simp at h
  | _ :: _, [], h, _ => by simp at h
  | x :: xs, u :: us, h, hr => .cons (hr 0 x u rfl rfl) (vals_by_at xs us (by simpa using h) fun i x' u' a b => hr (i + 1) x' u' a b)
def tListVals (td : TE) : TE := fun σ H Q => td σ H fun x H1 => ∃ a kvs, x = V.ref a ∧ H1 a = some (.dK kvs) ∧ ∀ p, H1 p = none → Q (.ref p) (upd H1 p (.lst (kvs.map fun kv => kv.2)))
section
variable {X : Cx} {o : Expr} {p pos apos mpos : Pos} {td : TE}
theorem pe_listVals (hc : X.calm = true) (hg : Gl X "list") (hm : X.mg "list" = none) (hd : PE X o td) (hbase : attributeBase o "values" X.env (eval o X.env) = eval o X.env := by rfl) (hline : (apos.endLine == mpos.line) = true := by rfl)
    (hse : starEach [Expr.Call (.Attribute o "values" apos) [] [] mpos] X.env = [(false,
          eval (Expr.Call (.Attribute o "values" apos) [] [] mpos) X.env)] := by rfl) :
    PE X (.Call (.Name "list" p) [.Call (.Attribute o "values" apos) [] [] mpos] [] pos) (tListVals td) := by
  refine ⟨fun pins s σ H Q I h => ?_⟩
  refine wpAny_Call_Name_kw (ld_blt I hg hm (u := .type "list") (by first | rfl | decide +kernel) ?_ (by first | decide +kernel | decide) (by first | decide +kernel | decide))
  rw [hse]
  refine PySem.callWith_type1 (wpAny_Call_method0_late hbase hline (thn (hd.run pins s σ H _ I h) fun v s1 ⟨x, H1, I1, r1, a, kvs, ex, ha, q⟩ => ?_))
  subst ex
  obtain rfl : v = Value.ref a := r1
  obtain ⟨z, hsys, vs, rel, dof⟩ := dk_of I1.hok ha
  obtain ⟨ep, dat⟩ := dof.dictAt
  have dat' := dat
  obtain ⟨ob, es, ho, ex, hdat,
        hko, hpr, hnd⟩ := dat'
  refine ⟨"dict", "dict.values", PySem.F.plainAttrs_dict, PySem.F.slot_dict_values, PySem.F.type_dict_values, ⟨ob, ho, ex.1⟩, fun b e => ?_, Calls.callWith_builtin rfl (PySem.evalArgs_none ?_)⟩
  · cases e
    exact ⟨ob, ho, ex.2.1⟩
  refine call_meetsIn PySem.F.slot_dict_values ⟨ob, ho, ex.1⟩ PySem.F.entry_dict_values (PySem.F.args_dict_values_1 _) (meets_dict_values (mixKind X.prog X.w) a hsys) ⟨⟨vs, dof⟩, ?_⟩
  have k1 : ∀ b u, s1.heap.get? b = some u →
      (s1.heap.push { cls := .type "dict_values", data := .fields #[.ref a] }).get? b = some u :=
    fun b u e => Heap.get?_push_of_some _ e
  have dat1 :
      (s1.heap.push { cls := .type "dict_values", data := .fields #[.ref a] }).DictAt (mixKind X.prog X.w) a vs ep :=
    dat.keep k1
  have hlv : vs.length = kvs.length := (KV.length rel).symm
  refine PySem.W.kdl_call (PySem.W.kdl_values (knd := mixKind X.prog X.w) (d := a) (r := s1.heap.objs.size) (kvs := vs) (ep := ep)) (I.ok.hd hc) ⟨⟨_, Heap.get?_push_size _ rfl, rfl, rfl⟩, dat1⟩ (by rw [hlv]; exact z) fun h' tk acc c' hk hD hacc => ?_
  have I2 := I1.kept (t' := s1.toks) k1
  have hv : Vals (kvs.map fun kv => kv.2) acc.toList := vals_by_at _ _ (by rw [Array.length_toList, List.length_map, ← hlv]; exact hacc.1) fun i x u e1 e2 => by
    obtain ⟨k, hk2⟩ := hacc.2 i u (by rw [← Array.getElem?_toList]; exact e2)
    obtain ⟨y, h1, h2⟩ := KV.at' rel hk2
    rw [List.getElem?_map, h1] at e1
    cases e1
    exact h2
  refine ⟨.ref _, upd H1 _ (.lst (kvs.map fun kv => kv.2)), I2.laid (t' := tk) hk (Nat.le_refl _) ⟨by rw [List.length_map]; exact z, acc.toList, c', hv, by rw [Array.toArray_toList]; exact hD⟩, rfl, q _ (I2.hok.fresh (Nat.le_refl _))⟩
end
end L2

namespace L2
open PySem PySem.Spec PyProof.Rows
/-! own rules: min(t) of a tuple of whole numbers; sorted(set(l)) of a list of whole numbers -/
def rMinT (K : PySem.W.Frag) : List V → Hp → VK → Prop := fun vs H Q => ∃ (a : Addr) (ns : List Int), vs = [V.ref a] ∧ SqT K H a (ns.map V.int) ∧ 0 < ns.length ∧ ∀ m, m ∈ ns → (∀ y, y ∈ ns → m ≤ y) → Q (.int m) H
section
variable {P : Program} {w : World} {A : Around}
      {E : Value → Shared → Prop} {s : Shared}
theorem least_tup {Q : Value → Shared → Prop} {l : Addr} {its : List Value} {ns : List Int} (hh : A.handled = none) (hl : s.heap.IsTuple l its.toArray) (hi : IntsAre its ns) (hne : 0 < ns.length)
    (h : ∀ h' tk M t', (∀ b o, s.heap.get? b = some o → h'.get? b = some o) → M ∈ ns → (∀ a, a ∈ ns → M ≤ a) → Q (.int M t') { s with heap := h', toks := tk }) : wpAny (model P w) A (call (.builtin "min") [.ref l]) Q E s := by
  have lt : l < s.heap.objs.size := by
    obtain ⟨o, e, _⟩ := hl
    exact Heap.lt_size e
  obtain ⟨xs, e⟩ := hi.allInts.items
  have nn : (xs.toList.map (·.1)) = ns := by
    have h1 : numsOf (intItems xs).toList = ns := by
      rw [← e]
      exact hi.numsOf
    rw [nums_intItems] at h1
    exact h1
  rw [e] at hl
  have pos : 0 < xs.size := by rw [← nn] at hne; simpa using hne
  refine call_min_walk (wpAny_pyIter_tuple hl ⟨_, _, _, _, _, _, _, rfl, Walks.tuple (A := A.in1) hh _ l (Nat.ne_of_lt lt) (intItems xs), ⟨⟨_, Heap.get?_push_size _ rfl, rfl, rfl⟩, hl.push _⟩, fun b hb => ?_, by simpa [intItems] using pos,
    CmpOf.ints_lt (numAt xs) (fun _ _ => intItems_at), fun v h' tk hP hk => ?_⟩)
  · show b < (s.heap.push _).objs.size
    rw [Heap.size_push]
    rcases List.mem_cons.mp hb with rfl | hb
    · exact Nat.lt_succ_self _
    · rw [List.mem_singleton.mp hb]
      exact Nat.lt_succ_of_lt lt
  · have hv : (intItems xs)[argBest (fun i j => decide (numAt xs i < numAt xs j)) (xs.size - 1)]? = some v := by simpa [intItems] using hP
    obtain ⟨t, rfl⟩ := intItems_at hv
    obtain ⟨b1, b2⟩ := argBest_lt (numAt xs) (xs.size - 1)
    refine h h' tk _ t (fun b o eo => hk b o (fun hm => ?_) (Heap.get?_push_of_some _ eo)) ?_ fun a ha => ?_
    · rw [List.mem_singleton] at hm
      exact absurd (hm ▸ Heap.lt_size eo) (Nat.lt_irrefl _)
    · rw [numAt_eq, ← nn]
      exact PySem.getD_mem (by rw [List.length_map, Array.length_toList]; omega)
    · rw [← nn] at ha
      obtain ⟨j, hj, rfl⟩ := mem_getD ha
      rw [List.length_map, Array.length_toList]
            at hj
      rw [← numAt_eq]
      exact b2 j (by omega)
end
theorem cr_minT {X : Cx} (hc : X.calm = true) : CallR X (.builtin "min") (rMinT X.K) := by
  rintro pins s σ H vs us Q I r ⟨a, ns, rfl, hs, hne, q⟩
  obtain ⟨its, rv, hl, _⟩ := I.tuple hs
  rw [Vals.ref1 r]
  exact least_tup (I.ok.hd hc) hl rv.ints hne fun h' tk m t' hk h1 h2 => ⟨.int _, H, I.kept hk, ⟨_, rfl⟩, q m h1 h2⟩
end L2

namespace L2
open PySem PySem.Spec PyProof.Rows
/-- an empty set as the model lays it -/
abbrev eset (w : World) : Obj := { cls := .type "set", dict := none, data := .set #[] 0 (.fresh 0 0 (!w.params.followText "set-order")) }
section
variable {P : Program} {w : World} {A : Around}
      {E : Value → Shared → Prop} {s : Shared}
set_option maxHeartbeats 8000000 in
/-- set(l), the order of its table known -/
theorem set_of_ints {l : Addr} {items : Array Value} (ns : List Int) {Q : Value → Shared → Prop} (hh : A.handled = none) (hl : s.heap.IsList l items) (hit : IntsAre items.toList ns) (hb : ns.length + 1 < scanBound)
    (h : ∀ (h' : Heap) (tk c : Nat), SetR w h' s.heap.objs.size (fun j => decide (j ∈ ns)) c → c ≤ ns.length → (∀ b o,
          s.heap.get? b = some o → h'.get? b = some o) → Q (.ref s.heap.objs.size) { s with heap := h', toks := tk }) :
    wpAny (model P w) A (call (.type
          "set") [.ref l]) Q E s := by
  have size : items.size = ns.length := by rw [← Array.length_toList]; exact IntsAre.length hit
  obtain ⟨c0, tl0, mro⟩ := F.called_set.mro
  have made := F.called_set.made
  have subs := F.called_set.sub
  refine wpAny_call (codeAny_of_tree ?_)
  show wpAny _ _ (callAny
        (.type "set") _) _ _ _
  refine wpAny_pure ⟨Code.quiet_builtin _ (by decide +kernel),
    codeAny_builtin F.entry_type_call ?_⟩
  rw [Around.under_plain (weight_type_call_type
        "set" [.ref l] []) rfl]
  have nt := F.called_set.notType
  have cc := F.called_set.canCreate
  have tc := F.typeCall_set_1 (.ref l)
  repeat (any_goals (first
        | assumption | wp_step))

  refine codeAny_mono (code_set_led1 (.ref l) (E := E) (Q₁ := fun obj s₁ => obj = .ref s.heap.objs.size ∧ s₁ = { s with heap := s.heap.push (eset w) }) ⟨rfl, rfl⟩) fun r s₁ hr => ?_
  rcases r with e | fl
  · exact hr
  cases fl
  case ret obj =>
    obtain ⟨rfl, rfl⟩ := hr
    have at0 : (s.heap.push (eset w)).get? s.heap.objs.size = some (eset w) := Heap.get?_push_size _ rfl
    have ty0 : Shared.TypeIs { s with heap := s.heap.push (eset w) } (.ref s.heap.objs.size) "set" := ⟨_, at0, rfl⟩
    have li := F.called_set.init.lookup
    have bi := F.called_set.init.bind (.ref s.heap.objs.size)
    repeat (any_goals (first
          | assumption | wp_step))

    refine codeAny_mono (codeAny_call_builtin (R := wants (fun r s₂ => r = .none ∧ ∃ h' tk c, s₂ = { s with heap := h', toks := tk } ∧ SetR w h' s.heap.objs.size (fun j => decide (j ∈ ns)) c ∧ c ≤ ns.length ∧ (∀ b o, s.heap.get? b = some o → h'.get? b = some o)) E)
      F.called_set.init.plain F.entry_set_init (check_set_init_1 ty0 ?_)) fun r₂ s₂ hr₂ => ?_
    · have lS : l < s.heap.objs.size := by
        obtain ⟨o, e, _⟩ := hl
        exact Heap.lt_size e
      obtain ⟨⟨lc, ld, lda, lsl⟩, hol, q1, nl, q2⟩ := hl
      simp only at q1 q2
      subst q1
      subst q2
      have hol1 : (s.heap.push (eset w)).get? l = some { cls := .type "list", dict := ld, data := .seq items nl, slots := lsl } := Heap.get?_push_of_some _ hol
      have lists : (s.heap.push (eset w)).IsList l items := ⟨_, hol1, rfl, nl, rfl⟩
      have sub1 := F.sub_list_set
      have sub2 := F.sub_list_frozenset
      have nodict : (Value.type "list" == Value.type "dict") = false := by decide
      unfold Builtin.«set.__init__» noKeywords
            Builtin.Frozenset.updateFrom
      generalize hPI : pyIter = PI
      wp_walk
      subst hPI
      refine wpAny_pyIter_list lists ?_
      refine wpAny_bind (wpAny_runValue ?_)
      have none3 : A.in1.in1.in1.handled = none := by simp [hh]
      have sz1 : (s.heap.push (eset w)).objs.size = s.heap.objs.size + 1 := Heap.size_push ..
      have apart1 : l ≠ (s.heap.push (eset w)).objs.size := by
        rw [sz1]
        exact Nat.ne_of_lt (Nat.lt_succ_of_lt lS)
      have apart2 : s.heap.objs.size ∉ [(s.heap.push (eset w)).objs.size, l] := by
        rw [sz1]
        intro z
        rcases List.mem_cons.mp z with z | z
        · exact Nat.ne_of_lt (Nat.lt_succ_self _) z
        · exact Nat.ne_of_gt lS (List.mem_singleton.mp z)
      have itv : ∀ (i : Nat) (v : Value), items[i]? = some v → ∃ k t, ns[i]? = some k ∧ v = .int k t := fun i v hv => by
        have hi : i < ns.length := by
          rw [← size]
          exact (Array.getElem?_eq_some_iff.mp hv).1
        have hv2 : items.toList[i]? = some v := by
          rw [Array.getElem?_toList]
          exact hv
        obtain ⟨t, e⟩ := PyProof.Rows.IntsAre.int_at hit i v hv2
        have en : ns.getD i 0 = ns[i] := by rw [List.getD_eq_getElem?_getD, List.getElem?_eq_getElem hi]; rfl
        exact ⟨ns[i], t, List.getElem?_eq_getElem hi, by rw [e, en]⟩
      refine set_update_ints ((Walks.list none3 _ l apart1 items).toS) s.heap.objs.size apart2 ns size hb itv (items.size - 0) 0 _ (by omega) (Nat.zero_le _)
        ⟨⟨_, Heap.get?_push_size _ rfl, rfl, rfl⟩, (lists.push _)⟩ ⟨0, Nat.le_refl 0, setR_new_at (Heap.get?_push_of_some _ at0)⟩ ?_
      intro s' c' mv hc' hS'
      obtain ⟨h', g2, d', tk', os'⟩ := s'
      obtain rfl : g2 = s.gens := mv.gens
      obtain rfl : d' = s.drawn := mv.drawn
      obtain rfl : os' = s.os := mv.os
      show wpAny _ _ _ _ _ _
      refine wpAny_pure ?_
      show wpAny _ _ (ret Value.none) _ _ _
      rw [size] at hc'
      refine wpAny_pure ⟨rfl, h', tk', c',
            rfl, hS', hc', fun b o e => ?_⟩
      have lb : b < s.heap.objs.size := Heap.lt_size e
      refine mv.heap b o (fun z => ?_) (Heap.get?_push_of_some _ (Heap.get?_push_of_some _ e))
      rcases List.mem_cons.mp z with z | z
      · exact Nat.ne_of_lt lb z
      · rw [List.mem_singleton, sz1] at z
        exact Nat.ne_of_lt (Nat.lt_succ_of_lt lb) z
    · rcases r₂ with e | fl₂
      · exact hr₂
      cases fl₂
      case ret r =>
        obtain ⟨rfl, h', tk, c, rfl, k1, k2, k3⟩ := hr₂
        repeat (any_goals (first
              | assumption | wp_step))
        exact h _ _ _ k1 k2 k3
      all_goals exact hr₂.elim
  all_goals exact hr.elim
end
/-- sorted(set(l)), l whole numbers -/
def tSortedSet (K : PySem.W.Frag) (ta : TE) : TE := fun σ H Q => ta σ H fun x H1 => ∃ (l : Addr) (ns : List Int), x = V.ref l ∧ SqL K H1 l (ns.map V.int) ∧ ns.length < 64 ∧ ∀ (ms : List Int) (p : Addr), ms.Pairwise (· < ·) → (∀ k, k ∈ ms ↔ k ∈ ns) → H1 p = none → Q (.ref p) (upd H1 p (.lst (ms.map V.int)))
theorem pe_sortedSet {X : Cx} {a : Expr} {ta : TE} {p p2 q pos : Pos} (hc : X.calm = true) (gl : Gl X "sorted") (ml : X.mg "sorted" = none) (gs : Gl X "set") (ms : X.mg "set" = none) (ha : PE X a ta)
    (one : starEach [a] X.env = (false, eval a X.env) :: starEach [] X.env := by rfl) : PE X (.Call (.Name "sorted" p) [.Call (.Name "set" p2) [a] [] q] [] pos) (tSortedSet X.K ta) := by
  constructor
  intro pins s σ H Q I h
  refine Call_ (ld_blt I gl ml (u := .builtin "sorted") (by decide +kernel) (PyProof.Rows.callWith_builtin1 (PyProof.Rows.args_cons ?_ rfl) rfl rfl))
  refine Call_ (ld_blt I gs ms PyProof.Rows.boot_set (PyProof.Rows.callWith_type1 (PyProof.Rows.args_cons (thn (ha.run pins s σ H _ I h) ?_) one) one rfl))
  rintro v s1 ⟨x, H1, I1, rx, l, ns, rfl, seq, few, z⟩
  obtain rfl : v = Value.ref l := rx
  refine PyProof.Rows.args_nil ?_
  obtain ⟨its, rv, at_l, _⟩ := I1.list seq
  refine set_of_ints ns (I1.ok.hd hc) at_l.isList (intsAre_of rv) (by unfold scanBound; omega) fun h' tk c R hc' keep => ?_
  refine PyProof.Rows.args_nil ?_
  have I2 : Inv X pins σ H1 { s1 with heap := h', toks := tk } := I1.kept fun b o e => keep b o e
  refine sorted_set R (I1.ok.hd hc) (by omega) fun s' p out c2 ms2 k1 k2 k3 hp hL hi lt mem len => ?_
  have short : (ms2.map V.int).length ≤ sizeLine := by
    rw [List.length_map, len, sizeLine_eq]
    omega
  have J : Inv X pins σ (upd H1 p (.lst (ms2.map V.int))) { s1 with heap := s'.heap, gens := s'.gens, drawn := s'.drawn, toks := s'.toks } :=
    Inv.call (s := { s1 with heap := h', toks := tk }) I2 (ch := []) (Un.laid k1 hp (I2.hok.fresh hp)) (I2.hok.laid k1 hp ⟨short, out.toList, c2, vals_of_ints hi, hL⟩) (by rw [k2]; exact I2.bare) (fun _ e => nomatch e)
  have same : s' = { s1 with heap := s'.heap, gens := s'.gens, drawn := s'.drawn, toks := s'.toks } := by
    obtain ⟨_, _, _, _, _⟩ := s'
    obtain ⟨_, _, _, _, _⟩ := s1
    cases k3
    rfl
  rw [same]
  exact ⟨.ref p, _, J, rfl, z ms2 p lt (fun k => by rw [mem k, decide_eq_true_eq]) (I2.hok.fresh hp)⟩
end L2

namespace L2
open PySem PySem.Spec PyProof.Rows
/-! own rule: sorted(t) of a tuple of whole numbers -/
section
variable {P : Program} {w : World} {A : Around}
      {E : Value → Shared → Prop} {s : Shared}
theorem sorted_of_tup {l : Addr} {vs : List Value} {ns : List Int} {Q : Value → Shared → Prop} (hl : s.heap.IsTuple l vs.toArray) (hi : IntsAre vs ns) (few : ns.length < 64)
    (hQ : ∀ h' p (out : Array Value) (c : Nat) (ms : List Int), (∀ b o, s.heap.get? b = some o → h'.get? b = some o) → s.heap.get? p = none → h'.get? p = some (seqObj "list" out c) → IntsAre out.toList ms → ms.Perm ns → ms.Pairwise (· ≤ ·) → Q (.ref p) { s with heap := h' }) :
    wpAny (model P w) A (call (.builtin "sorted") [.ref l]) Q E s := by
  have len : vs.length = ns.length := IntsAre.length hi
  have f64 : vs.length < 64 := by omega
  obtain ⟨o, ho, hc, n, hd⟩ := hl
  refine Calls.call_function_entry kind_sorted plain_sorted
        entry_sorted (args_sorted1 _) ?_
  unfold Builtin.«sorted»
  refine wpAny_bind (m := checkCount
        "sorted" 1 1 _) (wpAny_pure ?_)
  refine wpAny_bind (wpAny_collect_seq l (.inr rfl) ho hc hd (fun h1 k1 => ?_) (by rw [List.size_toArray, sizeLine_eq]; omega))
  refine wpAny_bind (wpAny_newList ?_ (by rw [sizeLine_eq]; show vs.length ≤ _; omega))
  have at1 : (h1.push (seqObj "list" vs.toArray 0)).get? h1.objs.size = some (seqObj "list" vs.toArray 0) := Heap.get?_push_size _ rfl
  refine wpAny_bind (wpAny_holding (wpAny_call_entry slot_list_sort ⟨_, at1, rfl⟩ entry_list_sort (list_sort_tree at1 hi f64 fun out ms a1 a2 a3 => ⟨_, rfl, ?_⟩) (args_list_sort _)))
  obtain ⟨c, hp⟩ := sortedHeap_at (vs := vs) (out := out) at1
  have above : s.heap.get? h1.objs.size = none := by
    cases e : s.heap.get? h1.objs.size with
    | none => rfl
    | some u => exact absurd (Heap.lt_size (k1 _ _ e)) (Nat.lt_irrefl _)
  refine wpAny_pure ⟨_, rfl, hQ _ h1.objs.size out c ms (fun b u e => ?_) above hp a1 a2 a3⟩
  have e1 := k1 b u e
  have lb := Heap.lt_size e1
  rw [sortedHeap_old (Nat.ne_of_lt lb) (by rw [size_push']; exact Nat.lt_succ_of_lt lb)]
  exact Heap.get?_push_of_some _ e1
end
def rSortTup (K : PySem.W.Frag) : List V → Hp → VK → Prop := fun vs H Q => ∃ (a : Addr) (ns : List Int), vs = [V.ref a] ∧ SqT K H a (ns.map V.int) ∧ ns.length < 64 ∧ ∀ (ms : List Int) (p : Addr), ms.Perm ns → ms.Pairwise (· ≤ ·) → H p = none → Q (.ref p) (upd H p (.lst (ms.map V.int)))
theorem cr_sortTup {X : Cx} (hc : X.calm = true) : CallR X (.builtin "sorted") (rSortTup X.K) := by
  rintro pins s σ H vs us Q I r ⟨a, ns, rfl, hs, few, q⟩
  obtain ⟨its, rv, hl, _⟩ := I.tuple hs
  rw [Vals.ref1 r]
  refine sorted_of_tup hl rv.ints few fun h' p out c ms k up hp hi pm pw => ?_
  have short : (ms.map V.int).length ≤ sizeLine := by
    rw [List.length_map, pm.length_eq, sizeLine_eq]
    omega
  exact ⟨.ref p, _, I.laidN (t' := s.toks) (o := .lst (ms.map V.int)) k up (I.hok.gone up) ⟨short, out.toList, c, vals_of_ints hi, hp⟩, rfl, q ms p pm pw (I.hok.gone up)⟩
end L2

namespace L2
open PySem PySem.Spec PyProof.Rows PySem.W
/-! own rule: sorted(l) of a list of tuples of any data -/
def rSortedD (K : PySem.W.Frag) : List V → Hp → VK → Prop := fun vs H Q => ∃ (a : Addr) (xs : List V) (ds : List PyData), vs = [V.ref a] ∧ SqL K H a xs ∧ DpAll K H xs ds ∧ AllAlike ds ∧ Sortable ds ∧ (∀ d ∈ ds, d.depth ≤ 60) ∧
  ∀ p, H p = none → Q (.ref p) (upd H p (.lst (((xs.zip ds).mergeSort (dataLe false Prod.snd)).map Prod.fst)))
theorem each_zip {X : Cx} {pins : List (Addr × Obj)} {σ : St} {H : Hp} {s : Shared} (I : Inv X pins σ H s) : ∀ (xs : List V) (ds : List PyData) (us : List Value), Vals xs us → DpAll X.K H xs ds →
    EachIs (fun (v : Value) (b : V × PyData) => RelV b.1 v) us (xs.zip ds) ∧ EachIs (fun (v : Value) (b : V × PyData) => ∃ as, Reads s.heap v b.2 as) us (xs.zip ds)
  | _, _, _, .nil, .nil => ⟨.nil, .nil⟩
  | _, _, _, .cons r rs, .cons d ds => by
    obtain ⟨h1, h2⟩ := each_zip I _ _ _ rs ds
    exact ⟨.cons r h1, .cons (Dp.reads I _ _ _ d r) h2⟩
theorem vals_of_each : ∀ {us : List Value} {bs : List (V × PyData)}, EachIs (fun (v : Value) (b : V × PyData) => RelV b.1 v) us bs → Vals (bs.map Prod.fst) us
  | _, _, .nil => .nil
  | _, _, .cons h t => .cons h (vals_of_each t)
theorem DpAll.len {K : PySem.W.Frag} {H : Hp} : ∀ {xs : List V} {ds : List PyData}, DpAll K H xs ds → xs.length = ds.length
  | _, _, .nil => rfl
  | _, _, .cons _ t => by rw [List.length_cons, List.length_cons, DpAll.len t]
theorem cr_sortedD {X : Cx} (hu : X.A.units + 64 < cLine) : CallR X (.builtin "sorted") (rSortedD X.K) := by
  rintro pins s σ H vs us Q I r ⟨a, xs, ds, rfl, hs, hd, al, so, dep, q⟩
  obtain ⟨its, rv, hl, few⟩ := I.list hs
  rw [Vals.ref1 r]
  obtain ⟨e1, e2⟩ := each_zip I xs ds its rv hd
  have ms : (xs.zip ds).map Prod.snd = ds := List.map_snd_zip (by rw [hd.len]; exact Nat.le_refl _)
  have zl : (xs.zip ds).length = xs.length := by rw [List.length_zip, hd.len, Nat.min_self]
  refine sorted_data (enc := Prod.snd) hl.isList e1 e2 (by rw [ms]; exact al) (by rw [ms]; exact so) (by rw [zl]; exact few) (fun b hb => ?_) fun out lo eo => ?_
  · have := dep b.2 (by rw [← ms]; exact List.mem_map.mpr ⟨b, hb, rfl⟩)
    omega
  · obtain ⟨c, at'⟩ := PyProof.Rows.sortedAll_at s.heap its (List.toArray out)
    have v := vals_of_each eo
    have short : ((((xs.zip ds).mergeSort (dataLe false Prod.snd)).map Prod.fst)).length ≤ sizeLine := by
      rw [List.length_map, List.length_mergeSort, zl]
      exact few
    exact ⟨.ref _, _, I.laid (t' := s.toks) (o := .lst (((xs.zip ds).mergeSort (dataLe false Prod.snd)).map Prod.fst)) (fun _ _ => PyProof.Rows.sortedAll_old) (Nat.le_succ _) ⟨short, out, c, v, at'⟩, rfl, q _ (I.hok.fresh (Nat.le_succ _))⟩
end L2

namespace K5
open PySem PySem.Spec PyProof.Rows L2
/-- the key of a pair of rooms -/
def kD (x y : Nat) : List Key := [.inl (x : Int), .inl (y : Int)]
theorem kD_inj {a b x y : Nat} (h : kD a b = kD x y) : a = x ∧ b = y := by
  unfold kD at h
  have h1 := List.cons.inj h
  have h2 := List.cons.inj h1.2
  have e1 := Sum.inl.inj h1.1
  have e2 := Sum.inl.inj h2.1
  omega
/-- the dict of the doors ahead of door k -/
structure DrD (ds : List (Nat × Nat)) (k : Nat) (kvs : List (List Key × V)) : Prop where
  at_ : ∀ d x y, d < k → Joins ds d x y → valV kvs (kD x y) = some (.int (d : Int))
  len : kvs.length ≤ 2 * k
theorem put_len {κ : Type} [DecidableEq κ] (kvs : List (κ × V)) (k : κ) (v : V) : (putK kvs k v).length ≤ kvs.length + 1 := by
  unfold putK
  split
  · rw [List.length_map]; omega
  · simp
theorem DrD.step {n ds k kvs} {e : Nat × Nat} (T : Tree n ds) (h : DrD ds k kvs) (he : ds[k]? = some e) : DrD ds (k + 1) (putK (putK kvs (kD e.1 e.2) (.int (k : Int))) (kD e.2 e.1) (.int (k : Int))) := by
  have j : Joins ds k e.1 e.2 := .inl he
  refine ⟨fun d x y hd jd => ?_, ?_⟩
  · rw [valV_put, valV_put]
    by_cases c : d = k
    · subst c
      have hc : (x = e.1 ∧ y = e.2) ∨ (x = e.2 ∧ y = e.1) := by
        rcases jd with q | q <;> rw [he] at q <;> cases q
        · exact .inl ⟨rfl, rfl⟩
        · exact .inr ⟨rfl, rfl⟩
      rcases hc with ⟨rfl, rfl⟩ | ⟨rfl, rfl⟩
      · by_cases q : kD e.1 e.2 = kD e.2 e.1
        · rw [if_pos q]
        · rw [if_neg q, if_pos rfl]
      · rw [if_pos rfl]
    · have n1 : kD x y ≠ kD e.2 e.1 := fun q => by
        obtain ⟨rfl, rfl⟩ := kD_inj q
        exact c (T.one_door jd j.symm)
      have n2 : kD x y ≠ kD e.1 e.2 := fun q => by
        obtain ⟨rfl, rfl⟩ := kD_inj q
        exact c (T.one_door jd j)
      rw [if_neg n1, if_neg n2]
      exact h.at_ d x y (by omega) jd
  · have h1 := put_len kvs (kD e.1 e.2) (.int (k : Int))
    have h2 := put_len (putK kvs (kD e.1 e.2) (.int (k : Int))) (kD e.2 e.1) (.int (k : Int))
    have := h.len
    omega
def spDoors (K : PySem.W.Frag) : Sp := fun vs H Q _ => ∃ (a : Addr) (ds : List (Nat × Nat)) (n : Nat), vs = [.ref a] ∧ HouseAt K H a ds ∧ Tree n ds ∧ n ≤ 1000 ∧
  ∀ (H' : Hp) (p : Addr) (kvs : List (List Key × V)), Same H H' → H p = none → H' p = some (.dT kvs) → DrD ds ds.length kvs → Q (.ref p) H'
/-- a plan: a list of moves, None behind them where it is bad -/
def PlanAt (H : Hp) (pl : Addr) (l : List Mv) (bad : Bool) : Prop := ∃ ts : List Addr, H pl = some (.lst (ts.map V.ref ++ if bad = true then [.non] else [])) ∧ TL H ts l
theorem PlanAt.same {H H' : Hp} {pl l bad} (h : PlanAt H pl l bad) (s : Same H H') : PlanAt H' pl l bad := by
  obtain ⟨ts, h1, h2⟩ := h
  exact ⟨ts, s _ _ h1, h2.same s⟩
def spMove : Sp := fun vs H Q _ => ∃ (p : Addr) (P : Nat) (x : V) (ds : List (Nat × Nat)) (kvs : List (List Key × V)), vs = [.ref p, .int (P : Int), x] ∧ H p = some (.dT kvs) ∧ DrD ds ds.length kvs ∧
  ((x = .non ∧ Q (.bl false) H) ∨ ∃ (t : Addr) (m : Mv), x = .ref t ∧ H t = some (.tup (tI m)) ∧ VM ds P m ∧ ∀ H', Same H H' → Q (.bl true) H')
def spPeople : Sp := fun vs H Q _ => ∃ P : Nat, vs = [.int (P : Int)] ∧ 1 ≤ P ∧ Q .non H
def spPlan (K : PySem.W.Frag) : Sp := fun vs H Q _ => ∃ (a pl : Addr) (P n : Nat) (ds : List (Nat × Nat)) (l : List Mv) (bad : Bool), vs = [.ref a, .int (P : Int), .ref pl] ∧ HouseAt K H a ds ∧ Tree n ds ∧ n ≤ 1000 ∧ 1 ≤ P ∧ PlanAt H pl l bad ∧ (∀ m ∈ l, VM ds P m) ∧
  (bad = false → ∀ H', Same H H' → Q .non H') ∧ (bad = true → ∀ (H' : Hp) (t : Addr), Same H H' → H' t = some (.tup [.str "move", .int (l.length : Int)]) → Q (.ref t) H')
def spNP (K : PySem.W.Frag) : Sp := fun vs H Q _ => ∃ (a pl : Addr) (P n : Nat) (ds : List (Nat × Nat)) (l : List Mv), vs = [.ref a, .int (P : Int), .ref pl] ∧ HouseAt K H a ds ∧ Tree n ds ∧ n ≤ 1000 ∧ 1 ≤ P ∧ PlanAt H pl l false ∧ (∀ m ∈ l, VM ds P m) ∧ ∀ H', Same H H' → Q .non H'
/-- a plan that can be played, the doors given -/
def spPlayedG (K : PySem.W.Frag) : Sp := fun vs H Q _ => ∃ (pd s pl : Addr) (n : Nat) (ds : List (Nat × Nat)) (kvs : List (List Key × V)) (S S' : S2) (l : List Mv), vs = [.ref pd, .ref s, .ref pl] ∧ H pd = some (.dT kvs) ∧ DrD ds ds.length kvs ∧ Tree n ds ∧ n ≤ 1000 ∧ StateAt K H s S ∧ StOk n ds S ∧ PlanAt H pl l false ∧ (∀ m ∈ l, VM ds S.1.length m) ∧
  runs ds 0 S l = .inr S' ∧ ∀ (H' : Hp) (q : Addr), Same H H' → StateAt K H' q S' → Q (.ref q) H'
/-- a plan that can be played -/
def spPlayG (K : PySem.W.Frag) : Sp := fun vs H Q _ => ∃ (a s pl : Addr) (n : Nat) (ds : List (Nat × Nat)) (S S' : S2) (l : List Mv), vs = [.ref a, .ref s, .ref pl] ∧ HouseAt K H a ds ∧ Tree n ds ∧ n ≤ 1000 ∧ StateAt K H s S ∧ StOk n ds S ∧ PlanAt H pl l false ∧ (∀ m ∈ l, VM ds S.1.length m) ∧
  runs ds 0 S l = .inr S' ∧ ∀ (H' : Hp) (q : Addr), Same H H' → StateAt K H' q S' → Q (.ref q) H'
section
variable {P : Program} {w : World} {K : PySem.W.Frag}
      {mg : Str → Option Value} {base : Heap}
theorem ok_doors_by_ends (T : Bl mg) (D : Def K mg "doors_by_ends" s_doors_by_ends) : Cal P w K mg base "doors_by_ends" ["house"] 1 (spDoors K) := by
  refine D.ok sc_doors_by_ends (fun _ _ _ _ _ _ us hl => match us, hl with | [_], _ => rfl) (fun vs H Q E h => ?_) (fun f cdv A outer s H vs Q E hr h => ?_)
  · obtain ⟨a, ds, n, rfl, _⟩ := h
    rfl
  obtain ⟨a, ds, n, rfl, hH, tree, hn, q⟩ := h
  obtain ⟨rs, hrs, hlen, hds⟩ := id hH
  have hdn := tree.len
  refine ⟨_, (pss_cons (ps_set (i := 1) sc_doors_by_ends.nd rfl (.inl rfl) pe_dnewT)
    (pss_cons (ps_for PassesOwn.never rfl (pi_enumT (by rfl) T.enumerate (pa_cons (pv 0) pa_nil)) (pg_tup (n := 2) rfl (pgs_cons (pg_name (i := 2) sc_doors_by_ends.nd rfl (.inl rfl)) (pgs_cons (pg_tup (n := 2) rfl (pgs_cons (pg_name (i := 3) sc_doors_by_ends.nd rfl (.inl rfl)) (pgs_cons (pg_name (i := 4) sc_doors_by_ends.nd rfl (.inl rfl)) pgs_nil))) pgs_nil)))
    (pss_cons (ps_dput (hu_of hr) (pv 1) (pe_tup (pa_cons (pv 3) (pa_cons (pv 4) pa_nil))) (pv 2) rfl)
    (pss_one (ps_dput (hu_of hr) (pv 1) (pe_tup (pa_cons (pv 4) (pa_cons (pv 3) pa_nil))) (pv 2) rfl))))
    (pss_one (ps_ret (pv 1))))), ?_⟩
  refine fun p np => ?_
  refine ⟨_, rfl, a, _, rfl, (Same.upd np).tup hrs, ?_⟩
  refine for_it (walk_enumT (K := K) (a := a) (xs := rs.map V.ref)) (fun k σ H2 => ∃ kvs y3 y4 y5, σ = [some (.ref a), some (.ref p), y3, y4, y5] ∧ Same H H2 ∧ H2 p = some (.dT kvs) ∧ DrD ds k kvs)
    ⟨[], _, _, _, rfl, Same.upd np, upd_same, ⟨fun d x y h => by omega, Nat.zero_le _⟩⟩ (fun i σ H2 _ ⟨_, _, _, _, _, sm, _⟩ => sm.tup hrs) ?_ ?_
  · rintro k x σ H1 H2 hk ⟨kvs, y3, y4, y5, rfl, sm, hp, dr⟩ ⟨t, x1, x2, rfl, nt, rfl, ex1, ex2⟩
    cases ex1
    have hk' : k < ds.length := by
      rw [List.length_map, hlen] at hk
      exact hk
    obtain ⟨e, he⟩ : ∃ e, ds[k]? = some e := get_of rfl hk'
    obtain ⟨r, hr0⟩ : ∃ r, rs[k]? = some r := get_of hlen hk'
    have ex2' : V.ref r = x2 := by
      have ex2 : (rs.map V.ref)[k]? = some x2 := ex2
      rw [List.getElem?_map, hr0] at ex2
      exact Option.some.inj ex2
    subst ex2'
    have sm2 : Same H1 (upd H1 t (.tup [.int (k : Nat), .ref r])) := Same.upd nt
    have hrd := sm2.tup (sm.tup (hds k r e hr0 he))
    have hp2 := sm2 _ _ hp
    have sm3 := sm.trans sm2
    refine ⟨t, _, rfl, SqT.of upd_same, rfl, _, _, rfl, _, _, rfl, ⟨r, _, rfl, hrd, rfl, _, _, rfl, _, _, rfl, rfl, rfl, ?_⟩⟩
    generalize upd H1 t (.tup [.int (k : Nat), .ref r]) = H3 at sm2 hp2 sm3
    have dl := dr.len
    refine ⟨_, rfl, _, rfl, _, rfl, _, rfl, by show 2 ≤ sizeLine; decide, fun t1 nt1 => ⟨p, _, rfl, .t (k := kD e.1 e.2) (by rw [upd_ne (ne_of_none hp2 nt1)]; exact hp2) upd_same (small3k (by omega)), ?_⟩⟩
    have l1 := put_len kvs (kD e.1 e.2) (.int (k : Int))
    have hp4 : (upd (upd H3 t1 (.tup [.int (e.1 : Int), .int (e.2 : Int)])) p (.dT (putK kvs (kD e.1 e.2) (.int (k : Int))))) p = some (.dT (putK kvs (kD e.1 e.2) (.int (k : Int)))) := upd_same
    have sm4 : Same H (upd (upd H3 t1 (.tup [.int (e.1 : Int), .int (e.2 : Int)])) p (.dT (putK kvs (kD e.1 e.2) (.int (k : Int))))) := (sm3.trans (Same.upd nt1)).at np
    generalize upd (upd H3 t1 (.tup [.int (e.1 : Int), .int (e.2 : Int)])) p (.dT (putK kvs (kD e.1 e.2) (.int (k : Int)))) = H5 at hp4 sm4
    refine ⟨_, rfl, _, rfl, _, rfl, _, rfl, by show 2 ≤ sizeLine; decide, fun t2 nt2 => ⟨p, _, rfl, .t (k := kD e.2 e.1) (by rw [upd_ne (ne_of_none hp4 nt2)]; exact hp4) upd_same (small3k (by omega)), ?_⟩⟩
    exact ⟨_, _, _, _, rfl, (sm4.trans (Same.upd nt2)).at np, upd_same, dr.step tree he⟩
  · rintro σ H2 ⟨kvs, y3, y4, y5, rfl, sm, hp, dr⟩
    rw [List.length_map, hlen] at dr
    exact ⟨_, rfl, q H2 p kvs sm np hp dr⟩
theorem ok_need_people (T : Bl mg) (D : Def K mg "need_people" s_need_people) (C_is_whole : Cal P w K mg base "is_whole" ["value"] 1 spWhole) : Cal P w K mg base "need_people" ["people"] 2 spPeople := by
  refine D.ok sc_need_people (fun _ _ _ _ _ _ us hl => match us, hl with | [_], _ => rfl) (fun vs H Q E h => ?_) (fun f cdv A outer s H vs Q E hr h => ?_)
  · obtain ⟨p, rfl, _⟩ := h
    rfl
  obtain ⟨p, rfl, hp, q⟩ := h
  obtain ⟨f_is_whole, fd_is_whole, g_is_whole, k_is_whole, b_is_whole, G_is_whole⟩ := C_is_whole
  refine ⟨_, (pss_one (ps_if (PW.pt (pw_or (pt_not (pt_val (pe_call G_is_whole (hr.mono (by decide)) (by rfl) g_is_whole k_is_whole b_is_whole .nil pass0 (pa_cons (pv 0) pa_nil)))) (pw_or1 (pt_cmpR op_lt (pv 0) pe_int (nomark _))))) pss_never pss_nil)), ?_⟩
  refine ⟨_, rfl, _, rfl, _, rfl, iteF ?_⟩
  refine ⟨_, rfl, _, _, rfl, rfl, _, rfl, ?_⟩
  rw [decide_eq_false (show ¬ (p : Int) < 1 by omega)]
  exact iteF q
theorem ok_is_move (T : Bl mg) (D : Def K mg "is_move" s_is_move) (C_is_whole : Cal P w K mg base "is_whole" ["value"] 1 spWhole) (C_is_index : Cal P w K mg base "is_index" ["value", "count"] 2 spIndex) : Cal P w K mg base "is_move" ["doors", "people", "value"] 3 spMove := by
  refine D.ok sc_is_move (fun _ _ _ _ _ _ us hl => match us, hl with | [_, _, _], _ => rfl) (fun vs H Q E h => ?_) (fun f cdv A outer s H vs Q E hr h => ?_)
  · obtain ⟨p, n, x, ds, kvs, rfl, _⟩ := h
    rfl
  obtain ⟨p, n, x, ds, kvs, rfl, hp, dr, h⟩ := h
  obtain ⟨f_is_whole, fd_is_whole, g_is_whole, k_is_whole, b_is_whole, G_is_whole⟩ := C_is_whole
  obtain ⟨f_is_index, fd_is_index, g_is_index, k_is_index, b_is_index, G_is_index⟩ := C_is_index
  refine ⟨_, (pss_cons (ps_if (PW.pt (pw_or (pt_not (pt_val (pe_callB call_isi (by rfl) T.isinstance (by decide +kernel) (pa_cons (pv 2) (pa_cons (pe_bltn (v := .ty "tuple") (u := .type "tuple") (by rfl) T.tuple (by decide +kernel) rfl) pa_nil))))) (pw_or1 (pt_cmpR op_ne (pe_callB call_len_seq (by rfl) T.len PySem.boot_len (pa_cons (pv 2) pa_nil)) pe_int (nomark _))))) (pss_one (ps_ret pe_bl)) pss_nil)
    (pss_cons (ps_asg (pv 2) (pg_tup (n := 3) rfl (pgs_cons (pg_name (i := 3) sc_is_move.nd rfl (.inl rfl)) (pgs_cons (pg_name (i := 4) sc_is_move.nd rfl (.inl rfl)) (pgs_cons (pg_name (i := 5) sc_is_move.nd rfl (.inl rfl)) pgs_nil)))))
    (pss_cons (ps_if (PW.pt (pw_or (pt_not (pt_val (pe_call G_is_index (hr.mono (by decide)) (by rfl) g_is_index k_is_index b_is_index .nil pass0 (pa_cons (pv 3) (pa_cons (pv 1) pa_nil))))) (pw_or (pt_not (pt_val (pe_call G_is_whole (hr.mono (by decide)) (by rfl) g_is_whole k_is_whole b_is_whole .nil pass0 (pa_cons (pv 4) pa_nil)))) (pw_or1 (pt_not (pt_val (pe_call G_is_whole (hr.mono (by decide)) (by rfl) g_is_whole k_is_whole b_is_whole .nil pass0 (pa_cons (pv 5) pa_nil)))))))) (pss_one (ps_ret pe_bl)) pss_nil)
    (pss_one (ps_ret (pe_cmp (pc_din (hu_of hr) (pe_tup (pa_cons (pv 4) (pa_cons (pv 5) pa_nil))) (pv 0)))))))), ?_⟩
  rcases h with ⟨rfl, q⟩ | ⟨t, m, rfl, ht, ⟨v1, d, j⟩, q⟩
  · refine ⟨_, rfl, _, _, _, _, _, rfl, .ty _, .base .non, kit_ty (r := false) (by decide +kernel), _, rfl, iteT ?_⟩
    exact iteT q
  · refine ⟨_, rfl, _, _, _, _, _, rfl, .ty _, ty_tup (K := K) (SqT.of ht), kit_ty (r := true) (by decide +kernel), _, rfl, iteF ?_⟩
    refine ⟨_, rfl, _, _, rfl, .inr (SqT.of ht), rfl, _, rfl, iteF ?_⟩
    refine ⟨_, rfl, _, _, rfl, SqT.of ht, rfl, _, _, rfl, _, _, rfl, _, _, rfl, rfl, ?_⟩
    refine ⟨_, rfl, _, rfl, _, _, rfl, _, rfl, ?_⟩
    rw [decide_eq_true (show (0 : Int) ≤ (m.1 : Int) ∧ (m.1 : Int) < (n : Int) by omega)]
    refine iteF ⟨_, rfl, _, rfl, _, rfl, iteF ⟨_, rfl, _, rfl, _, rfl, iteF ?_⟩⟩
    refine ⟨_, rfl, _, rfl, by show 2 ≤ sizeLine; decide, fun t1 nt1 => ?_⟩
    refine ⟨_, rfl, p, _, rfl, .t (k := kD m.2.1 m.2.2) (by rw [upd_ne (ne_of_none hp nt1)]; exact hp) upd_same, ?_⟩
    rw [dr.at_ d m.2.1 m.2.2 (joins_lt j) j]
    exact q _ (Same.upd nt1)
theorem ok_check_plan (T : Bl mg) (D : Def K mg "check_plan" s_check_plan) (C_need_house : Cal P w K mg base "need_house" ["house"] 5 (spRing K)) (C_need_people : Cal P w K mg base "need_people" ["people"] 2 spPeople)
    (C_doors_by_ends : Cal P w K mg base "doors_by_ends" ["house"] 1 (spDoors K)) (C_is_move : Cal P w K mg base "is_move" ["doors", "people", "value"] 3 spMove) : Cal P w K mg base "check_plan" ["house", "people", "value"] 6 (spPlan K) := by
  refine D.ok sc_check_plan (fun _ _ _ _ _ _ us hl => match us, hl with | [_, _, _], _ => rfl) (fun vs H Q E h => ?_) (fun f cdv A outer s H vs Q E hr h => ?_)
  · obtain ⟨a, pl, p, n, ds, l, bad, rfl, _⟩ := h
    rfl
  obtain ⟨a, pl, p, n, ds, l, bad, rfl, hH, tree, hn, hp, ⟨ts, hpl, tl⟩, vm, q0, q1⟩ := h
  obtain ⟨f_need_house, fd_need_house, g_need_house, k_need_house, b_need_house, G_need_house⟩ := C_need_house
  obtain ⟨f_need_people, fd_need_people, g_need_people, k_need_people, b_need_people, G_need_people⟩ := C_need_people
  obtain ⟨f_doors_by_ends, fd_doors_by_ends, g_doors_by_ends, k_doors_by_ends, b_doors_by_ends, G_doors_by_ends⟩ := C_doors_by_ends
  obtain ⟨f_is_move, fd_is_move, g_is_move, k_is_move, b_is_move, G_is_move⟩ := C_is_move
  refine ⟨_, (pss_cons (ps_expr (pe_call G_need_house (hr.mono (by decide)) (by rfl) g_need_house k_need_house b_need_house .nil pass0 (pa_cons (pv 0) pa_nil)))
    (pss_cons (ps_expr (pe_call G_need_people (hr.mono (by decide)) (by rfl) g_need_people k_need_people b_need_people .nil pass0 (pa_cons (pv 1) pa_nil)))
    (pss_cons (ps_if (pt_not (pt_val (pe_callB call_isi (by rfl) T.isinstance (by decide +kernel) (pa_cons (pv 2) (pa_cons (pe_bltn (v := .ty "list") (u := .type "list") (by rfl) T.list (by decide +kernel) rfl) pa_nil))))) (pss_one (ps_ret (pe_tup (pa_cons pe_str pa_nil)))) pss_nil)
    (pss_cons (ps_set (i := 3) sc_check_plan.nd rfl (.inl rfl) (pe_call G_doors_by_ends (hr.mono (by decide)) (by rfl) g_doors_by_ends k_doors_by_ends b_doors_by_ends .nil pass0 (pa_cons (pv 0) pa_nil)))
    (pss_cons (ps_for PassesOwn.never rfl (pi_enum (by rfl) T.enumerate (pa_cons (pv 2) pa_nil)) (pg_tup (n := 2) rfl (pgs_cons (pg_name (i := 4) sc_check_plan.nd rfl (.inl rfl)) (pgs_cons (pg_name (i := 5) sc_check_plan.nd rfl (.inl rfl)) pgs_nil)))
    (pss_one (ps_if (pt_not (pt_val (pe_call G_is_move (hr.mono (by decide)) (by rfl) g_is_move k_is_move b_is_move .nil pass0 (pa_cons (pv 3) (pa_cons (pv 1) (pa_cons (pv 5) pa_nil)))))) (pss_one (ps_ret (pe_tup (pa_cons pe_str (pa_cons (pv 4) pa_nil))))) pss_nil)))
    (pss_one (ps_ret pe_non))))))), ?_⟩
  refine ⟨_, rfl, a, ds, n, rfl, hH, tree, hn, fun H1 s1 => ?_⟩
  refine ⟨_, rfl, p, rfl, hp, ?_⟩
  refine ⟨_, rfl, _, _, _, _, _, rfl, .ty _, .base (.lst (s1 _ _ hpl)), kit_ty (r := true) (by decide +kernel), _, rfl, iteF ?_⟩
  refine ⟨_, rfl, a, ds, n, rfl, hH.same s1, tree, hn, fun H2 pd kvs s2 npd hpd dr => ?_⟩
  have s12 := s1.trans s2
  have hpl2 := s12 _ _ hpl
  refine ⟨_, rfl, pl, _, rfl, SqL.of hpl2, ?_⟩
  refine for_it (walk_enum (K := K) (a := pl) (xs := ts.map V.ref ++ if bad = true then [.non] else [])) (fun k σ H3 => ∃ y4 y5, σ = [some (.ref a), some (.int (p : Int)), some (.ref pl), some (.ref pd), y4, y5] ∧ Same H2 H3 ∧ k ≤ l.length)
    ⟨_, _, rfl, Same.refl _, Nat.zero_le _⟩ (fun i σ H3 _ ⟨_, _, _, sm, _⟩ => SqL.of (sm _ _ hpl2)) ?_ ?_
  · rintro k x σ H3 H4 hk ⟨y4, y5, rfl, sm, hkl⟩ ⟨t, x1, x2, rfl, nt, rfl, ex1, ex2⟩
    cases ex1
    have sm4 := sm.trans (Same.upd (o := .tup [.int (k : Nat), x2]) nt)
    refine ⟨t, _, rfl, SqT.of upd_same, rfl, _, _, rfl, _, _, rfl, rfl, ?_⟩
    generalize upd H3 t (.tup [.int (k : Nat), x2]) = H5 at sm4
    by_cases hkk : k < l.length
    · obtain ⟨t1, ht1⟩ : ∃ t1, ts[k]? = some t1 := get_of tl.1 hkk
      obtain ⟨m, hm⟩ : ∃ m, l[k]? = some m := get_of rfl hkk
      have e : x2 = V.ref t1 := by
        have ex2 : (ts.map V.ref ++ if bad = true then [.non] else [])[k]? = some x2 := ex2
        rw [List.getElem?_append_left (by rw [List.length_map, tl.1]; exact hkk), List.getElem?_map, ht1] at ex2
        exact (Option.some.inj ex2).symm
      subst e
      refine ⟨_, rfl, _, rfl, _, rfl, pd, p, _, ds, kvs, rfl, sm4 _ _ hpd, dr, .inr ⟨t1, m, rfl, sm4 _ _ (s12 _ _ (tl.2 k t1 m ht1 hm)), vm m (List.mem_of_getElem? hm), fun H6 s6 => ?_⟩⟩
      exact ⟨_, rfl, iteF ⟨_, _, rfl, sm4.trans s6, hkk⟩⟩
    · have e : k = l.length := by omega
      subst e
      have eb : bad = true ∧ x2 = .non := by
        have ex2 : (ts.map V.ref ++ if bad = true then [.non] else [])[l.length]? = some x2 := ex2
        rw [List.getElem?_append_right (by rw [List.length_map, tl.1]; exact Nat.le_refl _), List.length_map, tl.1, Nat.sub_self] at ex2
        cases bad with
        | false => simp at ex2
        | true => exact ⟨rfl, (by simpa using ex2.symm)⟩
      obtain ⟨rfl, rfl⟩ := eb
      refine ⟨_, rfl, _, rfl, _, rfl, pd, p, _, ds, kvs, rfl, sm4 _ _ hpd, dr, .inl ⟨rfl, _, rfl, iteT ?_⟩⟩
      refine ⟨_, rfl, by show 2 ≤ sizeLine; decide, fun t2 nt2 => ?_⟩
      exact q1 rfl _ t2 ((s12.trans sm4).trans (Same.upd nt2)) upd_same
  · rintro σ H3 ⟨y4, y5, rfl, sm, hkl⟩
    have eb : bad = false := by
      cases bad with
      | false => rfl
      | true =>
        rw [List.length_append, List.length_map, tl.1] at hkl
        simp at hkl
        omega
    exact q0 eb H3 (s12.trans sm)
theorem ok_need_plan (T : Bl mg) (D : Def K mg "need_plan" s_need_plan) (C_check_plan : Cal P w K mg base "check_plan" ["house", "people", "value"] 6 (spPlan K)) : Cal P w K mg base "need_plan" ["house", "people", "plan"] 7 (spNP K) := by
  refine D.ok sc_need_plan (fun _ _ _ _ _ _ us hl => match us, hl with | [_, _, _], _ => rfl) (fun vs H Q E h => ?_) (fun f cdv A outer s H vs Q E hr h => ?_)
  · obtain ⟨a, pl, p, n, ds, l, rfl, _⟩ := h
    rfl
  obtain ⟨a, pl, p, n, ds, l, rfl, hH, tree, hn, hp, hpl, vm, q0⟩ := h
  obtain ⟨f_check_plan, fd_check_plan, g_check_plan, k_check_plan, b_check_plan, G_check_plan⟩ := C_check_plan
  refine ⟨_, (pss_cons (ps_set (i := 3) sc_need_plan.nd rfl (.inl rfl) (pe_call G_check_plan (hr.mono (by decide)) (by rfl) g_check_plan k_check_plan b_check_plan .nil pass0 (pa_cons (pv 0) (pa_cons (pv 1) (pa_cons (pv 2) pa_nil)))))
    (pss_one (ps_if (pt_cmpR op_notN (pv 3) pe_non (nomark _)) pss_never pss_nil))), ?_⟩
  refine ⟨_, rfl, _, rfl, _, rfl, a, pl, p, n, ds, l, false, rfl, hH, tree, hn, hp, hpl, vm, fun _ H2 sm2 => ?_, fun eb => (by cases eb)⟩
  exact ⟨_, rfl, rfl, _, rfl, iteF (q0 H2 sm2)⟩
end
end K5

namespace K5
open PySem PySem.Spec PyProof.Rows L2
theorem PairsAt.but {g q : Addr} {H H' : Hp} {l} (h : PairsAt H q l) (hg : ∃ xs, H g = some (.lst xs)) (ne : q ≠ g) (s : But g H H') : PairsAt H' q l := by
  obtain ⟨xs, hx⟩ := hg
  exact h.aside hx ne s
/-- a rearranged list of the same pairs -/
theorem PairsAt.perm {H : Hp} {l : List (Nat × Nat)} {ts : List Addr} {ys : List V} (h2 : ts.length = l.length) (h3 : ∀ (i : Nat) (t : Addr) (e : Nat × Nat), ts[i]? = some t → l[i]? = some e → H t = some (.tup [.int e.1, .int e.2]))
    (p : ys.Perm (ts.map V.ref)) : ∃ (ts' : List Addr) (l' : List (Nat × Nat)), ys = ts'.map V.ref ∧ l'.Perm l ∧ ts'.length = l'.length ∧ ∀ (i : Nat) (t : Addr) (e : Nat × Nat), ts'[i]? = some t → l'[i]? = some e → H t = some (.tup [.int e.1, .int e.2]) := by
  have e1 : ts.map V.ref = (ts.zip l).map (fun z => V.ref z.1) := by
    have e : (ts.zip l).map (fun z => V.ref z.1) = ((ts.zip l).map Prod.fst).map V.ref := by rw [List.map_map]; rfl
    rw [e, List.map_fst_zip (by omega)]
  rw [e1] at p
  obtain ⟨zs, ez, pz⟩ := perm_of_map _ _ _ p
  refine ⟨zs.map Prod.fst, zs.map Prod.snd, by rw [ez, List.map_map]; rfl, ?_, by simp, fun i t e a b => ?_⟩
  · have q := pz.map Prod.snd
    rw [List.map_snd_zip (by omega)] at q
    exact q
  · rw [List.getElem?_map] at a b
    cases hz : zs[i]? with
    | none => rw [hz] at a; cases a
    | some z =>
      rw [hz] at a b
      cases a
      cases b
      have hm := pz.mem_iff.mp (List.mem_of_getElem? hz)
      obtain ⟨j, hj⟩ := List.mem_iff_getElem?.mp hm
      rw [List.getElem?_zip_eq_some] at hj
      exact h3 j _ _ hj.1 hj.2
theorem Flip.perm {fs ds : List (Nat × Nat)} (p : fs.Perm ds) : ∀ {es : List (Nat × Nat)}, Flip es fs → ∃ es', es'.Perm es ∧ Flip es' ds := by
  induction p with
  | nil => intro es h; exact ⟨es, List.Perm.refl _, h⟩
  | cons x _ ih =>
    intro es h
    cases h with
    | same h =>
      obtain ⟨e', p', f'⟩ := ih h
      exact ⟨_ :: e', p'.cons _, .same f'⟩
    | turn h =>
      obtain ⟨e', p', f'⟩ := ih h
      exact ⟨_ :: e', p'.cons _, .turn f'⟩
  | swap x y l =>
    intro es h
    cases h with
    | same h =>
      cases h with
      | same h => exact ⟨_, List.Perm.swap _ _ _, .same (.same h)⟩
      | turn h => exact ⟨_, List.Perm.swap _ _ _, .turn (.same h)⟩
    | turn h =>
      cases h with
      | same h => exact ⟨_, List.Perm.swap _ _ _, .same (.turn h)⟩
      | turn h => exact ⟨_, List.Perm.swap _ _ _, .turn (.turn h)⟩
  | trans _ _ ih1 ih2 =>
    intro es h
    obtain ⟨e1, p1, f1⟩ := ih1 h
    obtain ⟨e2, p2, f2⟩ := ih2 f1
    exact ⟨e2, p2.trans p1, f2⟩
def spHouse (K : PySem.W.Frag) : Sp := fun vs H Q _ => ∃ (g : Addr) (b n : Nat), vs = [.ref g, .int (n : Int)] ∧ GenAt H g b ∧ 0 < n ∧ n ≤ 60 ∧ b < 2 ^ 50 ∧
  ∀ (H' : Hp) (a : Addr) (ds : List (Nat × Nat)), But g H H' → GenAt H' g (b + 1000) → a ≠ g → HouseAt K H' a ds → Tree n ds → Q (.ref a) H'
section
variable {P : Program} {w : World} {K : PySem.W.Frag}
      {mg : Str → Option Value} {base : Heap}
theorem ok_random_house (T : Bl mg) (D : Def K mg "_law_random_house" s_l_random_house) (C_l_random : Cal P w K mg base "_law_random" ["_law_generator_here", "_law_bound"] 2 spRand)
    (C_l_shuffled : Cal P w K mg base "_law_shuffled" ["_law_generator_here", "_law_items"] 3 (spShuf K)) : Cal P w K mg base "_law_random_house" ["_law_generator_here", "_law_size"] 4 (spHouse K) := by
  refine D.ok sc_l_random_house (fun _ _ _ _ _ _ us hl => match us, hl with | [_, _], _ => rfl) (fun vs H Q E h => ?_) (fun f cdv A outer s H vs Q E hr h => ?_)
  · obtain ⟨g, b, n, rfl, _⟩ := h
    rfl
  obtain ⟨g, b, n, rfl, hg, hn0, hn1, hb, q⟩ := h
  obtain ⟨f_l_shuffled, fd_l_shuffled, g_l_shuffled, k_l_shuffled, b_l_shuffled, G_l_shuffled⟩ := C_l_shuffled
  obtain ⟨f_l_random, fd_l_random, g_l_random, k_l_random, b_l_random, G_l_random⟩ := C_l_random
  refine ⟨_, (pss_cons (ps_set (i := 2) sc_l_random_house.nd rfl (.inl rfl) (pe_call G_l_shuffled (hr.mono (by decide)) (by rfl) g_l_shuffled k_l_shuffled b_l_shuffled .nil pass0 (pa_cons (pv 0) (pa_cons (pe_listRg rfl (by rfl) T.list (prg_1 (by rfl) T.range (pv 1))) pa_nil))))
    (pss_cons (ps_set (i := 3) sc_l_random_house.nd rfl (.inl rfl) (pe_call G_l_random (hr.mono (by decide)) (by rfl) g_l_random k_l_random b_l_random .nil pass0 (pa_cons (pv 0) (pa_cons pe_int pa_nil))))
    (pss_cons (ps_set (i := 4) sc_l_random_house.nd rfl (.inl rfl) (pe_lst pa_nil))
    (pss_cons (ps_for PassesOwn.never rfl (pi_range2 rfl T.range (pa_cons pe_int (pa_cons (pv 1) pa_nil))) (pg_name (i := 5) sc_l_random_house.nd rfl (.inl rfl))
    (pss_cons (ps_set (i := 6) sc_l_random_house.nd rfl (.inl rfl) (pe_ix ix_list (pe_lst (pa_cons (pe_op op_sub (pv 5) pe_int) (pa_cons pe_int (pa_cons (pe_call G_l_random (hr.mono (by decide)) (by rfl) g_l_random k_l_random b_l_random .nil pass0 (pa_cons (pv 0) (pa_cons (pv 5) pa_nil))) (pa_cons (pe_call G_l_random (hr.mono (by decide)) (by rfl) g_l_random k_l_random b_l_random .nil pass0 (pa_cons (pv 0) (pa_cons (pv 5) pa_nil))) pa_nil))))) (pv 3) (fun _ _ => rfl)))
    (pss_cons (ps_set (i := 7) sc_l_random_house.nd rfl (.inl rfl) (pe_tup (pa_cons (pe_ix ix_list (pv 2) (pv 6) (fun _ _ => rfl)) (pa_cons (pe_ix ix_list (pv 2) (pv 5) (fun _ _ => rfl)) pa_nil))))
    (pss_one (ps_expr (pe_bm PySem.F.plainAttrs_list PySem.F.slot_list_append PySem.F.type_list_append mt_append (pv 4) (pa_cons (pe_stp (pv 7) (pe_op op_sub pe_int (pe_op op_mul pe_int (pe_call G_l_random (hr.mono (by decide)) (by rfl) g_l_random k_l_random b_l_random .nil pass0 (pa_cons (pv 0) (pa_cons pe_int pa_nil)))))) pa_nil)))))))
    (pss_one (ps_ret (pe_callTy call_tuple_of (by rfl) T.tuple (by decide +kernel) (pa_cons (pe_call G_l_shuffled (hr.mono (by decide)) (by rfl) g_l_shuffled k_l_shuffled b_l_shuffled .nil pass0 (pa_cons (pv 0) (pa_cons (pv 4) pa_nil))) pa_nil)))))))), ?_⟩
  have en : rgV 0 (n : Int) = nv (List.range n) := rgV_nat n
  refine ⟨_, rfl, _, rfl, _, rfl, .of_le (Int.le_refl _) (by omega) (by omega) (by omega), fun pn npn => ?_⟩
  rw [en]
  have npng : pn ≠ g := hg.ne npn
  have s1 := Same.upd (o := .lst (nv (List.range n))) npn
  have g1 := hg.same s1
  have hn1' : (upd H pn (.lst (nv (List.range n)))) pn = some (.lst (nv (List.range n))) := upd_same
  generalize upd H pn (.lst (nv (List.range n))) = H1 at s1 g1 hn1'
  refine ⟨g, pn, b, nv (List.range n), rfl, g1, SqL.of hn1', npng, by rw [nv_len, List.length_range]; omega, by omega, fun H2 ql ys bt2 g2 nql hql pm => ?_⟩
  rw [nv_len, List.length_range] at g2
  obtain ⟨L, rfl, pL⟩ := perm_of_map _ _ _ pm
  have hql : H2 ql = some (.lst (nv L)) := hql
  have hLl : L.length = n := by rw [pL.length_eq, List.length_range]
  have nqlg : ql ≠ g := fun z => by
    subst z
    obtain ⟨xs, hxs⟩ := g1.lst
    rw [hxs] at nql
    cases nql
  refine ⟨_, rfl, g, b + n, 4, rfl, g2, by decide, by decide, by omega, fun H3 kind bt3 g3 hk => ?_⟩
  refine ⟨Nat.zero_le _, fun pd npd => ?_⟩
  have hpdg := g3.ne npd
  have bt03 : But g H H3 := (s1.but.trans bt2).trans bt3
  have npd0 : H pd = none := bt03.free hpdg npd
  have nlp : ql ≠ pd := ne_of_none (bt3 _ _ nqlg hql) npd
  refine ⟨_, rfl, _, _, rfl, ⟨by omega, by omega, by omega, by omega⟩, ?_⟩
  refine for_it (walk_range (lo := 1) (n := ((n : Int) - 1).toNat)) (fun i σ H4 => ∃ es fs y5 y6 y7, σ = [some (.ref g), some (.int (n : Int)), some (.ref ql), some (.int (kind : Int)), some (.ref pd), y5, y6, y7] ∧
    But g H H4 ∧ GenAt H4 g (b + n + 1 + 3 * i) ∧ H4 ql = some (.lst (nv L)) ∧ PairsAt H4 pd fs ∧ Tr0 (1 + i) es ∧ Flip (es.map fun e => (L.getD e.1 0, L.getD e.2 0)) fs)
    ⟨[], [], _, _, _, rfl, bt03.at npd0 _, g3.same (Same.upd npd), by rw [upd_ne nlp]; exact bt3 _ _ nqlg hql, ⟨[], upd_same, rfl, fun i t e h => by simp at h⟩, Tr0.one, .nil⟩ (fun _ _ _ _ _ => trivial) ?_ ?_
  · rintro i x σ H4 H5 hi ⟨es, fs, y5, y6, y7, rfl, bt4, g4, hl4, ⟨ts, f1, f2, f3⟩, tr, fl⟩ ⟨rfl, hx⟩
    have hel := tr.len
    have flen : fs.length = i := by
      rw [← fl.len, List.length_map]
      omega
    have hi' : 1 + i < n := by omega
    have er : (1 : Int) + (i : Int) = ((1 + i : Nat) : Int) := by omega
    have hx' : x = V.int ((1 + i : Nat) : Int) := hx.trans (congrArg V.int er)
    subst hx'
    refine ⟨_, rfl, _, _, rfl, rfl, _, rfl, _, rfl, g, b + n + 1 + 3 * i, 1 + i, rfl, g4, by omega, by omega, by omega, fun H6 u1 bt6 g6 hu1 => ?_⟩
    refine ⟨_, rfl, _, rfl, g, _, 1 + i, rfl, g6, by omega, by omega, by omega, fun H7 u2 bt7 g7 hu2 => ⟨by show 4 ≤ sizeLine; decide, fun pl npl => ?_⟩⟩
    obtain ⟨o, ho, hlt⟩ : ∃ o : Nat, ([V.int (((1 + i : Nat) : Int) - 1), V.int 0, V.int (u1 : Int), V.int (u2 : Int)] : List V)[kind]? = some (.int (o : Int)) ∧ o < 1 + i := by
      match kind, hk with
      | 0, _ => exact ⟨i, congrArg (fun z => some (V.int z)) (by omega), by omega⟩
      | 1, _ => exact ⟨0, rfl, by omega⟩
      | 2, _ => exact ⟨u1, rfl, hu1⟩
      | 3, _ => exact ⟨u2, rfl, hu2⟩
    refine ⟨_, rfl, pl, _, _, _, rfl, rfl, SqL.of upd_same, atI_nat ho, ?_⟩
    have nplg : pl ≠ g := g7.ne npl
    have gl4 := g4.lst.choose_spec
    have gl6 := g6.lst.choose_spec
    have bt47 := bt6.trans bt7
    have hl7 := bt47 _ _ nqlg hl4
    have f17 := bt47 _ _ hpdg f1
    have f37 := fun i t e a b => bt47 _ _ (ne_lt gl4 (f3 i t e a b)) (f3 i t e a b)
    have s8 := Same.upd (o := .lst [V.int (((1 + i : Nat) : Int) - 1), V.int 0, V.int (u1 : Int), V.int (u2 : Int)]) npl
    have hl8 := s8 _ _ hl7
    have f18 := s8 _ _ f17
    have f38 := fun i t e a b => s8 _ _ (f37 i t e a b)
    have g8 := g7.same s8
    have bt8 := (bt4.trans bt47).trans s8.but
    generalize upd H7 pl (.lst [V.int (((1 + i : Nat) : Int) - 1), V.int 0, V.int (u1 : Int), V.int (u2 : Int)]) = H8 at s8 hl8 f18 f38 g8 bt8
    have a1 : L[o]? = some (L.getD o 0) := by
      rw [List.getD_eq_getElem?_getD, List.getElem?_eq_getElem (by omega)]
      rfl
    have a2 : L[1 + i]? = some (L.getD (1 + i) 0) := by
      rw [List.getD_eq_getElem?_getD, List.getElem?_eq_getElem (by omega)]
      rfl
    refine ⟨_, rfl, _, rfl, ql, _, _, _, rfl, rfl, SqL.of hl8, nv_at a1, _, rfl, _, rfl, ql, _, _, _, rfl, rfl, SqL.of hl8, nv_at a2, by show 2 ≤ sizeLine; decide, fun te nte => ?_⟩
    generalize hd1 : L.getD o 0 = d1 at *
    generalize hd2 : L.getD (1 + i) 0 = d2 at *
    have nteg : te ≠ g := g8.ne nte
    have sA := Same.upd (o := .tup [.int (d1 : Int), .int (d2 : Int)]) nte
    have hteA : (upd H8 te (.tup [.int (d1 : Int), .int (d2 : Int)])) te = some (.tup [.int (d1 : Int), .int (d2 : Int)]) := upd_same
    have gA := g8.same sA
    have hlA := sA _ _ hl8
    have fA := sA _ _ f18
    have f3A := fun i t e a b => sA _ _ (f38 i t e a b)
    have btA := bt8.trans sA.but
    generalize upd H8 te (.tup [.int (d1 : Int), .int (d2 : Int)]) = HA at sA hteA gA hlA fA f3A btA
    refine ⟨_, rfl, .inl ⟨rfl, _, SqL.of fA⟩, _, rfl, _, rfl, g, b + n + 1 + 3 * i + 1 + 1, 2, rfl, gA, by decide, by decide, by omega, fun HB u btB gB hu => ?_⟩
    have gAl := gA.lst.choose_spec
    have hteB := btB _ _ nteg hteA
    have hlB := btB _ _ nqlg hlA
    have fB := btB _ _ hpdg fA
    have f3B := fun i t e x y => btB _ _ (ne_lt gAl (f3A i t e x y)) (f3A i t e x y)
    have btHB := btA.trans btB
    have tr' := tr.grow o hlt
    have em : ((es ++ [(o, 1 + i)]).map fun e => (L.getD e.1 0, L.getD e.2 0)) = (es.map fun e => (L.getD e.1 0, L.getD e.2 0)) ++ [(d1, d2)] := by
      rw [List.map_append, ← hd1, ← hd2]
      rfl
    refine ⟨_, _, rfl, rfl, .inl (by decide), _, _, rfl, rfl, te, _, _, rfl, SqT.of hteB, ?_⟩
    match u, hu with
    | 0, _ =>
      refine .inl ⟨rfl, pd, _, _, rfl, rfl, fB, by rw [List.length_map, f2]; exact small1000 (by omega), ?_⟩
      refine ⟨es ++ [(o, 1 + i)], fs ++ [(d1, d2)], _, _, _, rfl, btHB.at npd0 _, (gB.at hpdg).mono (by omega), by rw [upd_ne nlp]; exact hlB, .push (ts := ts) fB f2 f3B (fun b o ne e => by rw [upd_ne ne]; exact e) upd_same (by rw [upd_ne (ne_lt fB hteB)]; exact hteB), ?_, by rw [em]; exact fl.snoc _⟩
      rw [show 1 + (i + 1) = 1 + i + 1 by omega]
      exact tr'
    | 1, _ =>
      refine .inr ⟨rfl, fun tt ntt => ⟨pd, _, _, rfl, rfl, by rw [upd_ne (ne_of_none fB ntt)]; exact fB, by rw [List.length_map, f2]; exact small1000 (by omega), ?_⟩⟩
      have nttg : tt ≠ g := gB.ne ntt
      have sC := Same.upd (o := .tup [.int (d2 : Int), .int (d1 : Int)]) ntt
      refine ⟨es ++ [(o, 1 + i)], fs ++ [(d2, d1)], _, _, _, rfl, (btHB.at (btHB.free nttg ntt) _).at npd0 _, ((gB.same sC).at hpdg).mono (by omega), by rw [upd_ne nlp]; exact sC _ _ hlB, .push (ts := ts) (sC _ _ fB) f2 (fun i t e x y => sC _ _ (f3B i t e x y)) (fun b o ne e => by rw [upd_ne ne]; exact e) upd_same (by rw [upd_ne (ne_of_none fB ntt).symm, upd_same]), ?_, by rw [em]; exact fl.snocT _ _⟩
      rw [show 1 + (i + 1) = 1 + i + 1 by omega]
      exact tr'
  · rintro σ H4 ⟨es, fs, y5, y6, y7, rfl, bt4, g4, hl4, ⟨ts, f1, f2, f3⟩, tr, fl⟩
    have e1 : 1 + ((n : Int) - 1).toNat = n := by omega
    rw [e1] at tr
    have flen : fs.length + 1 = n := by
      rw [← fl.len, List.length_map]
      exact tr.len
    refine ⟨_, rfl, _, rfl, g, pd, _, _, rfl, g4, SqL.of f1, hpdg, by rw [List.length_map, f2]; omega, by omega, fun H5 qs ys bt5 g5 nqs hqs pm2 => ?_⟩
    rw [List.length_map, f2] at g5
    have gl4 := g4.lst.choose_spec
    have f35 := fun i t e a b => bt5 _ _ (ne_lt gl4 (f3 i t e a b)) (f3 i t e a b)
    obtain ⟨ts', ds, rfl, pe, hl', pr'⟩ := PairsAt.perm f2 f35 pm2
    refine ⟨qs, _, rfl, .inl ⟨SqL.of hqs, fun pt npt => ?_⟩⟩
    have nptg : pt ≠ g := g5.ne npt
    obtain ⟨es', p', f'⟩ := Flip.perm pe.symm fl
    have bt05 := bt4.trans bt5
    exact q _ pt ds (bt05.at (bt05.free nptg npt) _) ((g5.same (Same.upd npt)).mono (by omega)) nptg ⟨ts', SqT.of upd_same, hl', fun d r e x y => SqT.of (Same.upd npt _ _ (pr' d r e x y))⟩ (((tr.nv pL).perm p').tree f')
end
end K5

namespace L2
open PySem PySem.Spec PyProof.Rows
/-- how many have been met: all, where none is met twice -/
theorem met_len (f : Nat → Int) : ∀ i, (((List.range i).map f).Nodup → (firstMet f i).length = i) ∧ (¬ ((List.range i).map f).Nodup → (firstMet f i).length < i)
  | 0 => ⟨fun _ => rfl, fun h => absurd (by simp) h⟩
  | i + 1 => by
    obtain ⟨h1, h2⟩ := met_len f i
    have le := firstMet_length_le f i
    have key : (firstMet f i).any (· == f i) = ((List.range i).map f).any (· == f i) := firstMet_any f i (f i)
    rw [firstMet_succ, List.range_succ, List.map_append]
    unfold step_dedup
    rw [key]
    by_cases c : ((List.range i).map f).any (· == f i) = true
    · rw [if_pos c]
      obtain ⟨x, hx, e⟩ := List.any_eq_true.mp c
      have e : x = f i := eq_of_beq e
      subst e
      refine ⟨fun nd => ?_, fun _ => by omega⟩
      obtain ⟨_, _, z⟩ := List.nodup_append.mp nd
      exact absurd rfl (z _ hx _ (by simp))
    · rw [if_neg c, List.length_append, List.length_singleton]
      have nm : f i ∉ (List.range i).map f := fun hx => c (List.any_eq_true.mpr ⟨f i, hx, beq_self_eq_true _⟩)
      refine ⟨fun nd => ?_, fun nd => ?_⟩
      · rw [h1 (List.nodup_append.mp nd).1]
      · have := h2 fun y => nd (List.nodup_append.mpr ⟨y, by simp, fun a ha b hb => by
          simp only [List.map_cons, List.map_nil,
                List.mem_singleton] at hb
          rintro rfl
          exact nm (hb ▸ ha)⟩)
        omega
/-- len(set(xs)), xs whole numbers -/
def tLenSetA (K : PySem.W.Frag) (ta : TE) : TE := fun σ H Q => ta σ H fun x H1 => ∃ (l : Addr) (ns : List Int), x = V.ref l ∧ SqL K H1 l (ns.map V.int) ∧ ns.length + 1 < scanBound ∧ ∀ n : Nat, (ns.Nodup → n = ns.length) → (¬ ns.Nodup → n < ns.length) → Q (.int (n : Int)) H1
theorem pe_lenSetA {X : Cx} {a : Expr} {ta : TE} {p p2 q pos : Pos} (hc : X.calm = true) (gl : Gl X "len") (ml : X.mg "len" = none) (gs : Gl X "set") (ms : X.mg "set" = none) (ha : PE X a ta)
    (one : starEach [a] X.env = (false, eval a X.env) :: starEach [] X.env := by rfl) : PE X (.Call (.Name "len" p) [.Call (.Name "set" p2) [a] [] q] [] pos) (tLenSetA X.K ta) := by
  constructor
  intro pins s σ H Q I h
  refine Call_ (ld_blt I gl ml PySem.boot_len (PyProof.Rows.callWith_builtin1 (PyProof.Rows.args_cons ?_ rfl) rfl rfl))
  refine Call_ (ld_blt I gs ms PyProof.Rows.boot_set (PyProof.Rows.callWith_type1 (PyProof.Rows.args_cons (thn (ha.run pins s σ H _ I h) ?_) one) one rfl))
  rintro v s1 ⟨x, H1, I1, rx, l, ns, rfl, seq, few, z⟩
  obtain rfl : v = Value.ref l := rx
  refine PyProof.Rows.args_nil ?_
  obtain ⟨its, rv, at_l, _⟩ := I1.list seq
  have len : its.length = ns.length := by rw [← rv.length, List.length_map]
  refine call_set_list (I1.ok.hd hc) at_l.isList (intsAre_of rv) (by rw [List.size_toArray, len]; exact few) fun h' tk made keep => ?_
  have sz : its.toArray.size = ns.length := by rw [List.size_toArray, len]
  rw [sz] at made
  have all : (List.range ns.length).map (fun i => ns.getD i 0) = ns := by
    apply List.ext_getElem?
    intro i
    rw [List.getElem?_map]
    by_cases y : i < ns.length
    · rw [List.getElem?_range y, List.getElem?_eq_getElem y]
      simp [List.getD_eq_getElem?_getD, List.getElem?_eq_getElem y]
    · rw [List.getElem?_eq_none (by simpa using Nat.le_of_not_lt y), List.getElem?_eq_none (Nat.le_of_not_lt y)]
      rfl
  obtain ⟨m1, m2⟩ := met_len (fun i => ns.getD i 0) ns.length
  rw [all] at m1 m2
  have bound := firstMet_length_le (fun i => ns.getD i 0) ns.length
  have small : scanBound ≤ 2 ^ 62 := by decide
  refine PyProof.Rows.args_nil ?_
  obtain ⟨o, es, ep, t, ho, ex, hd, _, _, _, hf, hn⟩ := made
  have I2 : Inv X pins σ H1 { s1 with heap := h', toks := tk } := I1.kept fun b o e => keep b o (Heap.lt_size e) e
  exact call_len_set ho ex hd hf (by rw [hn]; omega) ⟨.int _, H1, I2.tok _, ⟨_, by rw [hn]⟩, z _ m1 m2⟩
end L2

namespace K5
open PySem PySem.Spec PyProof.Rows L2
theorem nil_or_snoc (N : List Nat) : N = [] ∨ ∃ N' y, N = N' ++ [y] := by
  rcases List.eq_nil_or_concat N with h | ⟨N', y, h⟩
  · exact .inl h
  · exact .inr ⟨N', y, by rw [h, List.concat_eq_append]⟩
def spRState (K : PySem.W.Frag) : Sp := fun vs H Q _ => ∃ (g a : Addr) (b p n : Nat) (ds : List (Nat × Nat)), vs = [.ref g, .ref a, .int (p : Int)] ∧ GenAt H g b ∧ HouseAt K H a ds ∧ Tree n ds ∧ n ≤ 60 ∧ 1 ≤ p ∧ p ≤ 10 ∧ b < 2 ^ 59 ∧
  ∀ (H' : Hp) (s : Addr) (S : S2), But g H H' → GenAt H' g (b + 200) → StateAt K H' s S → StOk n ds S → S.1.length = p → Q (.ref s) H'
section
variable {P : Program} {w : World} {K : PySem.W.Frag}
      {mg : Str → Option Value} {base : Heap}
theorem ok_random_state (T : Bl mg) (D : Def K mg "_law_random_state" s_l_random_state) (C_l_random : Cal P w K mg base "_law_random" ["_law_generator_here", "_law_bound"] 2 spRand) : Cal P w K mg base "_law_random_state" ["_law_generator_here", "_law_layout", "_law_count"] 3 (spRState K) := by
  refine D.ok sc_l_random_state (fun _ _ _ _ _ _ us hl => match us, hl with | [_, _, _], _ => rfl) (fun vs H Q E h => ?_) (fun f cdv A outer s H vs Q E hr h => ?_)
  · obtain ⟨g, a, b, p, n, ds, rfl, _⟩ := h
    rfl
  obtain ⟨g, a, b, p, n, ds, rfl, hg, hH, tree, hn, hp1, hp4, hb, q⟩ := h
  obtain ⟨rs, hrs, hlen, hds⟩ := id hH
  have hdn := tree.len
  have hn1 : 1 ≤ n := by omega
  obtain ⟨f_l_random, fd_l_random, g_l_random, k_l_random, b_l_random, G_l_random⟩ := C_l_random
  refine ⟨_, (pss_cons (ps_set (i := 3) sc_l_random_state.nd rfl (.inr rfl) (pe_lc (own := [("_law_who", 4)]) (g := gName 4)  (te := (tCall spRand [] E0 (tCons (tVar 0) (tCons (tOp (rI0 fun i j => .int (i + j)) (tCB (fun xs H Q => ∃ p ys, xs = [V.ref p] ∧ (SqL K H p ys ∨ SqT K H p ys) ∧ Q (.int ys.length) H) (tCons (tVar 1) tNil)) (tC (.int 1))) tNil)))) rfl sc_l_random_state.nd (pi_range1 rfl T.range (pa_cons (pv 2) pa_nil)) (blkOk_by (N := N_l_random_state) (sc := defScope s_l_random_state) (own := [("_law_who", 4)]) (by decide +kernel)) (fun _ _ _ _ _ => (pg_name (i := 4) sc_l_random_state.nd rfl (.inl rfl) (.inr rfl))) (fun _ _ _ _ _ => pts_nil) (fun _ _ _ _ _ => (pe_call G_l_random (hr.mono (by decide)) (by rfl) g_l_random k_l_random b_l_random .nil pass0 (pa_cons (pv 0) (pa_cons (pe_op op_add (pe_callB call_len_seq (by rfl) T.len PySem.boot_len (pa_cons (pv 1) pa_nil)) pe_int) pa_nil))))))
    (pss_cons (ps_set (i := 5) sc_l_random_state.nd rfl (.inl rfl) (pe_lst pa_nil))
    (pss_cons (ps_set (i := 6) sc_l_random_state.nd rfl (.inr rfl) (pe_cmpR op_gt (pe_call G_l_random (hr.mono (by decide)) (by rfl) g_l_random k_l_random b_l_random .nil pass0 (pa_cons (pv 0) (pa_cons pe_int pa_nil))) pe_int (nomark _)))
    (pss_cons (ps_for PassesOwn.never rfl (pi_tup (pv 1)) (pg_tup (n := 2) rfl (pgs_cons (pg_name (i := 7) sc_l_random_state.nd rfl (.inr rfl)) (pgs_cons (pg_name (i := 8) sc_l_random_state.nd rfl (.inr rfl)) pgs_nil)))
    (pss_cons (ps_setLc (i := 9) (own := [("_law_who", 4)]) (g := gName 4)  (tt := (tAnd (fun σ H Q => tVar 6 σ H fun x H1 => ∃ k, TruV K x H1 k ∧ Q k H1) (tTest (tOp (rIn K false) (tOp (rIxL K) (tVar 3) (tVar 4)) (tTup (tCons (tVar 7) (tCons (tVar 8) tNil))))))) rfl sc_l_random_state.nd rfl rfl (sw_true rfl rfl rfl (by decide +kernel)) (pi_range1 rfl T.range (pa_cons (pv 2) pa_nil)) (blkOk_by (N := N_l_random_state) (sc := defScope s_l_random_state) (own := [("_law_who", 4)]) (by decide +kernel)) (fun _ _ _ _ _ => (pg_name (i := 4) sc_l_random_state.nd rfl (.inl rfl) (.inr rfl))) (fun _ _ _ _ _ => (pts_one (PW.pt (pw_and (pt_truth (pv 6) (by intro _; rfl)) (pw_and1 (pt_cmpR op_in_seq (pe_ix ix_list (pv 3) (pv 4) (fun _ _ => rfl)) (pe_tup (pa_cons (pv 7) (pa_cons (pv 8) pa_nil))) (by rfl))))))) (fun _ _ _ _ _ => (pv 4)))
    (pss_cons (ps_set (i := 10) sc_l_random_state.nd rfl (.inl rfl) (pe_ix ix_list (pe_orT (pv 9) (pe_one (pe_listRg rfl (by rfl) T.list (prg_1 (by rfl) T.range (pv 2))))) (pe_call G_l_random (hr.mono (by decide)) (by rfl) g_l_random k_l_random b_l_random .nil pass0 (pa_cons (pv 0) (pa_cons (pe_orT (pe_callB call_len_seq (by rfl) T.len PySem.boot_len (pa_cons (pv 9) pa_nil)) (pe_one (pv 2))) pa_nil))) (fun _ _ => rfl)))
    (pss_one (ps_expr (pe_bm PySem.F.plainAttrs_list PySem.F.slot_list_append PySem.F.type_list_append mt_append (pv 5) (pa_cons (pe_ix ix_list (pe_lst (pa_cons (pv 10) (pa_cons (pe_call G_l_random (hr.mono (by decide)) (by rfl) g_l_random k_l_random b_l_random .nil pass0 (pa_cons (pv 0) (pa_cons (pv 2) pa_nil))) pa_nil))) (pe_callTy call_int1 (by rfl) T.int (by decide +kernel) (pa_cons (pe_cmpR op_eq (pe_call G_l_random (hr.mono (by decide)) (by rfl) g_l_random k_l_random b_l_random .nil pass0 (pa_cons (pv 0) (pa_cons pe_int pa_nil))) pe_int (nomark _)) pa_nil)) (fun _ _ => rfl)) pa_nil)))))))
    (pss_one (ps_ret (pe_tup (pa_cons (pe_callTy call_tuple_of (by rfl) T.tuple (by decide +kernel) (pa_cons (pv 3) pa_nil)) (pa_cons (pe_callTy call_tuple_of (by rfl) T.tuple (by decide +kernel) (pa_cons (pv 5) pa_nil)) pa_nil))))))))), ?_⟩
  have en : (((rs.map V.ref).length : Nat) : Int) + 1 = ((n : Nat) : Int) := by
    rw [List.length_map, hlen]
    omega
  obtain ⟨gx, hgx⟩ := hg.lst
  refine ⟨_, rfl, (p : Int), rfl, by omega, by omega, fun pd npd => ?_⟩
  have npdg : pd ≠ g := hg.ne npd
  refine lc_range (lo := 0) (n := p) (fun i H3 => ∃ L : List Nat, But g H H3 ∧ GenAt H3 g (b + i) ∧ H3 pd = some (.lst (nv L)) ∧ L.length = i ∧ ∀ x ∈ L, x < n) ?_ ?_ ?_
  · exact ⟨[], (Same.upd npd).but, hg.at npdg, upd_same, rfl, fun x hx => (List.not_mem_nil hx).elim⟩
  · rintro i H3 hi ⟨L, bt3, g3, hL, hl, lt⟩
    refine ⟨rfl, lcYes ?_⟩
    refine ⟨_, rfl, _, rfl, _, _, rfl, .inr (bt3.tup hgx hrs), _, _, rfl, rfl, ?_⟩
    refine ⟨g, b + i, n, congrArg (fun z => [V.ref g, V.int z]) en, g3, by omega, by omega, by omega, fun H4 z bt4 g4 hz => ?_⟩
    refine ⟨_, bt4 _ _ npdg hL, by rw [nv_len]; exact small1000 (by omega), L ++ [z], (bt3.trans bt4).at npd _, g4.at npdg, by rw [upd_same, nv_snoc], by simp [hl], fun x hx => ?_⟩
    rcases List.mem_append.mp hx with hx | hx
    · exact lt x hx
    · rw [List.mem_singleton] at hx
      rw [hx]
      exact hz
  · rintro H3 ⟨L, bt3, g3, hL, hl, lt⟩
    refine ⟨Nat.zero_le _, fun pe npe => ?_⟩
    have npeg : pe ≠ g := g3.ne npe
    have hped : pd ≠ pe := ne_of_none hL npe
    have btA := bt3.at (bt3.free npeg npe) (.lst [])
    have gA := g3.at (o := .lst []) npeg
    have hA : (upd H3 pe (.lst [])) pe = some (.lst []) := upd_same
    have hLA : (upd H3 pe (.lst [])) pd = some (.lst (nv L)) := by rw [upd_ne hped]; exact hL
    generalize upd H3 pe (.lst []) = H4 at btA gA hA hLA
    refine ⟨_, rfl, g, b + p, 3, rfl, gA, by decide, by decide, by omega, fun H5 u bt5 g5 hu => ?_⟩
    refine ⟨_, _, rfl, rfl, ?_⟩
    have btB := btA.trans bt5
    refine ⟨_, rfl, a, rfl, ⟨_, btB.tup hgx hrs⟩, ?_⟩
    have npe0 : H pe = none := bt3.free npeg npe
    refine for_it (walk_tup (K := K) (a := a) (xs := rs.map V.ref)) (fun i σ H6 => ∃ (M : List Nat) (y7 y8 y9 y10 : Option V), σ = [some (.ref g), some (.ref a), some (.int (p : Int)), some (.ref pd), none, some (.ref pe), some (.bl (decide ((0 : Int) < (u : Int)))), y7, y8, y9, y10] ∧ But g H H6 ∧ GenAt H6 g (b + p + 1 + 3 * i) ∧ H6 pd = some (.lst (nv L)) ∧ H6 pe = some (.lst (nv M)) ∧ M.length = i ∧ ∀ y ∈ M, y < p)
      ⟨[], _, _, _, _, rfl, btB, g5, bt5 _ _ npdg hLA, bt5 _ _ npeg hA, rfl, fun x hx => (List.not_mem_nil hx).elim⟩ (fun i σ H6 _ ⟨_, _, _, _, _, _, bt6, _⟩ => bt6.tup hgx hrs) ?_ ?_
    · rintro i x σ H6 H7 hi ⟨M, y7, y8, y9, y10, rfl, bt6, g6, hL6, hM, hlM, ltM⟩ ⟨rfl, ex⟩
      have hi' : i < ds.length := by
        rw [List.length_map, hlen] at hi
        exact hi
      obtain ⟨r, hr1⟩ : ∃ r, rs[i]? = some r := get_of rfl (by rw [hlen]; exact hi')
      obtain ⟨e, he⟩ : ∃ e, ds[i]? = some e := get_of rfl hi'
      rw [List.getElem?_map, hr1] at ex
      cases ex
      have hre := hds i r e hr1 he
      refine ⟨r, _, rfl, bt6.tup hgx hre, rfl, _, _, rfl, _, _, rfl, rfl, ?_⟩
      refine ⟨_, rfl, (p : Int), rfl, by omega, by omega, fun pn npn => ?_⟩
      have npng : pn ≠ g := g6.ne npn
      have s7 := Same.upd (o := .lst []) npn
      refine lc_range (lo := 0) (n := p) (fun k H8 => ∃ N : List Nat, Same H7 H8 ∧ H8 pn = some (.lst (nv N)) ∧ N.length ≤ k ∧ ∀ y ∈ N, y < p) ⟨[], s7, upd_same, Nat.zero_le _, fun x hx => (List.not_mem_nil hx).elim⟩ ?_ ?_
      · rintro k H8 hk ⟨N, s8, hN, hlN, ltN⟩
        rw [Int.zero_add]
        refine ⟨rfl, _, rfl, decide ((0 : Int) < (u : Int)), rfl, ?_⟩
        cases hlo : decide ((0 : Int) < (u : Int)) with
        | false => exact iteF (iteF ⟨N, s8, hN, by omega, ltN⟩)
        | true =>
          obtain ⟨z, hz⟩ : ∃ z, L[k]? = some z := get_of hl hk
          refine iteT ?_
          refine ⟨_, rfl, _, rfl, pd, _, _, _, rfl, rfl, SqL.of (s8 _ _ hL6), nv_at hz, ?_⟩
          refine ⟨_, rfl, _, rfl, by show 2 ≤ sizeLine; decide, fun tp ntp => ?_⟩
          have s9 := s8.trans (Same.upd (o := .tup [.int (e.1 : Int), .int (e.2 : Int)]) ntp)
          refine ⟨tp, _, rfl, .inr (SqT.of upd_same), rfl, rfl, ?_⟩
          have npp : pn ≠ tp := ne_of_none hN ntp
          have hN9 : (upd H8 tp (.tup [.int (e.1 : Int), .int (e.2 : Int)])) pn = some (.lst (nv N)) := by rw [upd_ne npp]; exact hN
          refine ⟨_, rfl, ?_⟩
          generalize inV _ _ = c
          cases c with
          | false => exact iteF ⟨N, s9, hN9, by omega, ltN⟩
          | true =>
            refine iteT ⟨_, rfl, _, hN9, by rw [nv_len]; exact small1000 (by omega), N ++ [k], s9.at npn, by rw [upd_same, nv_snoc], by rw [List.length_append, List.length_singleton]; omega, fun y hy => ?_⟩
            rcases List.mem_append.mp hy with hy | hy
            · exact ltN y hy
            · rw [List.mem_singleton] at hy
              rw [hy]
              exact hk
      · rintro H8 ⟨N, s8, hN, hlN, ltN⟩
        have b8 : But g H H8 := bt6.trans s8.but
        have g8 := g6.same s8
        have hM8 := s8 _ _ hM
        have bp : b + p + 1 + 3 * i < 2 ^ 60 := by omega
        rcases nil_or_snoc N with rfl | ⟨N', y, rfl⟩
        refine ⟨_, rfl, false, .inl ⟨_, SqL.of hN, rfl⟩, iteF ?_⟩
        refine ⟨_, rfl, _, rfl, .of_le (Int.le_refl _) (by omega) (by omega) (by omega), fun pq npq => ?_⟩
        have en2 : rgV 0 (p : Int) = nv (List.range p) := rgV_nat p
        rw [en2]
        have s9 := Same.upd (o := .lst (nv (List.range p))) npq
        have g9 := g8.same s9
        have hq9 : (upd H8 pq (.lst (nv (List.range p)))) pq = some (.lst (nv (List.range p))) := upd_same
        have hN9 := s9 _ _ hN
        refine ⟨_, rfl, _, rfl, _, _, rfl, .inl (SqL.of hN9), false, rfl, iteF ⟨_, rfl, g, b + p + 1 + 3 * i, p, rfl, g9, by omega, by omega, bp, fun H9 v bt9 g9' hv => ?_⟩⟩
        have nqg : pq ≠ g := g8.ne npq
        refine ⟨pq, _, _, _, rfl, rfl, SqL.of (bt9 _ _ nqg hq9), nv_at (y := v) (by rw [List.getElem?_range hv]), ?_⟩
        have b9 : But g H H9 := (b8.trans s9.but).trans bt9
        have hM9 := bt9 _ _ npeg (s9 _ _ hM8)
        have hL9 := bt9 _ _ npdg (s9 _ _ (s8 _ _ hL6))
        have hz : v < p := hv
        generalize v = z at hz ⊢
        rotate_left
        refine ⟨_, rfl, true, .inl ⟨_, SqL.of hN, by simp [nv]⟩, iteT ?_⟩
        have hlp : (N' ++ [y]).length < 2 ^ 29 := Nat.lt_of_le_of_lt hlN (Nat.lt_of_le_of_lt hp4 (by decide))
        have hnz : (((nv (N' ++ [y])).length : Nat) : Int) ≠ 0 := by rw [nv_len, List.length_append, List.length_singleton]; omega
        refine ⟨_, rfl, _, rfl, _, _, rfl, .inl (SqL.of hN), true, (bne_iff_ne.mpr hnz).symm, iteT ⟨g, b + p + 1 + 3 * i, (N' ++ [y]).length, congrArg (fun z : Nat => [V.ref g, V.int (z : Int)]) (nv_len _), g8, by rw [List.length_append, List.length_singleton]; omega, hlp, bp, fun H9 v bt9 g9' hv => ?_⟩⟩
        obtain ⟨z, hzv⟩ : ∃ z, (N' ++ [y])[v]? = some z := get_of rfl hv
        refine ⟨pn, _, _, _, rfl, rfl, SqL.of (bt9 _ _ npng hN), nv_at hzv, ?_⟩
        have b9 : But g H H9 := b8.trans bt9
        have hM9 := bt9 _ _ npeg hM8
        have hL9 := bt9 _ _ npdg (s8 _ _ hL6)
        have hz : z < p := ltN z (List.mem_of_getElem? hzv)
        all_goals
          refine ⟨_, rfl, .inl ⟨rfl, _, SqL.of hM9⟩, _, rfl, _, rfl, _, rfl, g, b + p + 1 + 3 * i + 1, p, rfl, g9', by omega, by omega, by omega, fun H10 v2 bt10 g10 hv2 => ?_⟩
          refine ⟨by show 2 ≤ sizeLine; decide, fun pl npl => ?_⟩
          have nplg : pl ≠ g := g10.ne npl
          have gB := g10.at (o := .lst [.int (z : Int), .int (v2 : Int)]) nplg
          have bB := (b9.trans bt10).at ((b9.trans bt10).free nplg npl) (.lst [.int (z : Int), .int (v2 : Int)])
          refine ⟨_, rfl, g, b + p + 1 + 3 * i + 2, 5, rfl, gB, by decide, by decide, by omega, fun H11 v3 bt11 g11 hv3 => ?_⟩
          obtain ⟨ix, w, e1, e2, hw⟩ : ∃ (ix w : Nat), (if decide (V.int (v3 : Int) = V.int 0) = true then (1 : Int) else 0) = (ix : Int) ∧ ([z, v2] : List Nat)[ix]? = some w ∧ w < p := by
            by_cases c0 : V.int (v3 : Int) = V.int 0
            · exact ⟨1, v2, by rw [decide_eq_true c0]; rfl, rfl, hv2⟩
            · exact ⟨0, z, by rw [decide_eq_false c0]; rfl, rfl, hz⟩
          have hl11 := bt11 _ _ nplg (show (upd H10 pl (.lst [.int (z : Int), .int (v2 : Int)])) pl = some _ from upd_same)
          have hM11 := bt11 _ _ npeg (show (upd H10 pl (.lst [.int (z : Int), .int (v2 : Int)])) pe = some (.lst (nv M)) from by rw [upd_ne (ne_of_none (bt10 _ _ npeg hM9) npl)]; exact bt10 _ _ npeg hM9)
          have hL11 := bt11 _ _ npdg (show (upd H10 pl (.lst [.int (z : Int), .int (v2 : Int)])) pd = some (.lst (nv L)) from by rw [upd_ne (ne_of_none (bt10 _ _ npdg hL9) npl)]; exact bt10 _ _ npdg hL9)
          have bE := bB.trans bt11
          refine ⟨rfl, .inr ⟨_, rfl, pl, _, _, _, rfl, rfl, SqL.of hl11, (show atI (nv [z, v2]) (if decide (V.int (v3 : Int) = V.int 0) = true then (1 : Int) else 0) = some (V.int (w : Int)) from by rw [e1]; exact nv_at e2), ?_⟩⟩
          refine ⟨pe, _, _, rfl, rfl, hM11, by rw [nv_len, hlM]; exact small1000 (by omega), M ++ [w], _, _, _, _, rfl, bE.at npe0 _, (g11.at npeg).mono (by omega), by rw [upd_ne hped]; exact hL11, by rw [upd_same, nv_snoc], by rw [List.length_append, hlM]; rfl, fun y hy => ?_⟩
          rcases List.mem_append.mp hy with hy | hy
          · exact ltM y hy
          · rw [List.mem_singleton] at hy
            rw [hy]
            exact hw
    · rintro σ H6 ⟨M, y7, y8, y9, y10, rfl, bt6, g6, hL6, hM, hlM, ltM⟩
      rw [List.length_map, hlen] at hlM g6
      refine ⟨_, rfl, pd, _, rfl, .inl ⟨SqL.of hL6, fun t1 nt1 => ?_⟩⟩
      have nt1g : t1 ≠ g := g6.ne nt1
      have hM1 : (upd H6 t1 (.tup (nv L))) pe = some (.lst (nv M)) := by rw [upd_ne (ne_of_none hM nt1)]; exact hM
      refine ⟨_, rfl, pe, _, rfl, .inl ⟨SqL.of hM1, fun t2 nt2 => ?_⟩⟩
      have g7 := g6.at (o := .tup (nv L)) nt1g
      have nt2g : t2 ≠ g := g7.ne nt2
      refine ⟨by show 2 ≤ sizeLine; decide, fun t3 nt3 => ?_⟩
      have g8 := g7.at (o := .tup (nv M)) nt2g
      have n3g : t3 ≠ g := g8.ne nt3
      have s1 := Same.upd (o := .tup (nv L)) nt1
      have s2 := Same.upd (o := .tup (nv M)) nt2
      have s3 := Same.upd (o := .tup [.ref t1, .ref t2]) nt3
      have btE := ((bt6.trans s1.but).trans s2.but).trans s3.but
      refine q _ t3 (L, M) btE ((g8.at n3g).mono (by omega)) ⟨t1, t2, SqT.of upd_same, SqT.of (s3 _ _ (s2 _ _ upd_same)), SqT.of (s3 _ _ upd_same)⟩ ⟨?_, ?_, ?_, hlM, ?_⟩ hl
      · show 1 ≤ L.length
        omega
      · show L.length ≤ 10
        omega
      · exact lt
      · intro y hy
        show y < L.length
        rw [hl]
        exact ltM y hy
end
end K5

namespace L2
open PySem PySem.Spec PyProof.Rows
/-- f(c = .., b = .., a = ..): all by name, in the reverse order -/
def rev3 {α : Type} : List α → List α → List α
  | [], [c, b, a] => [a, b, c]
  | _, _ => []
theorem rev3_vals {vs zs : List V} {us ws : List Value} (r : Vals vs us) (q : Vals zs ws) : Vals (rev3 vs zs) (rev3 us ws) := by
  cases r with
  | nil =>
    cases q with
    | nil => exact .nil
    | cons h1 q =>
      cases q with
      | nil => exact .nil
      | cons h2 q =>
        cases q with
        | nil => exact .nil
        | cons h3 q =>
          cases q with
          | nil => exact .cons h3 (.cons h2 (.cons h1 .nil))
          | cons h4 q => exact .nil
  | cons h r => exact .nil
def rev4 {α : Type} : List α → List α → List α
  | [], [d, c, b, a] => [a, b, c, d]
  | _, _ => []
theorem rev4_vals {vs zs : List V} {us ws : List Value} (r : Vals vs us) (q : Vals zs ws) : Vals (rev4 vs zs) (rev4 us ws) := by
  cases r with
  | nil =>
    cases q with
    | nil => exact .nil
    | cons h1 q =>
      cases q with
      | nil => exact .nil
      | cons h2 q =>
        cases q with
        | nil => exact .nil
        | cons h3 q =>
          cases q with
          | nil => exact .nil
          | cons h4 q =>
            cases q with
            | nil => exact .cons h4 (.cons h3 (.cons h2 (.cons h1 .nil)))
            | cons h5 q => exact .nil
  | cons h r => exact .nil
/-- as Cal, and how a call by names binds -/
def CalK (P : Program) (w : World) (K : PySem.W.Frag) (mg : Str → Option Value) (base : Heap) (x : Str) (ps : List Str) (k : Nat) (sp : Sp) (ks : List Str) (g : List Value → List Value → List Value) (gV : List V → List V → List V) : Prop :=
  ∃ (f : Addr) (fd : FuncData), mg x = some (.ref f) ∧ PySem.W.keepIn K (.ref f) = true ∧ Binds K fd ps [] ∧ FnOk P w K mg base CX0 k f fd ps sp ∧ KBinds K fd ps ks g gV
theorem CalK.cal {P w K mg base x ps k sp ks g gV} (C : CalK P w K mg base x ps k sp ks g gV) : Cal P w K mg base x ps k sp := by
  obtain ⟨f, fd, a, b, c, d, _⟩ := C
  exact ⟨f, fd, a, b, c, d⟩
theorem Def.okK {P : Program} {w : World} {K : PySem.W.Frag} {mg : Str → Option Value} {base : Heap} {x : Str} {st : Stmt} {N ps ks : List Str} {k : Nat} {sp : Sp} {g : List Value → List Value → List Value} {gV : List V → List V → List V} (D : Def K mg x st) (S : FnScope N ps (defScope st))
    (hkb : ∀ (kV doc pm : Value) (an : Option Addr) (cdv ct : Value) (us ws : List Value), (g us ws).length = ps.length → bindArgs (PySem.W.fnOf x x (defArgs st) (defBody st) (defScope st) .none kV doc pm an cdv ct) ⟨us, ks.zip ws⟩ = pure (ps.zip (g us ws)))
    (hrel : ∀ {vs : List V} {us : List Value} {zs : List V} {ws : List Value}, Vals vs us → Vals zs ws → Vals (gV vs zs) (g us ws))
    (hb : ∀ (kV doc pm : Value) (an : Option Addr) (cdv ct : Value) (us : List Value), us.length = ps.length → bindArgs (PySem.W.fnOf x x (defArgs st) (defBody st) (defScope st) .none kV doc pm an cdv ct) ⟨us, []⟩ = pure (ps.zip us))
    (ar : ∀ vs H Q E, sp vs H Q E → vs.length = ps.length)
    (hbody : ∀ (f : Addr) (cdv : Value) (A : Around) (outer : List Env) (s : Shared) (H : Hp) (vs : List V) (Q : VK) (E : XK), Room k (A.deeper (envOfC x (defScope st) s.heap.objs.size f cdv)) → sp vs H Q E →
      ∃ t, PSs (cxOf CX0 P w K mg base N x (defScope st) f cdv A outer s H E).nox (defBody st) t ∧ t { nx := fun _ H' => Q .non H', rt := Q } (start N vs) H) : CalK P w K mg base x ps (k + 1) sp ks g gV := by
  obtain ⟨f, fd, F, m⟩ := D
  refine ⟨f, fd, m, F.kp, F.binds hb, F.ok S ar fun cdv A outer s H vs Q E hr h => hbody f cdv A outer s H vs Q E hr h, ?_, hrel⟩
  obtain ⟨oc, od, kV, doc, pm, an, cdv,
        ct, osl, rfl, lk, hcd⟩ := F.ex
  intro s us ws _ hl
  exact BindsTo.of_eq (hkb kV doc pm an cdv ct us ws hl)
section
variable {X : Cx} {CX : CXT} {k : Nat} {f : Addr} {fd : FuncData} {ps ks : List Str} {sp : Sp} {E : XK} {x : Str} {p pos : Pos} {kws : List Keyword} {tk : TA} {g : List Value → List Value → List Value} {gV : List V → List V → List V}
/-- f(k = v, ..), nothing by position -/
theorem pe_callK0 (F : FnOk X.prog X.w X.K X.mg X.base CX k f fd ps sp) (hr : Room k X.A) (hg : Gl X x) (hm : X.mg x = some (.ref f)) (hk : PySem.W.keepIn X.K (.ref f) = true) (hb : KBinds X.K fd ps ks g gV) (hx : Passes CX X E)
    (hkw : PK X kws tk) (hall : (backToKw pos (keywordEach kws X.env)).all (·.1.isSome) = true := by rfl) (hks : (backToKw pos (keywordEach kws X.env)).filterMap (·.1) = ks := by rfl)
    (hdb : (x == ("__debug__" : Str)) = false := by decide)
    (hpl : ((backTo pos (starEach [] X.env)).any (·.1) || (backToKw pos
          (keywordEach kws X.env)).any (·.1.isNone)) = false := by rfl) :
    PE X (.Call (.Name x p) [] kws pos) (tCallK sp gV E tNil tk) := by
  refine ⟨fun pins s σ H Q I h => ?_⟩
  refine wpAny_Call_Name_kw
        (ld_glob I hg hm ?_ hdb)
  have h : tk σ H (fun zs H2 => sp (gV [] zs) H2 Q E) := h
  refine PySem.W.callWith_KW0 (h₀ := X.base) I.ok.mod.kin hk hall (thn (hkw.run pos pins s σ H _ I h) fun ws s2 ⟨zs, H2, I2, rz, q2⟩ => ⟨I2.kIn, ?_⟩) hpl
  rw [hks]
  exact run_fnk (us := []) (vs := []) F hr hb hx I2 .nil rz q2
end
end L2

namespace L2
open PySem PySem.Spec PyProof.Rows
def rev2 {α : Type} : List α → List α → List α
  | [], [b, a] => [a, b]
  | _, _ => []
theorem rev2_vals {vs zs : List V} {us ws : List Value} (r : Vals vs us) (q : Vals zs ws) : Vals (rev2 vs zs) (rev2 us ws) := by
  cases r with
  | nil =>
    cases q with
    | nil => exact .nil
    | cons h1 q =>
      cases q with
      | nil => exact .nil
      | cons h2 q =>
        cases q with
        | nil => exact .cons h2 (.cons h1 .nil)
        | cons h3 q => exact .nil
  | cons h r => exact .nil
end L2

namespace K5
open PySem PySem.Spec PyProof.Rows L2
theorem DicR.keys {β : Type} {VR : V → β → Prop} : ∀ {kvs : List (Key × V)} {ks : List (Nat × β)}, DicR VR kvs ks → kvs.map (·.1) = ((ks.map Prod.fst).map fun x : Nat => (x : Int)).map Sum.inl
  | _, _, .nil => rfl
  | _, _, .cons h r => by
    have e := DicR.keys r
    simp only [List.map_cons] at e ⊢
    rw [h.1, e]
theorem Reg.le {n ds shut room ks} (h : Reg n ds shut room ks) : ks.length ≤ n := by
  have := h.df.le
  rw [List.length_map] at this
  exact this
theorem Ptr.walk {ds : List (Nat × Nat)} {shut : List Nat} {room : Nat} {ks : List (Nat × Option (Nat × Nat))} (P : Ptr ds shut room ks) :
    ∀ (m x : Nat), x ∈ ks.map Prod.fst → (ks.map Prod.fst).idxOf x = m → ∃ p, Walk ds x p room ∧ ∀ d ∈ p, d ∉ shut := by
  intro m
  induction m using Nat.strongRecOn with
  | ind m ih =>
    intro x hx hm
    obtain ⟨⟨x', o⟩, hk, rfl⟩ := List.mem_map.mp hx
    cases o with
    | none =>
      rw [P.fin _ hk]
      exact ⟨[], .nil _, fun d h => (List.not_mem_nil h).elim⟩
    | some e =>
      obtain ⟨j, ns, hy, lt⟩ := P.st _ e.1 e.2 hk
      obtain ⟨p, w, hp⟩ := ih _ (by rw [← hm]; exact lt) e.2 hy rfl
      exact ⟨e.1 :: p, .cons j w, fun d hd => by
        rcases List.mem_cons.mp hd with rfl | hd
        · exact ns
        · exact hp d hd⟩
theorem Reg.mem {n ds shut room ks} (h : Reg n ds shut room ks) (x : Nat) : x ∈ ks.map Prod.fst ↔ ∃ p, Walk ds room p x ∧ ∀ d ∈ p, d ∉ shut := by
  constructor
  · intro hx
    obtain ⟨p, w, hp⟩ := h.pt.walk _ x hx rfl
    exact ⟨p.reverse, w.rev, fun d hd => hp d (List.mem_reverse.mp hd)⟩
  · rintro ⟨p, w, hp⟩
    exact h.df.walk w hp h.rm
theorem nodup_perm {l l' : List Nat} (a : l.Nodup) (b : l'.Nodup) (h : ∀ x, x ∈ l ↔ x ∈ l') : l.Perm l' := (List.perm_ext_iff_of_nodup a b).mpr h
theorem Reg.perm {n ds shut room ks ks'} (h : Reg n ds shut room ks) (h' : Reg n ds shut room ks') : (ks.map Prod.fst).Perm (ks'.map Prod.fst) :=
  nodup_perm h.df.nd h'.df.nd fun x => (h.mem x).trans (h'.mem x).symm
/-- each person's region, in some order -/
structure Regs (n : Nat) (ds : List (Nat × Nat)) (S : S2) (k : Nat) (Ls : List (List Nat)) : Prop where
  len : Ls.length = k
  at_ : ∀ (p : Nat) (L : List Nat), Ls[p]? = some L → ∃ ks, Reg n ds (barr S p) (S.1.getD p 0) ks ∧ L.Perm (ks.map Prod.fst)
theorem flat_perm : ∀ (Ls Ms : List (List Nat)), Ls.length = Ms.length → (∀ (p : Nat) (L M : List Nat), Ls[p]? = some L → Ms[p]? = some M → L.Perm M) → Ls.flatten.Perm Ms.flatten
  | [], [], _, _ => List.Perm.refl _
  | [], _ :: _, h, _ => by simp at h
  | _ :: _, [], h, _ => by simp at h
  | L :: Ls, M :: Ms, h, hp => by
    rw [List.flatten_cons, List.flatten_cons]
    exact (hp 0 L M rfl rfl).append (flat_perm Ls Ms (by simpa using h) fun p L' M' a b => hp (p + 1) L' M' a b)
theorem Regs.perm {n ds S k Ls Ms} (a : Regs n ds S k Ls) (b : Regs n ds S k Ms) : Ls.flatten.Perm Ms.flatten :=
  flat_perm Ls Ms (a.len.trans b.len.symm) fun p L M h1 h2 => by
    obtain ⟨ks, r1, p1⟩ := a.at_ p L h1
    obtain ⟨ks', r2, p2⟩ := b.at_ p M h2
    exact (p1.trans (r1.perm r2)).trans p2.symm
theorem Regs.snoc {n ds S k Ls L ks} (a : Regs n ds S k Ls) (r : Reg n ds (barr S k) (S.1.getD k 0) ks) (pm : L.Perm (ks.map Prod.fst)) : Regs n ds S (k + 1) (Ls ++ [L]) := by
  refine ⟨by rw [List.length_append, a.len]; rfl, fun p M h => ?_⟩
  by_cases c : p < Ls.length
  · rw [List.getElem?_append_left c] at h
    exact a.at_ p M h
  · have := get_lt h
    rw [List.length_append, List.length_singleton] at this
    have e : p = k := by have := a.len; omega
    subst e
    rw [List.getElem?_append_right (by rw [a.len]; exact Nat.le_refl _), a.len, Nat.sub_self] at h
    cases h
    exact ⟨ks, r, pm⟩
/-- no two people can meet -/
def spApart (K : PySem.W.Frag) : Sp := fun vs H Q _ => ∃ (a s : Addr) (n : Nat) (ds : List (Nat × Nat)) (S : S2), vs = [.ref a, .ref s] ∧ HouseAt K H a ds ∧ Tree n ds ∧ n ≤ 60 ∧ StateAt K H s S ∧ StOk n ds S ∧
  ∀ (H' : Hp) (Ls : List (List Nat)), Same H H' → Regs n ds S S.1.length Ls → Q (.bl (decide Ls.flatten.Nodup)) H'
section
variable {P : Program} {w : World} {K : PySem.W.Frag}
      {mg : Str → Option Value} {base : Heap}
theorem ok_is_apart (T : Bl mg) (D : Def K mg "is_apart" s_is_apart) (C_need_state : Cal P w K mg base "need_state" ["house", "state"] 7 (spSt K)) (C_region_ways : Cal P w K mg base "region_ways" ["house", "state", "person"] 3 (spRegWays K)) :
    CalK P w K mg base "is_apart" ["house", "state"] 8 (spApart K) ["state", "house"] rev2 rev2 := by
  refine D.okK sc_is_apart (fun _ _ _ _ _ _ us ws hl => match us, ws, hl with | [], [_, _], _ => rfl) rev2_vals (fun _ _ _ _ _ _ us hl => match us, hl with | [_, _], _ => rfl) (fun vs H Q E h => ?_) (fun f cdv A outer s H vs Q E hr h => ?_)
  · obtain ⟨a, s, n, ds, S, rfl, _⟩ := h
    rfl
  obtain ⟨a, s, n, ds, S, rfl, hH, tree, hn, st, ok, q⟩ := h
  obtain ⟨r, b, h1, h2, h3⟩ := id st
  have few := ok.few
  obtain ⟨f_need_state, fd_need_state, g_need_state, k_need_state, b_need_state, G_need_state⟩ := C_need_state
  obtain ⟨f_region_ways, fd_region_ways, g_region_ways, k_region_ways, b_region_ways, G_region_ways⟩ := C_region_ways
  refine ⟨_, (pss_cons (ps_expr (pe_call G_need_state (hr.mono (by decide)) (by rfl) g_need_state k_need_state b_need_state .nil pass0 (pa_cons (pv 0) (pa_cons (pv 1) pa_nil))))
    (pss_cons (ps_set (i := 2) sc_is_apart.nd rfl (.inl rfl) (pe_lst pa_nil))
    (pss_cons (ps_for PassesOwn.never rfl (pi_range1 rfl T.range (pa_cons (pe_callB call_len_seq (by rfl) T.len PySem.boot_len (pa_cons (pe_ix ix_tup (pv 1) pe_int (fun _ _ => rfl)) pa_nil)) pa_nil)) (pg_name (i := 3) sc_is_apart.nd rfl (.inl rfl))
    (pss_one (ps_expr (pe_bm PySem.F.plainAttrs_list PySem.F.slot_list_extend PySem.F.type_list_extend mt_extend (pv 2) (pa_cons (pe_callTy (call_listD rfl) (by rfl) T.list (by decide +kernel) (pa_cons (pe_call G_region_ways (hr.mono (by decide)) (by rfl) g_region_ways k_region_ways b_region_ways .nil pass0 (pa_cons (pv 0) (pa_cons (pv 1) (pa_cons (pv 3) pa_nil)))) pa_nil)) pa_nil)))))
    (pss_one (ps_ret (pe_cmpR op_eq (pe_lenSetA rfl (by rfl) T.len (by rfl) T.set (pv 2)) (pe_callB call_len_seq (by rfl) T.len PySem.boot_len (pa_cons (pv 2) pa_nil)) (nomark _))))))), ?_⟩
  refine ⟨_, rfl, _, rfl, a, s, ds, n, S, rfl, hH, tree, by omega, st, ok, fun H1 s1 => ?_⟩
  refine ⟨Nat.zero_le _, fun pd npd => ?_⟩
  have sp1 := s1.trans (Same.upd (o := .lst []) npd)
  have npd0 := s1.free npd
  refine ⟨_, rfl, s, _, _, _, rfl, rfl, sp1.tup h1, atI_nat (j := 0) rfl, _, _, rfl, .inr (sp1.tup h2), (S.1.length : Int), congrArg (fun z : Nat => [V.int (z : Int)]) (nv_len _), by omega, by omega, ?_⟩
  refine for_range (lo := 0) (n := S.1.length) (fun k σ H2 => ∃ Ls y3, σ = [some (.ref a), some (.ref s), some (.ref pd), y3] ∧ Same H H2 ∧ H2 pd = some (.lst (nv Ls.flatten)) ∧ Regs n ds S k Ls ∧ Ls.flatten.length ≤ n * k)
    ⟨[], _, rfl, sp1, upd_same, ⟨rfl, fun p L h => by simp at h⟩, Nat.zero_le _⟩ ?_ ?_
  · rintro k σ H2 hk ⟨Ls, y3, rfl, sm, hp, rg, le⟩
    rw [Int.zero_add]
    refine ⟨_, rfl, .inl ⟨rfl, _, SqL.of hp⟩, _, rfl, _, rfl, _, rfl, a, s, k, n, ds, S, rfl, hH.same sm, tree, by omega, st.same sm, ok, hk, fun H3 q3 kvs ks s3 nq3 hq3 r3 rg3 => ?_⟩
    refine ⟨q3, kvs, rfl, .inl hq3, fun p4 np4 => ?_⟩
    have s4 := s3.trans (Same.upd (o := .lst (kvs.map fun kv => kV kv.1)) np4)
    have ek : (kvs.map fun kv => kV kv.1) = nv (ks.map Prod.fst) := by
      have e := r3.keys
      have e2 : (kvs.map fun kv => kV kv.1) = (kvs.map (·.1)).map kV := by rw [List.map_map]; rfl
      rw [e2, e, List.map_map, List.map_map, nv]
      rfl
    rw [ek] at s4 ⊢
    have l3 := rg3.le
    have nk : n * k ≤ 60 * 10 := Nat.mul_le_mul hn (by omega)
    refine ⟨pd, p4, _, _, rfl, rfl, s4 _ _ hp, upd_same, ?_, ?_⟩
    · rw [nv_len, nv_len, List.length_map]
      exact Nat.le_of_lt (small1000 (by omega))
    · refine ⟨Ls ++ [ks.map Prod.fst], _, rfl, (sm.trans s4).at npd0, ?_, rg.snoc rg3 (List.Perm.refl _), ?_⟩
      · rw [upd_same, List.flatten_append, List.flatten_cons, List.flatten_nil, List.append_nil]
        unfold nv
        rw [List.map_append]
      · rw [List.flatten_append, List.length_append, List.flatten_cons, List.flatten_nil, List.append_nil, List.length_map, Nat.mul_succ]
        omega
  · rintro σ H2 ⟨Ls, y3, rfl, sm, hp, rg, le⟩
    have nk : n * S.1.length ≤ 60 * 10 := Nat.mul_le_mul hn few
    refine ⟨_, rfl, pd, Ls.flatten.map (fun x : Nat => (x : Int)), rfl, by rw [← nv_int]; exact SqL.of hp, ?_, fun m hm1 hm2 => ?_⟩
    · rw [List.length_map]
      exact Nat.lt_of_le_of_lt (by omega : Ls.flatten.length + 1 ≤ 1000) (by decide)
    · refine ⟨_, rfl, _, _, rfl, .inl (SqL.of hp), rfl, ?_⟩
      have nodup_iff : (Ls.flatten.map fun x : Nat => (x : Int)).Nodup ↔ Ls.flatten.Nodup := by
        unfold List.Nodup
        rw [List.pairwise_map]
        exact ⟨fun h => h.imp fun z e => z (by rw [e]), fun h => h.imp fun z e => z (by omega)⟩
      have e : decide (V.int (m : Int) = V.int (((nv Ls.flatten).length : Nat) : Int)) = decide Ls.flatten.Nodup := by
        rw [nv_len]
        by_cases c : Ls.flatten.Nodup
        · have := hm1 (nodup_iff.mpr c)
          rw [List.length_map] at this
          rw [decide_eq_true c, decide_eq_true (by rw [this])]
        · have := hm2 fun z => c (nodup_iff.mp z)
          rw [List.length_map] at this
          rw [decide_eq_false c, decide_eq_false fun z => by have := V.int.inj z; omega]
      show Q (.bl (decide (V.int (m : Int) = V.int (((nv Ls.flatten).length : Nat) : Int)))) H2
      rw [e]
      exact q H2 Ls sm rg
end
end K5

namespace K5
open PySem PySem.Spec PyProof.Rows L2
/-! what can come about: people placed in their regions, people gathered, apart people -/
inductive Rc (ds : List (Nat × Nat)) (S : S2) : S2 → Prop
  | refl : Rc ds S S
  | step {A : S2} {m : Mv} : Rc ds S A → Can ds A m → Rc ds S (nxt ds A m)
theorem Rc.trans {ds : List (Nat × Nat)} {S A B : S2} (h : Rc ds S A) (k : Rc ds A B) : Rc ds S B := by
  induction k with
  | refl => exact h
  | step _ c ih => exact .step ih c
theorem Rc.ok {n : Nat} {ds : List (Nat × Nat)} {S A : S2} (T : Tree n ds) (h : Rc ds S A) (o : StOk n ds S) : StOk n ds A := by
  induction h with
  | refl => exact o
  | step _ c ih => exact ih.nxt T c.vm
theorem Rc.len {ds : List (Nat × Nat)} {S A : S2} (h : Rc ds S A) : A.1.length = S.1.length := by
  induction h with
  | refl => rfl
  | step _ c ih => rw [nxt_len, ih]
/-- a move through a known door -/
theorem go {n : Nat} {ds : List (Nat × Nat)} {S : S2} {p u v d : Nat} (T : Tree n ds) (o : StOk n ds S) (hp : S.1[p]? = some u) (j : Joins ds d u v) (nb : S.2[d]? ≠ some p) :
    Rc ds S (S.1.set p v, S.2.set d p) ∧ (S.2.set d p)[d]? = some p ∧ ∀ e, e ≠ d → (S.2.set d p)[e]? = S.2[e]? := by
  have c : Can ds S (p, u, v) := ⟨get_lt hp, hp, d, j, nb⟩
  have e : nxt ds S (p, u, v) = (S.1.set p v, S.2.set d p) := by
    show (S.1.set p v, S.2.set (dix ds u v) p) = _
    rw [dix_is T j]
  refine ⟨e ▸ Rc.step .refl c, List.getElem?_set_self (by rw [o.doors]; exact joins_lt j), fun e ne => List.getElem?_set_ne (Ne.symm ne)⟩
theorem short {ds : List (Nat × Nat)} {a b : Nat} {w : List Nat} (h : Walk ds a w b) : ∃ w', Walk ds a w' b ∧ w'.Nodup ∧ ∀ e ∈ w', e ∈ w := by
  induction h with
  | nil a => exact ⟨[], .nil _, List.nodup_nil, fun _ h => h⟩
  | @cons a c b d p j w ih =>
    obtain ⟨w', h1, h2, h3⟩ := ih
    by_cases hd : d ∈ w'
    · obtain ⟨p1, p2, x, y, rfl, w1, j1, w2⟩ := h1.split hd
      obtain ⟨n1, n2, n3⟩ := List.nodup_append.mp h2
      obtain ⟨n4, n5⟩ := List.nodup_cons.mp n2
      have sub : ∀ e ∈ p2, e ∈ d :: p := fun e he => List.mem_cons_of_mem _ (h3 e (List.mem_append_right _ (List.mem_cons_of_mem _ he)))
      have ya : y = a ∨ y = c := by
        rcases j with q | q <;> rcases j1 with r | r <;> rw [q] at r <;> cases r
        · exact .inr rfl
        · exact .inl rfl
        · exact .inl rfl
        · exact .inr rfl
      rcases ya with rfl | rfl
      · exact ⟨p2, w2, n5, sub⟩
      · exact ⟨d :: p2, .cons j w2, List.nodup_cons.mpr ⟨n4, n5⟩, fun e he => by
          rcases List.mem_cons.mp he with rfl | he
          · exact List.mem_cons_self
          · exact sub e he⟩
    · exact ⟨d :: w', .cons j h1, List.nodup_cons.mpr ⟨hd, h2⟩, fun e he => by
        rcases List.mem_cons.mp he with rfl | he
        · exact List.mem_cons_self
        · exact List.mem_cons_of_mem _ (h3 e he)⟩
theorem walk_of {n : Nat} {ds : List (Nat × Nat)} (T : Tree n ds) {a b : Nat} (ha : a < n) (hb : b < n) : ∃ w, Walk ds a w b :=
  T.conn (fun z => ∃ w, Walk ds a w z) (fun e he => by
    obtain ⟨k, hk⟩ := List.mem_iff_getElem?.mp he
    exact ⟨fun ⟨w, h⟩ => ⟨w ++ [k], h.snoc (.inl hk)⟩, fun ⟨w, h⟩ => ⟨w ++ [k], h.snoc (.inr hk)⟩⟩) a b ha hb ⟨[], .nil _⟩
theorem run_walk {n : Nat} {ds : List (Nat × Nat)} (T : Tree n ds) {p u v : Nat} {w : List Nat} (h : Walk ds u w v) : ∀ S : S2, StOk n ds S → w.Nodup → S.1[p]? = some u → (∀ e ∈ w, S.2[e]? ≠ some p) →
    ∃ A, Rc ds S A ∧ A.1 = S.1.set p v ∧ (∀ e, e ∉ w → A.2[e]? = S.2[e]?) ∧ ∀ e ∈ w, A.2[e]? = some p := by
  induction h with
  | nil a =>
    intro S o _ hp _
    refine ⟨S, .refl, ?_, fun _ _ => rfl, fun _ h => nomatch h⟩
    apply List.ext_getElem?
    intro i
    by_cases c : p = i
    · subst c
      rw [List.getElem?_set_self (get_lt hp), hp]
    · rw [List.getElem?_set_ne c]
  | @cons a c b d q j w ih =>
    intro S o nd hp nb
    obtain ⟨n1, n2⟩ := List.nodup_cons.mp nd
    obtain ⟨r1, b1, b2⟩ := go T o hp j (nb d List.mem_cons_self)
    obtain ⟨A, r2, e1, e2, e3⟩ := ih (S.1.set p c, S.2.set d p) (r1.ok T o) n2 (List.getElem?_set_self (get_lt hp)) fun e he => by
      rw [b2 e (fun z => n1 (z ▸ he))]
      exact nb e (List.mem_cons_of_mem _ he)
    refine ⟨A, r1.trans r2, ?_, fun e he => ?_, fun e he => ?_⟩
    · rw [e1]
      show (S.1.set p c).set p b = _
      rw [List.set_set]
    · rw [e2 e (fun z => he (List.mem_cons_of_mem _ z))]
      exact b2 e (fun z => he (z ▸ List.mem_cons_self))
    · rcases List.mem_cons.mp he with rfl | he
      · by_cases c : e ∈ q
        · exact e3 e c
        · rw [e2 e c]
          exact b1
      · exact e3 e he
/-- the rooms that p can reach alone -/
def Rg (ds : List (Nat × Nat)) (S : S2) (p x : Nat) : Prop := ∃ u w, S.1[p]? = some u ∧ Walk ds u w x ∧ ∀ e ∈ w, S.2[e]? ≠ some p
theorem Rg.here {ds : List (Nat × Nat)} {S : S2} {p u : Nat} (h : S.1[p]? = some u) : Rg ds S p u := ⟨u, [], h, .nil _, fun _ h => nomatch h⟩
theorem Rg.on {ds : List (Nat × Nat)} {S : S2} {p x y d : Nat} (h : Rg ds S p x) (j : Joins ds d x y) (nb : S.2[d]? ≠ some p) : Rg ds S p y := by
  obtain ⟨u, w, h1, h2, h3⟩ := h
  exact ⟨u, w ++ [d], h1, h2.snoc j, fun e he => by
    rcases List.mem_append.mp he with he | he
    · exact h3 e he
    · rw [List.mem_singleton.mp he]
      exact nb⟩
/-- every person in some room of its region -/
theorem place {n : Nat} {ds : List (Nat × Nat)} {S : S2} (T : Tree n ds) (o : StOk n ds S) {rooms : List Nat} (hl : rooms.length = S.1.length) (h : ∀ p x, rooms[p]? = some x → Rg ds S p x) : ∃ A, Rc ds S A ∧ A.1 = rooms := by
  have key : ∀ k, k ≤ S.1.length → ∃ A, Rc ds S A ∧ (∀ p : Nat, A.1[p]? = if p < k then rooms[p]? else S.1[p]?) ∧ ∀ (p e : Nat), k ≤ p → A.2[e]? = some p → S.2[e]? = some p := by
    intro k
    induction k with
    | zero => exact fun _ => ⟨S, .refl, fun p => by rw [if_neg (Nat.not_lt_zero p)], fun _ _ _ h => h⟩
    | succ k ih =>
      intro hk
      obtain ⟨A, r, a1, a2⟩ := ih (by omega)
      obtain ⟨x, hx⟩ : ∃ x, rooms[k]? = some x := get_of rfl (by omega)
      obtain ⟨u, w0, h1, h2, h3⟩ := h k x hx
      obtain ⟨w, w1, w2, w3⟩ := short h2
      obtain ⟨B, r2, b1, b2, b3⟩ := run_walk T w1 (p := k) A (r.ok T o) w2 (by rw [a1, if_neg (Nat.lt_irrefl k)]; exact h1) fun e he z => h3 e (w3 e he) (a2 k e (Nat.le_refl _) z)
      refine ⟨B, r.trans r2, fun p => ?_, fun p e hp z => ?_⟩
      · rw [b1]
        by_cases c : k = p
        · subst c
          rw [List.getElem?_set_self (by rw [r.len]; omega), if_pos (Nat.lt_succ_self _), hx]
        · rw [List.getElem?_set_ne c, a1]
          by_cases c2 : p < k
          · rw [if_pos c2, if_pos (by omega)]
          · rw [if_neg c2, if_neg (by omega)]
      · by_cases he : e ∈ w
        · rw [b3 e he] at z
          have := Option.some.inj z
          omega
        · rw [b2 e he] at z
          exact a2 p e (by omega) z
  obtain ⟨A, r, a1, _⟩ := key S.1.length (Nat.le_refl _)
  refine ⟨A, r, List.ext_getElem? fun p => ?_⟩
  rw [a1]
  by_cases c : p < S.1.length
  · rw [if_pos c]
  · rw [if_neg c, List.getElem?_eq_none (by omega), List.getElem?_eq_none (by omega)]
/-- a group goes through a door, one by one -/
theorem through {n : Nat} {ds : List (Nat × Nat)} (T : Tree n ds) {d u v : Nat} (j : Joins ds d u v) : ∀ (L : List Nat) (S : S2), StOk n ds S → L.Nodup → (∀ y ∈ L, S.1[y]? = some u) → (∀ y, L.head? = some y → S.2[d]? ≠ some y) →
    ∃ A, Rc ds S A ∧ (∀ y ∈ L, A.1[y]? = some v) ∧ ∀ y, y ∉ L → A.1[y]? = S.1[y]?
  | [], S, _, _, _, _ => ⟨S, .refl, fun _ h => (nomatch h), fun _ _ => rfl⟩
  | y :: L, S, o, nd, hu, hd => by
    obtain ⟨n1, n2⟩ := List.nodup_cons.mp nd
    have hy := hu y List.mem_cons_self
    obtain ⟨r1, b1, b2⟩ := go T o hy j (hd y rfl)
    obtain ⟨A, r2, a1, a2⟩ := through T j L (S.1.set y v, S.2.set d y) (r1.ok T o) n2 (fun z hz => by
      show (S.1.set y v)[z]? = _
      rw [List.getElem?_set_ne (fun e : y = z => n1 (by rw [e]; exact hz))]
      exact hu z (List.mem_cons_of_mem _ hz)) (fun z hz q => by
      have q : (S.2.set d y)[d]? = some z := q
      rw [b1] at q
      have e := Option.some.inj q
      subst e
      cases L with
      | nil => cases hz
      | cons a r =>
        cases hz
        exact n1 List.mem_cons_self)
    refine ⟨A, r1.trans r2, fun z hz => ?_, fun z hz => ?_⟩
    · rcases List.mem_cons.mp hz with rfl | hz
      · rw [a2 z n1]
        exact List.getElem?_set_self (get_lt hy)
      · exact a1 z hz
    · rw [a2 z (fun q => hz (List.mem_cons_of_mem _ q))]
      exact List.getElem?_set_ne (fun e : y = z => hz (by rw [← e]; exact List.mem_cons_self))
theorem pass {n : Nat} {ds : List (Nat × Nat)} (T : Tree n ds) {d u v : Nat} (j : Joins ds d u v) {L : List Nat} {S : S2} (o : StOk n ds S) (nd : L.Nodup) (two : 2 ≤ L.length) (hu : ∀ y ∈ L, S.1[y]? = some u) :
    ∃ A, Rc ds S A ∧ (∀ y ∈ L, A.1[y]? = some v) ∧ ∀ y, y ∉ L → A.1[y]? = S.1[y]? := by
  match L, two with
  | a :: b :: r, _ =>
    by_cases c : S.2[d]? = some a
    · obtain ⟨n1, n2⟩ := List.nodup_cons.mp nd
      obtain ⟨n3, n4⟩ := List.nodup_cons.mp n2
      have ab : a ≠ b := fun z => n1 (z ▸ List.mem_cons_self)
      have sw : ∀ y, y ∈ b :: a :: r ↔ y ∈ a :: b :: r := fun y => by
        simp only [List.mem_cons]
        exact ⟨fun h => by rcases h with h | h | h <;> simp [h], fun h => by rcases h with h | h | h <;> simp [h]⟩
      obtain ⟨A, r1, a1, a2⟩ := through T j (b :: a :: r) S o (List.nodup_cons.mpr ⟨fun z => by
        rcases List.mem_cons.mp z with z | z
        · exact ab z.symm
        · exact n3 z, List.nodup_cons.mpr ⟨fun z => n1 (List.mem_cons_of_mem _ z), n4⟩⟩) (fun y hy => hu y ((sw y).mp hy)) (fun y hy => by
        cases hy
        rw [c]
        exact fun z => ab (Option.some.inj z))
      exact ⟨A, r1, fun y hy => a1 y ((sw y).mpr hy), fun y hy => a2 y fun z => hy ((sw y).mp z)⟩
    · exact through T j (a :: b :: r) S o nd hu fun y hy => by
        cases hy
        exact c
theorem travel {n : Nat} {ds : List (Nat × Nat)} (T : Tree n ds) {L : List Nat} (nd : L.Nodup) (two : 2 ≤ L.length) {u v : Nat} {w : List Nat} (h : Walk ds u w v) : ∀ S : S2, StOk n ds S → (∀ y ∈ L, S.1[y]? = some u) →
    ∃ A, Rc ds S A ∧ (∀ y ∈ L, A.1[y]? = some v) ∧ ∀ y, y ∉ L → A.1[y]? = S.1[y]? := by
  induction h with
  | nil a => exact fun S _ h => ⟨S, .refl, h, fun _ _ => rfl⟩
  | cons j w ih =>
    intro S o hu
    obtain ⟨A, r1, a1, a2⟩ := pass T j o nd two hu
    obtain ⟨B, r2, b1, b2⟩ := ih A (r1.ok T o) a1
    exact ⟨B, r1.trans r2, b1, fun y hy => (b2 y hy).trans (a2 y hy)⟩
theorem collect {n : Nat} {ds : List (Nat × Nat)} (T : Tree n ds) : ∀ (k : Nat) (L : List Nat) (S : S2) (u : Nat), k + L.length = S.1.length → StOk n ds S → L.Nodup → 2 ≤ L.length → (∀ y ∈ L, S.1[y]? = some u) →
    ∃ A v, Rc ds S A ∧ ∀ y, y < S.1.length → A.1[y]? = some v := by
  intro k
  induction k with
  | zero =>
    intro L S u hk o nd two hu
    refine ⟨S, u, .refl, fun y hy => hu y ?_⟩
    refine Classical.byContradiction fun z => ?_
    have := nodup_le S.1.length (y :: L) (List.nodup_cons.mpr ⟨z, nd⟩) fun x hx => by
      rcases List.mem_cons.mp hx with rfl | hx
      · exact hy
      · exact get_lt (hu x hx)
    rw [List.length_cons] at this
    omega
  | succ k ih =>
    intro L S u hk o nd two hu
    obtain ⟨r, hr, nr⟩ : ∃ r, r < S.1.length ∧ r ∉ L := by
      refine Classical.byContradiction fun z => ?_
      have all : ∀ r, r < S.1.length → r ∈ L := fun r hr => Classical.byContradiction fun q => z ⟨r, hr, q⟩
      have : (List.range S.1.length).length ≤ L.length := by
        have sub : ∀ (A B : List Nat), A.Nodup → (∀ x ∈ A, x ∈ B) → A.length ≤ B.length := by
          intro A
          induction A with
          | nil => exact fun _ _ _ => Nat.zero_le _
          | cons a s ih2 =>
            intro B nd2 h
            obtain ⟨m1, m2⟩ := List.nodup_cons.mp nd2
            have ha := h a List.mem_cons_self
            have := ih2 (B.erase a) m2 fun x hx => (List.mem_erase_of_ne (fun e : x = a => m1 (by rw [← e]; exact hx))).mpr (h x (List.mem_cons_of_mem _ hx))
            rw [List.length_erase_of_mem ha] at this
            have := List.length_pos_of_mem ha
            rw [List.length_cons]
            omega
        exact sub _ _ List.nodup_range fun x hx => all x (List.mem_range.mp hx)
      rw [List.length_range] at this
      omega
    obtain ⟨x, hx⟩ : ∃ x, S.1[r]? = some x := get_of rfl hr
    obtain ⟨a, ha⟩ : ∃ a, a ∈ L := by
      cases L with
      | nil => simp at two
      | cons a s => exact ⟨a, List.mem_cons_self⟩
    have un := o.rooms u (List.mem_of_getElem? (hu a ha))
    have xn := o.rooms x (List.mem_of_getElem? hx)
    obtain ⟨w, hw⟩ := walk_of T un xn
    obtain ⟨A, r1, a1, a2⟩ := travel T nd two hw S o hu
    obtain ⟨B, v, r2, b⟩ := ih (r :: L) A x (by rw [List.length_cons, r1.len]; omega) (r1.ok T o) (List.nodup_cons.mpr ⟨nr, nd⟩) (by rw [List.length_cons]; omega) fun y hy => by
      rcases List.mem_cons.mp hy with rfl | hy
      · rw [a2 y nr]
        exact hx
      · exact a1 y hy
    exact ⟨B, v, r1.trans r2, fun y hy => b y (by rw [r1.len]; exact hy)⟩
/-- two who can meet: all can be in any room -/
theorem gather {n : Nat} {ds : List (Nat × Nat)} {S : S2} (T : Tree n ds) (o : StOk n ds S) {p q z t : Nat} (pq : p ≠ q) (hp : Rg ds S p z) (hq : Rg ds S q z) (ht : t < n) : ∃ A, Rc ds S A ∧ A.1 = List.replicate S.1.length t := by
  have lp : p < S.1.length := by obtain ⟨u, w, h, _⟩ := hp; exact get_lt h
  have lq : q < S.1.length := by obtain ⟨u, w, h, _⟩ := hq; exact get_lt h
  obtain ⟨A, r1, a1⟩ := place T o (rooms := (S.1.set p z).set q z) (by rw [List.length_set, List.length_set]) fun y x hx => by
    by_cases c : q = y
    · subst c
      rw [List.getElem?_set_self (by rw [List.length_set]; exact lq)] at hx
      cases hx
      exact hq
    · rw [List.getElem?_set_ne c] at hx
      by_cases c2 : p = y
      · subst c2
        rw [List.getElem?_set_self lp] at hx
        cases hx
        exact hp
      · rw [List.getElem?_set_ne c2] at hx
        exact .here hx
  have o1 := r1.ok T o
  have two : 2 ≤ S.1.length := by omega
  have hA : ∀ y ∈ [p, q], A.1[y]? = some z := fun y hy => by
    rw [a1]
    rcases List.mem_cons.mp hy with rfl | hy
    · rw [List.getElem?_set_ne (Ne.symm pq), List.getElem?_set_self lp]
    · rw [List.mem_singleton.mp hy, List.getElem?_set_self (by rw [List.length_set]; exact lq)]
  obtain ⟨B, v, r2, b⟩ := collect T (A.1.length - 2) [p, q] A z (by rw [r1.len]; show S.1.length - 2 + 2 = _; omega) o1 (by simp [pq]) (Nat.le_refl _) hA
  have o2 := r2.ok T o1
  have lB := r2.len.trans r1.len
  have bA : ∀ y ∈ List.range S.1.length, B.1[y]? = some v := fun y hy => b y (by rw [r1.len]; exact List.mem_range.mp hy)
  have vn := o2.rooms v (List.mem_of_getElem? (bA p (List.mem_range.mpr lp)))
  obtain ⟨w, hw⟩ := walk_of T vn ht
  obtain ⟨C, r3, c1, _⟩ := travel T List.nodup_range (by rw [List.length_range]; exact two) hw B o2 bA
  refine ⟨C, (r1.trans r2).trans r3, List.ext_getElem? fun y => ?_⟩
  by_cases c : y < S.1.length
  · rw [c1 y (List.mem_range.mpr c), List.getElem?_replicate, if_pos c]
  · rw [List.getElem?_eq_none (by rw [r3.len, lB]; omega), List.getElem?_eq_none (by rw [List.length_replicate]; omega)]
end K5

namespace K5
open PySem PySem.Spec PyProof.Rows L2
/-- no room belongs to two -/
def Apt (ds : List (Nat × Nat)) (S : S2) : Prop := ∀ p q x, Rg ds S p x → Rg ds S q x → p = q
theorem Can.is {n : Nat} {ds : List (Nat × Nat)} {S : S2} {m : Mv} (T : Tree n ds) (o : StOk n ds S) (c : Can ds S m) : ∃ d, Joins ds d m.2.1 m.2.2 ∧ S.1[m.1]? = some m.2.1 ∧ S.2[d]? ≠ some m.1 ∧ (nxt ds S m).1 = S.1.set m.1 m.2.2 ∧
    (nxt ds S m).2[d]? = some m.1 ∧ ∀ e, e ≠ d → (nxt ds S m).2[e]? = S.2[e]? := by
  obtain ⟨h1, h2, d, j, h3⟩ := c
  have ed := dix_is T j
  refine ⟨d, j, h2, h3, rfl, ?_, fun e ne => ?_⟩
  · show (S.2.set (dix ds m.2.1 m.2.2) m.1)[d]? = _
    rw [ed]
    exact List.getElem?_set_self (by rw [o.doors]; exact joins_lt j)
  · show (S.2.set (dix ds m.2.1 m.2.2) m.1)[e]? = _
    rw [ed]
    exact List.getElem?_set_ne (Ne.symm ne)
theorem ends_of {ds : List (Nat × Nat)} {d u v x y : Nat} (j : Joins ds d u v) (k : Joins ds d x y) : u = x ∨ u = y := by
  rcases j with q | q <;> rcases k with r | r <;> rw [q] at r <;> cases r
  · exact .inl rfl
  · exact .inr rfl
  · exact .inr rfl
  · exact .inl rfl
/-- who uses the door within its region reaches both its ends -/
theorem Rg.ends {ds : List (Nat × Nat)} {S : S2} {q a x d u v : Nat} {w : List Nat} (h1 : S.1[q]? = some a) (h2 : Walk ds a w x) (h3 : ∀ e ∈ w, S.2[e]? ≠ some q) (hd : d ∈ w) (j : Joins ds d u v) : Rg ds S q u := by
  obtain ⟨p1, p2, x', y', rfl, w1, j1, w2⟩ := h2.split hd
  have r1 : Rg ds S q x' := ⟨a, p1, h1, w1, fun e he => h3 e (List.mem_append_left _ he)⟩
  rcases ends_of j j1 with e | e
  · rw [e]; exact r1
  · rw [e]; exact r1.on j1 (h3 d hd)
theorem Apt.step {n : Nat} {ds : List (Nat × Nat)} {S : S2} {m : Mv} (T : Tree n ds) (o : StOk n ds S) (a : Apt ds S) (c : Can ds S m) {q x : Nat} (h : Rg ds (nxt ds S m) q x) : Rg ds S q x := by
  obtain ⟨d, j, hp, nb, e1, b1, b2⟩ := c.is T o
  have pu : Rg ds S m.1 m.2.1 := .here hp
  obtain ⟨u, w0, h1, h2, h3⟩ := h
  obtain ⟨w, w1, w2, w3⟩ := short h2
  have h3 : ∀ e ∈ w, (nxt ds S m).2[e]? ≠ some q := fun e he => h3 e (w3 e he)
  rw [e1] at h1
  by_cases cq : m.1 = q
  · subst cq
    rw [List.getElem?_set_self (get_lt hp)] at h1
    cases h1
    refine ⟨m.2.1, d :: w, hp, .cons j w1, fun e he => ?_⟩
    rcases List.mem_cons.mp he with rfl | he
    · exact nb
    · have ne : e ≠ d := fun z => h3 e he (z ▸ b1)
      rw [← b2 e ne]
      exact h3 e he
  · rw [List.getElem?_set_ne cq] at h1
    by_cases cd : d ∈ w
    · obtain ⟨p1, p2, x', y', rfl, v1, j1, v2⟩ := w1.split cd
      have nd1 : d ∉ p1 := fun z => (List.nodup_append.mp w2).2.2 d z d List.mem_cons_self rfl
      have r1 : Rg ds S q x' := ⟨u, p1, h1, v1, fun e he => by
        have ne : e ≠ d := fun z => nd1 (z ▸ he)
        rw [← b2 e ne]
        exact h3 e (List.mem_append_left _ he)⟩
      have : Rg ds S m.1 x' := by
        rcases ends_of j1 j with e | e
        · rw [e]; exact pu
        · rw [e]; exact pu.on j nb
      exact absurd (a _ _ _ this r1) cq
    · exact ⟨u, w, h1, w1, fun e he => by
        have ne : e ≠ d := fun z => cd (z ▸ he)
        rw [← b2 e ne]
        exact h3 e he⟩
theorem Apt.next {n : Nat} {ds : List (Nat × Nat)} {S : S2} {m : Mv} (T : Tree n ds) (o : StOk n ds S) (a : Apt ds S) (c : Can ds S m) : Apt ds (nxt ds S m) := fun p q x h1 h2 => a p q x (a.step T o c h1) (a.step T o c h2)
/-- apart: where the people are tells whom the doors bar -/
structure Told (ds : List (Nat × Nat)) (S A : S2) : Prop where
  len : A.1.length = S.1.length
  ways : ∀ p v : Nat, A.1[p]? = some v → ∃ u w, S.1[p]? = some u ∧ Walk ds u w v ∧ w.Nodup ∧ (∀ e ∈ w, S.2[e]? ≠ some p) ∧ ∀ e ∈ w, A.2[e]? = some p
  rest : ∀ e : Nat, (∀ (p u v : Nat) (w : List Nat), S.1[p]? = some u → A.1[p]? = some v → Walk ds u w v → w.Nodup → e ∉ w) → A.2[e]? = S.2[e]?
theorem told {n : Nat} {ds : List (Nat × Nat)} {S A : S2} (T : Tree n ds) (o : StOk n ds S) (a : Apt ds S) (h : Rc ds S A) : Told ds S A := by
  induction h with
  | refl => exact ⟨rfl, fun p v h => ⟨v, [], h, .nil _, List.nodup_nil, (fun _ h => nomatch h), (fun _ h => nomatch h)⟩, fun _ _ => rfl⟩
  | @step A m r c ih =>
    have oA := r.ok T o
    obtain ⟨d, j, hp, nb, e1, b1, b2⟩ := c.is T oA
    obtain ⟨u0, w, hu, hw, nw, out, bars⟩ := ih.ways _ _ hp
    have dw : d ∉ w := fun z => nb (bars d z)
    have here : Rg ds S m.1 m.2.1 := ⟨u0, w, hu, hw, out⟩
    -- nobody else came through d
    have else_ : ∀ (q u v : Nat) (w' : List Nat), q ≠ m.1 → S.1[q]? = some u → A.1[q]? = some v → Walk ds u w' v → w'.Nodup → d ∉ w' := fun q u v w' ne h1 h2 h3 h4 z => by
      obtain ⟨u2, w2, g1, g2, g3, g4, g5⟩ := ih.ways q v h2
      rw [h1] at g1
      cases g1
      have := way_unique T h3 g2 h4 g3
      subst this
      have r2 : Rg ds S q m.2.1 := Rg.ends h1 h3 g4 z j
      exact ne (a _ _ _ r2 here)
    have sd : S.2[d]? ≠ some m.1 := by
      have : A.2[d]? = S.2[d]? := ih.rest d fun p u v w' h1 h2 h3 h4 => by
        by_cases cp : p = m.1
        · subst cp
          rw [hu] at h1
          cases h1
          rw [hp] at h2
          cases h2
          rw [way_unique T h3 hw h4 nw]
          exact dw
        · exact else_ p u v w' cp h1 h2 h3 h4
      rw [← this]
      exact nb
    have nwd : (w ++ [d]).Nodup := List.nodup_append.mpr ⟨nw, by simp, fun x hx y hy z => dw (by rw [List.mem_singleton] at hy; rw [← hy, ← z]; exact hx)⟩
    refine ⟨by rw [e1, List.length_set]; exact ih.len, fun p v hv => ?_, fun e he => ?_⟩
    · rw [e1] at hv
      by_cases cp : m.1 = p
      · subst cp
        rw [List.getElem?_set_self (get_lt hp)] at hv
        cases hv
        refine ⟨u0, w ++ [d], hu, hw.snoc j, nwd, fun e he => ?_, fun e he => ?_⟩
        · rcases List.mem_append.mp he with he | he
          · exact out e he
          · rw [List.mem_singleton.mp he]
            exact sd
        · rcases List.mem_append.mp he with he | he
          · rw [b2 e (fun z => dw (z ▸ he))]
            exact bars e he
          · rw [List.mem_singleton.mp he]
            exact b1
      · rw [List.getElem?_set_ne cp] at hv
        obtain ⟨u2, w2, g1, g2, g3, g4, g5⟩ := ih.ways p v hv
        refine ⟨u2, w2, g1, g2, g3, g4, fun e he => ?_⟩
        rw [b2 e (fun z => else_ p u2 v w2 (Ne.symm cp) g1 hv g2 g3 (z ▸ he))]
        exact g5 e he
    · have ed : e ≠ d := fun z => he m.1 u0 m.2.2 (w ++ [d]) hu (by rw [e1]; exact List.getElem?_set_self (get_lt hp)) (hw.snoc j) nwd (z ▸ List.mem_append_right _ List.mem_cons_self)
      rw [b2 e ed]
      refine ih.rest e fun p u v w' h1 h2 h3 h4 z => ?_
      by_cases cp : m.1 = p
      · subst cp
        rw [hu] at h1
        cases h1
        rw [hp] at h2
        cases h2
        have := way_unique T h3 hw h4 nw
        subst this
        exact he m.1 u0 m.2.2 (w' ++ [d]) hu (by rw [e1]; exact List.getElem?_set_self (get_lt hp)) (hw.snoc j) nwd (List.mem_append_left _ z)
      · exact he p u v w' h1 (by rw [e1, List.getElem?_set_ne cp]; exact h2) h3 h4 z
theorem apt_inj {n : Nat} {ds : List (Nat × Nat)} {S A B : S2} (T : Tree n ds) (o : StOk n ds S) (a : Apt ds S) (hA : Rc ds S A) (hB : Rc ds S B) (h : A.1 = B.1) : A = B := by
  have tA := told T o a hA
  have tB := told T o a hB
  refine Prod.ext h (List.ext_getElem? fun e => ?_)
  by_cases c : ∃ (p u v : Nat) (w : List Nat), S.1[p]? = some u ∧ A.1[p]? = some v ∧ Walk ds u w v ∧ w.Nodup ∧ e ∈ w
  · obtain ⟨p, u, v, w, h1, h2, h3, h4, h5⟩ := c
    obtain ⟨u1, w1, g1, g2, g3, g4, g5⟩ := tA.ways p v h2
    obtain ⟨u2, w2, k1, k2, k3, k4, k5⟩ := tB.ways p v (by rw [← h]; exact h2)
    rw [h1] at g1 k1
    cases g1
    cases k1
    rw [g5 e (by rw [← way_unique T h3 g2 h4 g3]; exact h5), k5 e (by rw [← way_unique T h3 k2 h4 k3]; exact h5)]
  · rw [tA.rest e fun p u v w h1 h2 h3 h4 z => c ⟨p, u, v, w, h1, h2, h3, h4, z⟩, tB.rest e fun p u v w h1 h2 h3 h4 z => c ⟨p, u, v, w, h1, by rw [h]; exact h2, h3, h4, z⟩]
theorem apt_in {n : Nat} {ds : List (Nat × Nat)} {S A : S2} (T : Tree n ds) (o : StOk n ds S) (a : Apt ds S) (hA : Rc ds S A) {p v : Nat} (h : A.1[p]? = some v) : Rg ds S p v := by
  obtain ⟨u, w, g1, g2, g3, g4, g5⟩ := (told T o a hA).ways p v h
  exact ⟨u, w, g1, g2, g4⟩
/-- all choices of a room in each list -/
def prodL : List (List Nat) → List (List Nat)
  | Ls => Ls.foldl (fun acc L => acc.flatMap fun pre => L.map fun x => pre ++ [x]) [[]]
theorem prodL_snoc (Ls : List (List Nat)) (L : List Nat) : prodL (Ls ++ [L]) = (prodL Ls).flatMap fun pre => L.map fun x => pre ++ [x] := by
  unfold prodL
  rw [List.foldl_append]
  rfl
theorem snoc_ind {α : Type} {P : List α → Prop} (h0 : P []) (h1 : ∀ l x, P l → P (l ++ [x])) : ∀ l, P l := by
  have key : ∀ (n : Nat) (l : List α), l.length = n → P l := by
    intro n
    induction n with
    | zero => exact fun l h => by rw [List.length_eq_zero_iff.mp h]; exact h0
    | succ n ih =>
      intro l h
      rcases snoc_nil l with rfl | ⟨r, x, rfl⟩
      · exact h0
      · exact h1 r x (ih r (by rw [List.length_append, List.length_singleton] at h; omega))
  exact fun l => key l.length l rfl
theorem prodL_mem : ∀ (Ls : List (List Nat)) (X : List Nat), X ∈ prodL Ls ↔ X.length = Ls.length ∧ ∀ p x : Nat, X[p]? = some x → ∃ L, Ls[p]? = some L ∧ x ∈ L := by
  refine snoc_ind ?_ ?_
  · intro X
    show X ∈ [[]] ↔ _
    rw [List.mem_singleton]
    constructor
    · rintro rfl
      exact ⟨rfl, fun p x h => by simp at h⟩
    · rintro ⟨h, _⟩
      exact List.length_eq_zero_iff.mp h
  · intro Ls L ih X
    rw [prodL_snoc, List.mem_flatMap]
    constructor
    · rintro ⟨pre, hp, hX⟩
      obtain ⟨x, hx, rfl⟩ := List.mem_map.mp hX
      obtain ⟨l1, l2⟩ := (ih pre).mp hp
      refine ⟨by rw [List.length_append, List.length_append, l1]; rfl, fun p y hy => ?_⟩
      by_cases c : p < pre.length
      · rw [List.getElem?_append_left c] at hy
        obtain ⟨M, m1, m2⟩ := l2 p y hy
        exact ⟨M, by rw [List.getElem?_append_left (get_lt m1)]; exact m1, m2⟩
      · have := get_lt hy
        rw [List.length_append, List.length_singleton] at this
        have e : p = pre.length := by omega
        subst e
        rw [List.getElem?_append_right (Nat.le_refl _), Nat.sub_self] at hy
        cases hy
        refine ⟨L, ?_, hx⟩
        rw [l1, List.getElem?_append_right (Nat.le_refl _), Nat.sub_self]
        rfl
    · rintro ⟨l1, l2⟩
      rcases snoc_nil X with rfl | ⟨pre, x, rfl⟩
      · rw [List.length_append, List.length_singleton] at l1
        simp at l1
      · rw [List.length_append, List.length_append, List.length_singleton, List.length_singleton] at l1
        have l1 : pre.length = Ls.length := by omega
        refine ⟨pre, (ih pre).mpr ⟨l1, fun p y hy => ?_⟩, ?_⟩
        · have lp := get_lt hy
          obtain ⟨M, m1, m2⟩ := l2 p y (by rw [List.getElem?_append_left lp]; exact hy)
          rw [List.getElem?_append_left (by omega)] at m1
          exact ⟨M, m1, m2⟩
        · obtain ⟨M, m1, m2⟩ := l2 pre.length x (by rw [List.getElem?_append_right (Nat.le_refl _), Nat.sub_self]; rfl)
          rw [l1, List.getElem?_append_right (Nat.le_refl _), Nat.sub_self] at m1
          cases m1
          exact List.mem_map.mpr ⟨x, m2, rfl⟩
theorem prodL_nd : ∀ (Ls : List (List Nat)), (∀ L ∈ Ls, L.Nodup) → (prodL Ls).Nodup := by
  refine snoc_ind ?_ ?_
  · intro _
    show [[]].Nodup
    simp
  · intro Ls L ih h
    rw [prodL_snoc]
    show List.Pairwise (· ≠ ·) _
    rw [List.pairwise_flatMap]
    refine ⟨fun pre _ => ?_, (ih fun M hM => h M (List.mem_append_left _ hM)).imp fun {a b} ne => fun x hx y hy z => ?_⟩
    · rw [List.pairwise_map]
      refine List.Pairwise.imp (R := fun x y : Nat => x ≠ y) (S := fun x y => pre ++ [x] ≠ pre ++ [y]) (fun {x y} ne z => ne ?_) (h L (List.mem_append_right _ List.mem_cons_self))
      have z2 : [x] = [y] := (List.append_inj' z rfl).2
      exact List.head_eq_of_cons_eq z2
    · obtain ⟨u, _, rfl⟩ := List.mem_map.mp hx
      obtain ⟨v, _, rfl⟩ := List.mem_map.mp hy
      exact ne (List.append_inj' z rfl).1
/-- the product of the lengths -/
def prodN : List (List Nat) → Nat
  | Ls => Ls.foldl (fun k L => k * L.length) 1
theorem prodN_snoc (Ls : List (List Nat)) (L : List Nat) : prodN (Ls ++ [L]) = prodN Ls * L.length := by
  unfold prodN
  rw [List.foldl_append]
  rfl
theorem prodL_len : ∀ Ls : List (List Nat), (prodL Ls).length = prodN Ls := by
  refine snoc_ind rfl ?_
  intro Ls L ih
  rw [prodL_snoc, prodN_snoc, ← ih]
  generalize prodL Ls = M
  induction M with
  | nil => simp
  | cons a r ih2 => rw [List.flatMap_cons, List.length_append, ih2, List.length_map, List.length_cons, Nat.succ_mul, Nat.add_comm]
theorem prodN_le : ∀ (Ls Ms : List (List Nat)), Ls.length = Ms.length → (∀ (p : Nat) (L M : List Nat), Ls[p]? = some L → Ms[p]? = some M → L.length ≤ M.length) → prodN Ls ≤ prodN Ms := by
  refine snoc_ind ?_ ?_
  · intro Ms h _
    have : Ms = [] := List.length_eq_zero_iff.mp h.symm
    subst this
    exact Nat.le_refl _
  · intro Ls L ih Ms h f
    rcases snoc_nil Ms with rfl | ⟨Ms, M, rfl⟩
    · simp at h
    · rw [List.length_append, List.length_append, List.length_singleton, List.length_singleton] at h
      have h : Ls.length = Ms.length := by omega
      rw [prodN_snoc, prodN_snoc]
      refine Nat.mul_le_mul (ih Ms h fun p A B a b => f p A B (by rw [List.getElem?_append_left (get_lt a)]; exact a) (by rw [List.getElem?_append_left (get_lt b)]; exact b)) ?_
      exact f Ls.length L M (by rw [List.getElem?_append_right (Nat.le_refl _), Nat.sub_self]; rfl) (by rw [h, List.getElem?_append_right (Nat.le_refl _), Nat.sub_self]; rfl)
end K5

namespace K5
open PySem PySem.Spec PyProof.Rows L2
section
variable {P : Program} {w : World} {K : PySem.W.Frag}
      {mg : Str → Option Value} {base : Heap}
theorem ok_steps_along__t (T : Bl mg) (D : Def K mg "steps_along" s_steps_along) : Cal P w K mg base "steps_along" ["ways", "room"] 1 (spStepsT K) := by
  refine D.ok sc_steps_along (fun _ _ _ _ _ _ us hl => match us, hl with | [_, _], _ => rfl) (fun vs H Q E h => ?_) (fun f cdv A outer s H vs Q E hr h => ?_)
  · obtain ⟨p, a, n, room, ds, shut, kvs, ks, rfl, _⟩ := h
    rfl
  obtain ⟨p, a, n, room, ds, shut, kvs, ks, rfl, hp, r, pt, tree, hks, ha, q⟩ := h
  refine ⟨_, (pss_cons (ps_set (i := 2) sc_steps_along.nd rfl (.inl rfl) (pe_lst pa_nil))
    (pss_cons (ps_set (i := 3) sc_steps_along.nd rfl (.inl rfl) (pv 1))
    (pss_cons (ps_while PassesOwn.never (pt_cmpR op_notN (pe_dget (hu_of hr) (pv 0) (pv 3) (fun _ _ => rfl)) pe_non (nomark _)) (pss_cons (ps_asg (pe_dget (hu_of hr) (pv 0) (pv 3) (fun _ _ => rfl)) (pg_tup (n := 2) rfl (pgs_cons (pg_name (i := 4) sc_steps_along.nd rfl (.inl rfl)) (pgs_cons (pg_name (i := 5) sc_steps_along.nd rfl (.inl rfl)) pgs_nil))))
    (pss_cons (ps_expr (pe_bm PySem.F.plainAttrs_list PySem.F.slot_list_append PySem.F.type_list_append mt_append (pv 2) (pa_cons (pe_tup (pa_cons (pv 4) (pa_cons (pv 3) (pa_cons (pv 5) pa_nil)))) pa_nil)))
    (pss_one (ps_set (i := 3) sc_steps_along.nd rfl (.inl rfl) (pv 5))))))
    (pss_one (ps_ret (pv 2)))))), ?_⟩
  refine ⟨Nat.zero_le _, fun q0 nq => ?_⟩
  refine ⟨_, rfl, ?_⟩
  refine ⟨fun m σ H1 => ∃ here tr y4 y5, m = (ks.map Prod.fst).idxOf here ∧ σ = [some (.ref p), some (.int (a : Int)), some (.ref q0), some (.int (here : Nat)), y4, y5] ∧ Same H H1 ∧ TrisAt H1 q0 tr ∧ Trl ds a tr here ∧ (∀ m ∈ tr, m.1 ∉ shut) ∧
      Made ds (ks.map Prod.fst) a (tr.map Prod.fst) here ∧ here ∈ ks.map Prod.fst ∧ tr.length + (ks.map Prod.fst).idxOf here ≤ ks.length,
    ⟨_, a, [], _, _, rfl, rfl, Same.upd nq, ⟨[], upd_same, TL.nil⟩, rfl, fun m hm => (List.not_mem_nil hm).elim, Made.start, ha, ?_⟩, fun m σ H1 hW => ?_⟩
  · have := List.idxOf_lt_length_iff.mpr ha
    rw [List.length_map] at this
    simp
    omega
  obtain ⟨here, tr, y4, y5, rfl, rfl, sm, ⟨ts, hq, tl⟩, trl, nsh, md, hh, hle⟩ := hW
  obtain ⟨v, o, hv, hko, hw⟩ := r.val hh
  have hk1 := sm _ _ hp
  have hg : DGet H1 p (.int (here : Int)) (some v) := by
    rw [← hv]
    exact DGet.k (k := Sum.inl (here : Int)) hk1
  refine ⟨_, rfl, _, rfl, p, v, rfl, hg, rfl, _, rfl, ?_⟩
  cases o with
  | none =>
    have hw : v = .non := hw
    subst hw
    refine iteF ⟨_, rfl, q H1 q0 tr sm nq ⟨ts, hq, tl⟩ ?_ md.nd nsh (by omega)⟩
    rw [← pt.fin _ hko]
    exact trl
  | some e =>
    obtain ⟨t, rfl, ht⟩ := hw
    obtain ⟨j, ns, hy, lt⟩ := pt.st here e.1 e.2 hko
    have ht1 := sm _ _ ht
    refine iteT ⟨fun σ' H' => ∃ here' tr y4 y5, (ks.map Prod.fst).idxOf here' < (ks.map Prod.fst).idxOf here ∧ σ' = [some (.ref p), some (.int (a : Int)), some (.ref q0), some (.int (here' : Nat)), y4, y5] ∧ Same H H' ∧ TrisAt H' q0 tr ∧ Trl ds a tr here' ∧ (∀ m ∈ tr, m.1 ∉ shut) ∧
      Made ds (ks.map Prod.fst) a (tr.map Prod.fst) here' ∧ here' ∈ ks.map Prod.fst ∧ tr.length + (ks.map Prod.fst).idxOf here' ≤ ks.length, fun σ' H' ⟨h', p', z4, z5, g1, g2⟩ => ⟨_, g1, h', p', z4, z5, rfl, g2⟩, ?_⟩
    refine ⟨_, rfl, _, rfl, p, V.ref t, rfl, hg, t, _, rfl, SqT.of ht1, rfl, _, _, rfl, _, _, rfl, rfl, ?_⟩
    refine ⟨_, rfl, .inl ⟨rfl, _, SqL.of hq⟩, _, rfl, _, rfl, _, rfl, by show 3 ≤ sizeLine; decide, fun t2 nt2 => ⟨q0, _, _, rfl, rfl, by rw [upd_ne (ne_of_none hq nt2)]; exact hq, by rw [List.length_map, tl.1]; exact small1000 (by omega), ?_⟩⟩
    refine ⟨_, rfl, ?_⟩
    have n2q : t2 ≠ q0 := (ne_of_none hq nt2).symm
    refine ⟨e.2, tr ++ [(e.1, here, e.2)], _, _, lt, rfl, (sm.trans (Same.upd nt2)).at nq, ⟨ts ++ [t2], by rw [upd_same, List.map_append]; rfl, TL.append ⟨tl.1, fun i t' m' g1 g2 => ?_⟩ (TL.one (by rw [upd_ne n2q, upd_same]; rfl))⟩, trl.snoc j, fun m hm => ?_, by rw [List.map_append]; exact md.step ⟨n, tree⟩ pt hko, hy, ?_⟩
    · have z := tl.2 i t' m' g1 g2
      rw [upd_ne (ne_lt hq z), upd_ne (ne_of_none z nt2)]
      exact z
    · rcases List.mem_append.mp hm with hm | hm
      · exact nsh m hm
      · rw [List.mem_singleton] at hm
        rw [hm]
        exact ns
    · rw [List.length_append, List.length_singleton]
      omega
theorem ok_region (T : Bl mg) (D : Def K mg "region" s_region) (C_need_state : Cal P w K mg base "need_state" ["house", "state"] 7 (spSt K)) (C_need_person : Cal P w K mg base "need_person" ["state", "person"] 3 (spPerson K)) (C_region_ways : Cal P w K mg base "region_ways" ["house", "state", "person"] 3 (spRegWays K)) :
    CalK P w K mg base "region" ["house", "state", "person"] 8 (spRegion K) ["person", "state", "house"] rev3 rev3 := by
  refine D.okK sc_region (fun _ _ _ _ _ _ us ws hl => match us, ws, hl with | [], [_, _, _], _ => rfl) rev3_vals (fun _ _ _ _ _ _ us hl => match us, hl with | [_, _, _], _ => rfl) (fun vs H Q E h => ?_) (fun f cdv A outer s H vs Q E hr h => ?_)
  · obtain ⟨a, s, p, n, ds, S, rfl, _⟩ := h
    rfl
  obtain ⟨a, s, p, n, ds, S, rfl, hH, tree, hn, st, ok, hp, q⟩ := h
  obtain ⟨f_need_state, fd_need_state, g_need_state, k_need_state, b_need_state, G_need_state⟩ := C_need_state
  obtain ⟨f_need_person, fd_need_person, g_need_person, k_need_person, b_need_person, G_need_person⟩ := C_need_person
  obtain ⟨f_region_ways, fd_region_ways, g_region_ways, k_region_ways, b_region_ways, G_region_ways⟩ := C_region_ways
  refine ⟨_, (pss_cons (ps_expr (pe_call G_need_state (hr.mono (by decide)) (by rfl) g_need_state k_need_state b_need_state .nil pass0 (pa_cons (pv 0) (pa_cons (pv 1) pa_nil))))
    (pss_cons (ps_expr (pe_call G_need_person (hr.mono (by decide)) (by rfl) g_need_person k_need_person b_need_person .nil pass0 (pa_cons (pv 1) (pa_cons (pv 2) pa_nil))))
    (pss_one (ps_ret (pe_callB (call_sortedDI rfl) (by rfl) T.sorted (by decide +kernel) (pa_cons (pe_call G_region_ways (hr.mono (by decide)) (by rfl) g_region_ways k_region_ways b_region_ways .nil pass0 (pa_cons (pv 0) (pa_cons (pv 1) (pa_cons (pv 2) pa_nil)))) pa_nil)))))), ?_⟩
  refine ⟨_, rfl, _, rfl, a, s, ds, n, S, rfl, hH, tree, by omega, st, ok, fun H1 s1 => ?_⟩
  refine ⟨_, rfl, _, rfl, s, p, n, ds, S, rfl, st.same s1, ok, hp, ?_⟩
  refine ⟨_, rfl, _, rfl, _, rfl, a, s, p, n, ds, S, rfl, hH.same s1, tree, by omega, st.same s1, ok, hp, fun H2 q2 kvs ks s2 nq2 hq2 r2 rg => ?_⟩
  have le := rg.le
  refine ⟨q2, kvs, (ks.map Prod.fst).map fun x : Nat => (x : Int), rfl, .inl hq2, r2.keys, by rw [List.length_map, List.length_map]; omega, fun ys p0 pm asc np0 => ?_⟩
  obtain ⟨L, rfl, pl⟩ := perm_of_map _ _ _ pm
  rw [← nv_int]
  have s12 := s1.trans s2
  refine q _ p0 L ks (s12.trans (Same.upd np0)) (s12.free np0) upd_same rg pl ?_
  rw [List.pairwise_map] at asc
  exact asc.imp fun h => by omega
theorem ok_walk_to (T : Bl mg) (D : Def K mg "walk_to" s_walk_to) (C_need_state : Cal P w K mg base "need_state" ["house", "state"] 7 (spSt K)) (C_need_person : Cal P w K mg base "need_person" ["state", "person"] 3 (spPerson K)) (C_need_room : Cal P w K mg base "need_room" ["house", "room"] 3 (spNeedRoom K))
    (C_ways_from : Cal P w K mg base "ways_from" ["house", "room", "shut"] 2 (spWays K)) (C_doors_barring : Cal P w K mg base "doors_barring" ["state", "person"] 1 (spBarring K)) (C_steps_along : Cal P w K mg base "steps_along" ["ways", "room"] 1 (spStepsT K)) :
    CalK P w K mg base "walk_to" ["house", "state", "person", "room"] 8 (spWalkTo K) ["room", "person", "state", "house"] rev4 rev4 := by
  refine D.okK sc_walk_to (fun _ _ _ _ _ _ us ws hl => match us, ws, hl with | [], [_, _, _, _], _ => rfl) rev4_vals (fun _ _ _ _ _ _ us hl => match us, hl with | [_, _, _, _], _ => rfl) (fun vs H Q E h => ?_) (fun f cdv A outer s H vs Q E hr h => ?_)
  · obtain ⟨a, s, p, x, n, ds, S, rfl, _⟩ := h
    rfl
  obtain ⟨a, s, p, x, n, ds, S, rfl, hH, tree, hn, st, ok, hp, hx, q0, q1⟩ := h
  obtain ⟨r, b, h1, h2, h3⟩ := id st
  have hdn := tree.len
  obtain ⟨f_need_state, fd_need_state, g_need_state, k_need_state, b_need_state, G_need_state⟩ := C_need_state
  obtain ⟨f_need_person, fd_need_person, g_need_person, k_need_person, b_need_person, G_need_person⟩ := C_need_person
  obtain ⟨f_need_room, fd_need_room, g_need_room, k_need_room, b_need_room, G_need_room⟩ := C_need_room
  obtain ⟨f_ways_from, fd_ways_from, g_ways_from, k_ways_from, b_ways_from, G_ways_from⟩ := C_ways_from
  obtain ⟨f_doors_barring, fd_doors_barring, g_doors_barring, k_doors_barring, b_doors_barring, G_doors_barring⟩ := C_doors_barring
  obtain ⟨f_steps_along, fd_steps_along, g_steps_along, k_steps_along, b_steps_along, G_steps_along⟩ := C_steps_along
  refine ⟨_, (pss_cons (ps_expr (pe_call G_need_state (hr.mono (by decide)) (by rfl) g_need_state k_need_state b_need_state .nil pass0 (pa_cons (pv 0) (pa_cons (pv 1) pa_nil))))
    (pss_cons (ps_expr (pe_call G_need_person (hr.mono (by decide)) (by rfl) g_need_person k_need_person b_need_person .nil pass0 (pa_cons (pv 1) (pa_cons (pv 2) pa_nil))))
    (pss_cons (ps_expr (pe_call G_need_room (hr.mono (by decide)) (by rfl) g_need_room k_need_room b_need_room .nil pass0 (pa_cons (pv 0) (pa_cons (pv 3) pa_nil))))
    (pss_cons (ps_set (i := 4) sc_walk_to.nd rfl (.inl rfl) (pe_call G_ways_from (hr.mono (by decide)) (by rfl) g_ways_from k_ways_from b_ways_from .nil pass0 (pa_cons (pv 0) (pa_cons (pv 3) (pa_cons (pe_call G_doors_barring (hr.mono (by decide)) (by rfl) g_doors_barring k_doors_barring b_doors_barring .nil pass0 (pa_cons (pv 1) (pa_cons (pv 2) pa_nil))) pa_nil)))))
    (pss_cons (ps_set (i := 5) sc_walk_to.nd rfl (.inl rfl) (pe_ix ix_tup (pe_ix ix_tup (pv 1) pe_int (fun _ _ => rfl)) (pv 2) (fun _ _ => rfl)))
    (pss_cons (ps_if (pt_cmp (pc_dnotin (hu_of hr) (pv 5) (pv 4))) (pss_one (ps_ret pe_non)) pss_nil)
    (pss_one (ps_ret (pe_lc (own := [("door", 6), ("start", 7), ("end", 8)]) (g := gTup K 3 (gCons (gName 6) (gCons (gName 7) (gCons (gName 8) gNil))))  rfl sc_walk_to.nd (pi_list (pe_call G_steps_along (hr.mono (by decide)) (by rfl) g_steps_along k_steps_along b_steps_along .nil pass0 (pa_cons (pv 4) (pa_cons (pv 5) pa_nil)))) (blkOk_by (N := N_walk_to) (sc := defScope s_walk_to) (own := [("door", 6), ("start", 7), ("end", 8)]) (by decide +kernel)) (fun _ _ _ _ _ => (pg_tup (n := 3) rfl (pgs_cons (pg_name (i := 6) sc_walk_to.nd rfl (.inl rfl) (.inr rfl)) (pgs_cons (pg_name (i := 7) sc_walk_to.nd rfl (.inl rfl) (.inr rfl)) (pgs_cons (pg_name (i := 8) sc_walk_to.nd rfl (.inl rfl) (.inr rfl)) pgs_nil))))) (fun _ _ _ _ _ => pts_nil) (fun _ _ _ _ _ => (pe_tup (pa_cons (pv 2) (pa_cons (pv 7) (pa_cons (pv 8) pa_nil)))))))))))))), ?_⟩
  obtain ⟨v, hv⟩ : ∃ v, S.1[p]? = some v := get_of rfl hp
  have lv := ok.rooms v (List.mem_of_getElem? hv)
  refine ⟨_, rfl, _, rfl, a, s, ds, n, S, rfl, hH, tree, by omega, st, ok, fun H1 s1 => ?_⟩
  refine ⟨_, rfl, _, rfl, s, p, n, ds, S, rfl, st.same s1, ok, hp, ?_⟩
  refine ⟨_, rfl, _, rfl, a, ds, _, rfl, hH.same s1, by omega, by omega, ?_⟩
  refine ⟨_, rfl, _, rfl, _, rfl, _, rfl, s, p, n, ds, S, rfl, st.same s1, ok, hn, by omega, fun H2 sh s2 nsh hsh => ?_⟩
  have s12 := s1.trans s2
  have bl := barr_len (S := S) (p := p)
  rw [ok.doors] at bl
  refine ⟨a, sh, ds, n, x, barr S p, rfl, hH.same s12, tree, hn, hx, SqL.of hsh, by omega, fun H3 q3 kvs ks s3 nq3 hq3 r3 df pt hrm => ?_⟩
  have s13 := s12.trans s3
  have rg : Reg n ds (barr S p) x ks := ⟨df, pt, hrm⟩
  have le := rg.le
  refine ⟨_, rfl, s, _, _, _, rfl, rfl, s13.tup h1, atI_nat (j := 0) rfl, _, rfl, r, _, _, _, rfl, rfl, s13.tup h2, nv_at hv, ?_⟩
  refine ⟨_, rfl, _, rfl, q3, _, rfl, DGet.k (k := Sum.inl (v : Int)) hq3, _, rfl, ?_⟩
  by_cases hm : v ∈ ks.map Prod.fst
  · obtain ⟨vv, o, hvv, _, _⟩ := r3.val hm
    rw [hvv]
    refine iteF ?_
    refine ⟨_, rfl, _, rfl, q3, v, n, x, ds, barr S p, kvs, ks, rfl, hq3, r3, pt, tree, by omega, hm, fun H4 q4 tr s4 nq4 ⟨ts, g1, g2⟩ trl nd nsh hl => ?_⟩
    refine ⟨q4, rfl, ⟨_, SqL.of g1⟩, fun pd npd => ?_⟩
    have s14 := s13.trans s4
    have npd0 := s14.free npd
    refine lc_it (walk_list (K := K) (a := q4) (xs := ts.map V.ref)) (fun i H5 => Same H4 H5 ∧ TrisAt H5 pd ((tr.take i).map fun m => (p, m.2.1, m.2.2))) ⟨Same.upd npd, [], upd_same, TL.nil⟩ (fun i H5 _ h => SqL.of (h.1 _ _ g1)) ?_ ?_
    · rintro i y H5 H6 hi ⟨sm, tp, f1, f2⟩ ⟨rfl, ex⟩
      have hi' : i < tr.length := by
        rw [List.length_map, g2.1] at hi
        exact hi
      obtain ⟨t1, ht1⟩ : ∃ t1, ts[i]? = some t1 := get_of g2.1 hi'
      obtain ⟨m, hm'⟩ : ∃ m, tr[i]? = some m := get_of rfl hi'
      have ex' : V.ref t1 = y := by
        have ex : (ts.map V.ref)[i]? = some y := ex
        rw [List.getElem?_map, ht1] at ex
        exact Option.some.inj ex
      subst ex'
      refine ⟨t1, _, rfl, SqT.of (sm _ _ (g2.2 i t1 m ht1 hm')), rfl, _, _, rfl, _, _, rfl, _, _, rfl, rfl, rfl, lcYes ?_⟩
      refine ⟨_, rfl, _, rfl, _, rfl, by show 3 ≤ sizeLine; decide, fun t2 nt2 => ?_⟩
      have ntp : t2 ≠ pd := (ne_of_none f1 nt2).symm
      refine ⟨_, by rw [upd_ne ntp.symm]; exact f1, ?_, (sm.trans (Same.upd nt2)).at npd, tp ++ [t2], by rw [upd_same, List.map_append]; rfl, ?_⟩
      · rw [List.length_map, f2.1, List.length_map, List.length_take]
        exact small1000 (by omega)
      · rw [List.take_succ, hm', List.map_append]
        refine TL.append ⟨f2.1, fun i' t' m' e1 e2 => ?_⟩ (TL.one (by rw [upd_ne ntp, upd_same]; rfl))
        have z := f2.2 i' t' m' e1 e2
        rw [upd_ne (ne_lt f1 z), upd_ne (ne_of_none z nt2)]
        exact z
    · rintro H5 ⟨sm, tp⟩
      rw [List.length_map, g2.1, List.take_length] at tp
      exact q1 H5 pd tr (s14.trans sm) npd0 tp (by rw [getD_of hv]; exact trl) nd nsh hl
  · rw [r3.no hm]
    exact iteT (q0 H3 ks s13 rg (by rw [getD_of hv]; exact hm))
end
end K5

namespace K5
open PySem PySem.Spec PyProof.Rows L2
theorem ex_memA {ds : List (Nat × Nat)} {ex : Nat → List (Nat × Nat)} {k : Nat} {e : Nat × Nat} (he : ds[k]? = some e) (ne : e.1 ≠ e.2) (mem : ∀ x d y, (y, d) ∈ ex x ↔ d < k ∧ Joins ds d x y) (x d y : Nat) :
    (y, d) ∈ (if x = e.2 then (if x = e.1 then ex x ++ [(e.2, k)] else ex x) ++ [(e.1, k)] else if x = e.1 then ex x ++ [(e.2, k)] else ex x) ↔ d < k + 1 ∧ Joins ds d x y := by
  have J : Joins ds k x y ↔ (x = e.1 ∧ y = e.2) ∨ (x = e.2 ∧ y = e.1) := by
    unfold Joins
    rw [he]
    constructor
    · rintro (h | h)
      · have h := Option.some.inj h
        exact .inl ⟨by rw [h], by rw [h]⟩
      · have h := Option.some.inj h
        exact .inr ⟨by rw [h], by rw [h]⟩
    · rintro (⟨rfl, rfl⟩ | ⟨rfl, rfl⟩)
      · exact .inl rfl
      · exact .inr rfl
  have step : (d < k + 1 ∧ Joins ds d x y) ↔ (d < k ∧ Joins ds d x y) ∨ (d = k ∧ ((x = e.1 ∧ y = e.2) ∨ (x = e.2 ∧ y = e.1))) := by
    constructor
    · rintro ⟨h1, h2⟩
      by_cases q : d = k
      · subst q
        exact .inr ⟨rfl, J.mp h2⟩
      · exact .inl ⟨by omega, h2⟩
    · rintro (⟨h1, h2⟩ | ⟨rfl, h2⟩)
      · exact ⟨by omega, h2⟩
      · exact ⟨by omega, J.mpr h2⟩
  rw [step, ← mem x d y]
  by_cases h2 : x = e.2
  · have h1 : ¬ x = e.1 := fun z => ne (z.symm.trans h2)
    rw [if_pos h2, if_neg h1, List.mem_append, List.mem_singleton, Prod.mk.injEq]
    simp [h1, h2, ne.symm, and_comm]
  · rw [if_neg h2]
    by_cases h1 : x = e.1
    · rw [if_pos h1, List.mem_append, List.mem_singleton, Prod.mk.injEq]
      simp [h1, ne, and_comm]
    · rw [if_neg h1]
      simp [h1, h2]
def spAround (K : PySem.W.Frag) : Sp := fun vs H Q _ => ∃ (a : Addr) (ds : List (Nat × Nat)) (n : Nat), vs = [.ref a] ∧ HouseAt K H a ds ∧ Tree n ds ∧ n ≤ 1000 ∧
  ∀ (H' : Hp) (p : Addr) (ps : List Addr) (ex : Nat → List (Nat × Nat)), Same H H' → H p = none → H' p = some (.lst (ps.map V.ref)) → ps.length = n → Rows H' ps ex → (∀ x d y, (y, d) ∈ ex x ↔ Joins ds d x y) → (∀ x, (ex x).Nodup) → (∀ x ∈ ps, H x = none) → Q (.ref p) H'
section
variable {P : Program} {w : World} {K : PySem.W.Frag}
      {mg : Str → Option Value} {base : Heap}
theorem ok_around (T : Bl mg) (D : Def K mg "_law_around" s_l_around) : Cal P w K mg base "_law_around" ["_law_layout"] 1 (spAround K) := by
  refine D.ok sc_l_around (fun _ _ _ _ _ _ us hl => match us, hl with | [_], _ => rfl) (fun vs H Q E h => ?_) (fun f cdv A outer s H vs Q E hr h => ?_)
  · obtain ⟨a, ds, n, rfl, _⟩ := h
    rfl
  obtain ⟨a, ds, n, rfl, hH, tree, hn, q⟩ := h
  obtain ⟨rs, hrs, hlen, hds⟩ := id hH
  have hdn := tree.len
  refine ⟨_, (pss_cons (ps_setLc (i := 1) (own := [("_law_spot", 2)]) (g := gName 2)  rfl sc_l_around.nd rfl rfl (sw_true rfl rfl rfl (by decide +kernel)) (pi_range1 rfl T.range (pa_cons (pe_op op_add (pe_callB call_len_seq (by rfl) T.len PySem.boot_len (pa_cons (pv 0) pa_nil)) pe_int) pa_nil)) (blkOk_by (N := N_l_around) (sc := defScope s_l_around) (own := [("_law_spot", 2)]) (by decide +kernel)) (fun _ _ _ _ _ => (pg_name (i := 2) sc_l_around.nd rfl (.inl rfl) (.inr rfl))) (fun _ _ _ _ _ => pts_nil) (fun _ _ _ _ _ => (pe_lst pa_nil)))
    (pss_cons (ps_for PassesOwn.never rfl (pi_enumT (by rfl) T.enumerate (pa_cons (pv 0) pa_nil)) (pg_tup (n := 2) rfl (pgs_cons (pg_name (i := 3) sc_l_around.nd rfl (.inl rfl)) (pgs_cons (pg_tup (n := 2) rfl (pgs_cons (pg_name (i := 4) sc_l_around.nd rfl (.inl rfl)) (pgs_cons (pg_name (i := 5) sc_l_around.nd rfl (.inl rfl)) pgs_nil))) pgs_nil)))
    (pss_cons (ps_expr (pe_bm PySem.F.plainAttrs_list PySem.F.slot_list_append PySem.F.type_list_append mt_append (pe_ix ix_list (pv 1) (pv 4) (fun _ _ => rfl)) (pa_cons (pe_tup (pa_cons (pv 5) (pa_cons (pv 3) pa_nil))) pa_nil)))
    (pss_one (ps_expr (pe_bm PySem.F.plainAttrs_list PySem.F.slot_list_append PySem.F.type_list_append mt_append (pe_ix ix_list (pv 1) (pv 5) (fun _ _ => rfl)) (pa_cons (pe_tup (pa_cons (pv 4) (pa_cons (pv 3) pa_nil))) pa_nil))))))
    (pss_one (ps_ret (pv 1))))), ?_⟩
  have en : (((rs.map V.ref).length : Nat) : Int) + 1 = ((n : Nat) : Int) := by
    rw [List.length_map, hlen]
    omega
  refine ⟨_, rfl, _, _, rfl, .inr hrs, _, _, rfl, rfl, (n : Int), congrArg (fun z => [V.int z]) en, by omega, by omega, fun p np => ?_⟩
  refine lc_range (lo := 0) (n := n) (fun i H1 => ∃ ps : List Addr, Same H H1 ∧ H1 p = some (.lst (ps.map V.ref)) ∧ ps.length = i ∧ ps.Nodup ∧ ∀ x ∈ ps, H x = none ∧ H1 x = some (.lst [])) ?_ ?_ ?_
  · exact ⟨[], Same.upd np, upd_same, rfl, List.nodup_nil, fun _ h => nomatch h⟩
  · rintro i H1 hi ⟨ps, sm, hp, hl, nd, hx⟩
    refine ⟨rfl, lcYes ?_⟩
    refine ⟨Nat.zero_le _, fun x nx => ?_⟩
    have npx : p ≠ x := ne_of_none hp nx
    have xps : x ∉ ps := fun m => by
      rw [(hx x m).2] at nx
      cases nx
    have pps : p ∉ ps := fun m => by
      have h1 := (hx p m).2
      rw [hp] at h1
      cases ps with
      | nil => cases m
      | cons a r => cases h1
    refine ⟨ps.map V.ref, by rw [upd_ne npx]; exact hp, ?_, ps ++ [x], (sm.trans (Same.upd nx)).at np, ?_, by simp [hl], ?_, fun z m => ?_⟩
    · rw [List.length_map]
      exact small1000 (by omega)
    · rw [upd_same, List.map_append]
      rfl
    · exact nd_snoc nd xps
    · rcases List.mem_append.mp m with m | m
      · have ne1 : z ≠ p := fun e => pps (e ▸ m)
        have ne2 : z ≠ x := fun e => xps (e ▸ m)
        rw [upd_ne ne1, upd_ne ne2]
        exact hx z m
      · rw [List.mem_singleton.mp m, upd_ne npx.symm, upd_same]
        exact ⟨sm.free nx, rfl⟩
  · rintro H1 ⟨ps, sm, hp, hl, nd, hx⟩
    have pps : p ∉ ps := fun m => by
      have h1 := (hx p m).2
      rw [hp] at h1
      cases ps with
      | nil => cases m
      | cons a r => cases h1
    refine ⟨_, rfl, a, _, rfl, sm.tup hrs, ?_⟩
    refine for_it (walk_enumT (K := K) (a := a) (xs := rs.map V.ref)) (fun k σ H2 => ∃ ex y2 y3 y4 y5, σ = [some (.ref a), some (.ref p), y2, y3, y4, y5] ∧ Same H H2 ∧ H2 p = some (.lst (ps.map V.ref)) ∧ Rows H2 ps ex ∧
        (∀ x d y, (y, d) ∈ ex x ↔ d < k ∧ Joins ds d x y) ∧ (∀ x, (ex x).length ≤ 2 * k) ∧ ∀ x, (ex x).Nodup)
      ⟨fun _ => [], _, _, _, _, rfl, sm, hp, fun x q e => ⟨[], (hx q (List.mem_of_getElem? e)).2, rfl, fun i t e h => by simp at h⟩, fun x d y => by simp, fun x => Nat.zero_le _, fun x => List.nodup_nil⟩
      (fun i σ H1 _ ⟨_, _, _, _, _, _, sm, _⟩ => sm.tup hrs) ?_ ?_
    · rintro k x σ H2 H3 hk ⟨ex, y2, y3, y4, y5, rfl, sm2, hp2, ro, mem, le, nod⟩ ⟨t, x1, x2, rfl, nt, rfl, ex1, ex2⟩
      cases ex1
      have hk' : k < ds.length := by
        rw [List.length_map, hlen] at hk
        exact hk
      obtain ⟨e, he⟩ : ∃ e, ds[k]? = some e := get_of rfl hk'
      obtain ⟨r, hr0⟩ : ∃ r, rs[k]? = some r := get_of hlen hk'
      have ex2' : V.ref r = x2 := by
        have ex2 : (rs.map V.ref)[k]? = some x2 := ex2
        rw [List.getElem?_map, hr0] at ex2
        exact Option.some.inj ex2
      subst ex2'
      have elt := tree.lt e (List.mem_of_getElem? he)
      obtain ⟨side, s1, s2⟩ := tree.side
      have ene : e.1 ≠ e.2 := fun z => s1 k e he (by rw [z])
      have smt : Same H2 (upd H2 t (.tup [.int (k : Nat), .ref r])) := Same.upd nt
      have sm3 := sm2.trans smt
      have hp3 := smt _ _ hp2
      have ro3 := ro.same smt
      refine ⟨t, _, rfl, SqT.of upd_same, rfl, _, _, rfl, _, _, rfl, ⟨r, _, rfl, sm3.tup (hds k r e hr0 he), rfl, _, _, rfl, _, _, rfl, rfl, rfl, ?_⟩⟩
      generalize upd H2 t (.tup [.int (k : Nat), .ref r]) = H4 at sm3 hp3 ro3 smt
      obtain ⟨q1, hq1⟩ := get_of hl elt.1
      obtain ⟨q2, hq2⟩ := get_of hl elt.2
      obtain ⟨ts1, g1, g2, g3⟩ := ro3 _ _ hq1
      refine ⟨_, rfl, _, rfl, _, _, _, V.ref q1, rfl, rfl, SqL.of hp3, atI_nat (v := V.ref q1) (by rw [List.getElem?_map, hq1]; rfl), .inl ⟨rfl, _, SqL.of g1⟩, _, rfl, _, rfl, by show 2 ≤ sizeLine; decide, fun t1 nt1 => ?_⟩
      refine ⟨q1, _, _, rfl, rfl, by rw [upd_ne (ne_of_none g1 nt1)]; exact g1, by rw [List.length_map, g2]; exact small3k (by have := le e.1; omega), ?_⟩
      have ro4 := ro3.push nd hq1 nt1 (d := e.2) (y := k) g1
      have nq1 : H q1 = none := (hx q1 (List.mem_of_getElem? hq1)).1
      have nq2 : H q2 = none := (hx q2 (List.mem_of_getElem? hq2)).1
      have pq1 : p ≠ q1 := fun z => pps (z ▸ List.mem_of_getElem? hq1)
      have pq2 : p ≠ q2 := fun z => pps (z ▸ List.mem_of_getElem? hq2)
      have sm4 : Same H (upd (upd H4 t1 (.tup [.int (e.2 : Nat), .int (k : Nat)])) q1 (.lst (ts1.map V.ref ++ [V.ref t1]))) := (sm3.trans (Same.upd nt1)).at nq1
      have hp4 : (upd (upd H4 t1 (.tup [.int (e.2 : Nat), .int (k : Nat)])) q1 (.lst (ts1.map V.ref ++ [V.ref t1]))) p = some (.lst (ps.map V.ref)) := by
        rw [upd_ne pq1, upd_ne (ne_of_none hp3 nt1)]
        exact hp3
      generalize (upd (upd H4 t1 (.tup [.int (e.2 : Nat), .int (k : Nat)])) q1 (.lst (ts1.map V.ref ++ [V.ref t1]))) = H5 at ro4 sm4 hp4
      obtain ⟨ts2, f1, f2, f3⟩ := ro4 _ _ hq2
      have f2' : ts2.length = (ex e.2).length := by
        rw [f2]
        simp only [if_neg ene.symm]
      refine ⟨_, rfl, _, rfl, _, _, _, V.ref q2, rfl, rfl, SqL.of hp4, atI_nat (v := V.ref q2) (by rw [List.getElem?_map, hq2]; rfl), .inl ⟨rfl, _, SqL.of f1⟩, _, rfl, _, rfl, by show 2 ≤ sizeLine; decide, fun t2 nt2 => ?_⟩
      refine ⟨q2, _, _, rfl, rfl, by rw [upd_ne (ne_of_none f1 nt2)]; exact f1, by rw [List.length_map, f2']; exact small3k (by have := le e.2; omega), ?_⟩
      refine ⟨_, _, _, _, _, rfl, (sm4.trans (Same.upd nt2)).at nq2, by rw [upd_ne pq2, upd_ne (ne_of_none hp4 nt2)]; exact hp4, ro4.push nd hq2 nt2 (d := e.1) (y := k) f1, fun x d y => ?_, fun x => ?_, fun x => ?_⟩
      · exact ex_memA he ene mem x d y
      · have := le x
        by_cases e2 : x = e.2
        · simp only [e2, if_true, if_neg ene.symm]
          have := le e.2
          simp; omega
        · by_cases e1 : x = e.1
          · simp only [e1, if_true, if_neg ene]
            have := le e.1
            simp; omega
          · simp only [if_neg e1, if_neg e2]
            omega
      · have nk : ∀ y, (y, k) ∉ ex x := fun y z => by
          have := ((mem x k y).mp z).1
          omega
        have sn : ∀ y, (ex x ++ [(y, k)]).Nodup := fun y => nd_snoc (nod x) (nk y)
        by_cases e2 : x = e.2
        · have e1 : ¬ x = e.1 := fun z => ene (z.symm.trans e2)
          simp only [if_pos e2, if_neg e1]
          exact sn _
        · simp only [if_neg e2]
          by_cases e1 : x = e.1
          · simp only [if_pos e1]
            exact sn _
          · simp only [if_neg e1]
            exact nod x
    · rintro σ H2 ⟨ex, y2, y3, y4, y5, rfl, sm2, hp2, ro, mem, le, nod⟩
      refine ⟨_, rfl, q H2 p ps ex sm2 np hp2 hl ro (fun x d y => ?_) nod fun x m => (hx x m).1⟩
      rw [mem x d y]
      refine ⟨fun h => h.2, fun h => ⟨?_, h⟩⟩
      rw [List.length_map, hlen]
      rcases h with h | h
      · exact get_lt h
      · exact get_lt h
end
end K5

namespace K5
open PySem PySem.Spec PyProof.Rows L2
theorem Dfs.front {n ds shut kl ws here} (h : Dfs n ds shut kl (here :: ws)) : DfsIn n ds shut kl ws here [] :=
  ⟨h.nd, h.lt, fun x m => h.sub x (List.mem_cons_of_mem _ m), fun x m nw ne d y j ns => h.cl x m (fun q => by
    rcases List.mem_cons.mp q with q | q
    · exact ne q
    · exact nw q) d y j ns, h.sub here List.mem_cons_self, fun d y m => nomatch m⟩
/-- the rooms that can be reached -/
structure RegSet (ds : List (Nat × Nat)) (shut : List Nat) (room : Nat) (L : List Nat) : Prop where
  nd : L.Nodup
  mem : ∀ x, x ∈ L ↔ ∃ p, Walk ds room p x ∧ ∀ d ∈ p, d ∉ shut
theorem Reg.set {n ds shut room ks} (h : Reg n ds shut room ks) : RegSet ds shut room (ks.map Prod.fst) := ⟨h.df.nd, h.mem⟩
theorem RegSet.perm {ds shut room L M} (a : RegSet ds shut room L) (b : RegSet ds shut room M) : L.Perm M := nodup_perm a.nd b.nd fun x => (a.mem x).trans (b.mem x).symm
theorem RegSet.of_perm {ds shut room L M} (a : RegSet ds shut room L) (p : M.Perm L) : RegSet ds shut room M := ⟨p.nodup_iff.mpr a.nd, fun x => p.mem_iff.trans (a.mem x)⟩
theorem le_unique : ∀ (l m : List Nat), l.Perm m → l.Pairwise (· ≤ ·) → m.Pairwise (· ≤ ·) → l = m
  | [], m, p, _, _ => p.symm.eq_nil.symm
  | a :: r, [], p, _, _ => by have := p.eq_nil; cases this
  | a :: r, b :: s, p, h1, h2 => by
    obtain ⟨h1a, h1b⟩ := List.pairwise_cons.mp h1
    obtain ⟨h2a, h2b⟩ := List.pairwise_cons.mp h2
    have e : a = b := by
      rcases List.mem_cons.mp (p.mem_iff.mp List.mem_cons_self) with e | q
      · exact e
      · rcases List.mem_cons.mp (p.symm.mem_iff.mp List.mem_cons_self) with e | q2
        · exact e.symm
        · have := h1a b q2
          have := h2a a q
          omega
    subst e
    rw [le_unique r s ((List.perm_cons a).mp p) h1b h2b]
def spRegL (K : PySem.W.Frag) : Sp := fun vs H Q _ => ∃ (a s : Addr) (p n : Nat) (ds : List (Nat × Nat)) (S : S2), vs = [.ref a, .ref s, .int (p : Int)] ∧ HouseAt K H a ds ∧ Tree n ds ∧ n ≤ 60 ∧ StateAt K H s S ∧ StOk n ds S ∧ p < S.1.length ∧
  ∀ (H' : Hp) (q : Addr) (L : List Nat), Same H H' → H q = none → H' q = some (.lst (nv L)) → RegSet ds (barr S p) (S.1.getD p 0) L → L.Pairwise (· ≤ ·) → Q (.ref q) H'
section
variable {P : Program} {w : World} {K : PySem.W.Frag}
      {mg : Str → Option Value} {base : Heap}
theorem inV_nv (x : Nat) (l : List Nat) : inV (.int (x : Int)) (nv l) = decide (x ∈ l) := by
  induction l with
  | nil => rfl
  | cons a r ih =>
    show (((a : Int) == (x : Int)) || inV (.int (x : Int)) (nv r)) = _
    rw [ih]
    by_cases h : x = a
    · subst h
      simp
    · have e1 : ((a : Int) == (x : Int)) = false := beq_eq_false_iff_ne.mpr (by omega)
      rw [e1]
      simp [h]
theorem flat_nv (l : List Nat) : (nv l).all flatV = true := by
  induction l with
  | nil => rfl
  | cons a r ih => exact ih
theorem _root_.L2.But.tupN {K : PySem.W.Frag} {H H' : Hp} {g a : Addr} {xs : List V} (e : But g H H') (ng : H g = none) (h : SqT K H a xs) : SqT K H' a xs := by
  rcases h with (z | ⟨o, z⟩) | z
  · exact .inl (.inl (e _ _ (ne_of_none z ng) z))
  · exact .inl (.inr ⟨o, e _ _ (ne_of_none z ng) z⟩)
  · exact .inr z
end
end K5

namespace K5
open PySem PySem.Spec PyProof.Rows L2
/-- lists of rooms, by their addresses -/
def ListsAt (H : Hp) (q : Addr) (Ls : List (List Nat)) : Prop := ∃ rs : List Addr, H q = some (.lst (rs.map V.ref)) ∧ rs.length = Ls.length ∧ ∀ (i : Nat) (r : Addr) (L : List Nat), rs[i]? = some r → Ls[i]? = some L → r ≠ q ∧ H r = some (.lst (nv L))
theorem ListsAt.same {H H' : Hp} {q Ls} (h : ListsAt H q Ls) (s : Same H H') : ListsAt H' q Ls := by
  obtain ⟨rs, h1, h2, h3⟩ := h
  exact ⟨rs, s _ _ h1, h2, fun i r L a b => ⟨(h3 i r L a b).1, s _ _ (h3 i r L a b).2⟩⟩
/-- the regions of the first k people -/
structure RegsL (ds : List (Nat × Nat)) (S : S2) (k : Nat) (Ls : List (List Nat)) : Prop where
  len : Ls.length = k
  at_ : ∀ (p : Nat) (L : List Nat), Ls[p]? = some L → RegSet ds (barr S p) (S.1.getD p 0) L
theorem RegsL.perm {n ds S k Ls Ms} (a : Regs n ds S k Ls) (b : RegsL ds S k Ms) : Ls.flatten.Perm Ms.flatten :=
  flat_perm Ls Ms (a.len.trans b.len.symm) fun p L M h1 h2 => by
    obtain ⟨ks, r1, p1⟩ := a.at_ p L h1
    exact p1.trans (r1.set.perm (b.at_ p M h2))
theorem RegsL.snoc {ds S k Ls L} (a : RegsL ds S k Ls) (r : RegSet ds (barr S k) (S.1.getD k 0) L) : RegsL ds S (k + 1) (Ls ++ [L]) := by
  refine ⟨by rw [List.length_append, a.len]; rfl, fun p M h => ?_⟩
  by_cases c : p < Ls.length
  · rw [List.getElem?_append_left c] at h
    exact a.at_ p M h
  · have := get_lt h
    rw [List.length_append, List.length_singleton] at this
    have e : p = k := by have := a.len; omega
    subst e
    rw [List.getElem?_append_right (by rw [a.len]; exact Nat.le_refl _), a.len, Nat.sub_self] at h
    cases h
    exact r
/-- the inner lists are new -/
def FrL (B H : Hp) (q : Addr) : Prop := ∃ rs : List Addr, H q = some (.lst (rs.map V.ref)) ∧ ∀ r ∈ rs, B r = none
theorem FrL.same {B H H' : Hp} {q : Addr} (h : FrL B H q) (s : Same H H') : FrL B H' q := by
  obtain ⟨rs, a, b⟩ := h
  exact ⟨rs, s _ _ a, b⟩
theorem FrL.base {B B' H : Hp} {q : Addr} (h : FrL B' H q) (s : Same B B') : FrL B H q := by
  obtain ⟨rs, a, b⟩ := h
  exact ⟨rs, a, fun r hr => s.free (b r hr)⟩
theorem FrL.snoc {B H H' : Hp} {q r : Addr} {xs : List V} (h : FrL B H q) (hx : H q = some (.lst xs)) (hr : B r = none) : FrL B (upd H' q (.lst (xs ++ [.ref r]))) q := by
  obtain ⟨rs, a, b⟩ := h
  rw [hx] at a
  have a := HO.lst.inj (Option.some.inj a)
  refine ⟨rs ++ [r], by rw [upd_same, a, List.map_append]; rfl, fun y hy => ?_⟩
  rcases List.mem_append.mp hy with hy | hy
  · exact b y hy
  · rw [List.mem_singleton.mp hy]
    exact hr
def spRegsL (K : PySem.W.Frag) : Sp := fun vs H Q _ => ∃ (a s : Addr) (n : Nat) (ds : List (Nat × Nat)) (S : S2), vs = [.ref a, .ref s] ∧ HouseAt K H a ds ∧ Tree n ds ∧ n ≤ 60 ∧ StateAt K H s S ∧ StOk n ds S ∧
  ∀ (H' : Hp) (q : Addr) (Ls : List (List Nat)), Same H H' → H q = none → ListsAt H' q Ls → RegsL ds S S.1.length Ls → (∀ L ∈ Ls, L.Pairwise (· ≤ ·)) → FrL H H' q → Q (.ref q) H'
section
variable {P : Program} {w : World} {K : PySem.W.Frag}
      {mg : Str → Option Value} {base : Heap}
end
end K5

namespace PySem
open Sem (wp)
/-! own rule: sum(lists, []) joins lists -/
section
variable {prog : Program} {w : World} {A : Around} {R : Result → Shared → Prop} {I l : Addr} {its : Array Value} {h₀ : Heap} {Ls : List (List Value)}
theorem args_sum2 (a b : Value) : argsOk "sum" ⟨[a, b], []⟩ := by unfold argsOk; kernel_rfl
theorem codeAny_sum_lists (hh : A.handled = none) (hne : l ≠ I)
    (hv : ∀ (i : Nat) (v : Value), its[i]? = some v → ∃ (r : Addr) (xs : List Value) (m : Nat), v = Value.ref r ∧ Ls[i]? = some xs ∧ h₀.get? r = some { cls := .type "list", data := .seq xs.toArray m }) (hn : Ls.length = its.size) (S : Addr) (hSI : S ≠ I) (hSl : S ≠ l)
    (h0S : h₀.get? S = none) (h0I : h₀.get? I = none) (n₀ : Nat) :
    ∀ (k i : Nat) (s : Shared) (tot : Addr) (acc : List Value) (c m : Nat), its.size - i = k → i ≤ its.size → n₀ ≤ s.heap.objs.size → s.heap.IsListIter I l i → s.heap.IsList l its → (∀ b o, h₀.get? b = some o → s.heap.get? b = some o) →
    s.heap.get? S = some { cls := .type "list", dict := none, data := .seq #[.ref tot] c, slots := #[] } → s.heap.get? tot = some { cls := .type "list", data := .seq acc.toArray m } → tot ≠ S → tot ≠ I → acc.length + (Ls.drop i).flatten.length ≤ sizeLine →
    (∀ (h' : Heap) (t : Addr) (m' : Nat), (∀ b o, h₀.get? b = some o → h'.get? b = some o) → (n₀ ≤ tot ∨ i < its.size → n₀ ≤ t) → h'.get? t = some { cls := .type "list", data := .seq (acc ++ (Ls.drop i).flatten).toArray m' } → R (.ok (.ret (.ref t))) { s with heap := h' }) →
    codeAny (model prog w) A (.builtin "sum.loop" ⟨[.ref I, .ref S, rawInt 2, rawInt 0], []⟩) R s := by
  intro k
  induction k with
  | zero =>
    intro i s tot acc c m hk hi hn0 hit hl hold hS ht htS htI hlen hR
    have hin : i = its.size := by omega
    subst hin
    refine codeAny_builtin F.entry_sum_loop ?_
    rw [Around.under_plainId F.plain_sum_loop _]
    show wpAny _ A.in1 (seqItems?
          (.ref S) >>= _) _ _ s
    refine wpAny_bind (wpAny_seqItems hS rfl ?_)
    show wpAny _ A.in1 (tryCatch (pyNext
          (.ref I)) _ >>= _) _ _ s
    refine wpAny_bind (wpAny_tryCatch (wpAny_pyNext_list_end (A := A.in1) hh hit hl (by simp) fun h' he => ?_))
    refine wpAny_pure (hR h' tot m (fun b o e => he b o (fun z => by rw [z, h0I] at e; cases e) (hold b o e)) (fun z => z.elim id fun z => absurd z (Nat.lt_irrefl _)) ?_)
    have e : Ls.drop its.size = [] := by rw [← hn]; exact List.drop_length
    rw [e, List.flatten_nil, List.append_nil]
    exact he tot _ htI ht
  | succ k ih =>
    intro i s tot acc c m hk hi hn0 hit hl hold hS ht htS htI hlen hR
    have hlt : i < its.size := by omega
    obtain ⟨r, xs, m2, hv1, hv2, hv3⟩ := hv i its[i] (by simp [hlt])
    have hdrop : Ls.drop i = xs :: Ls.drop (i + 1) := by
      rw [List.drop_eq_getElem_cons (by omega)]
      congr 1
      exact Option.some.inj ((List.getElem?_eq_getElem (by omega)).symm.trans hv2)
    rw [hdrop, List.flatten_cons, List.length_append] at hlen
    refine codeAny_builtin F.entry_sum_loop ?_
    rw [Around.under_plainId F.plain_sum_loop _]
    show wpAny _ A.in1 (seqItems?
          (.ref S) >>= _) _ _ s
    refine wpAny_bind (wpAny_seqItems hS rfl ?_)
    show wpAny _ A.in1 (tryCatch (pyNext
          (.ref I)) _ >>= _) _ _ s
    refine wpAny_bind (wpAny_tryCatch (wpAny_pyNext_list_item hit hl (x := its[i]) (by simp [hlt]) fun h1 hit1 sb => ?_))
    rw [hv1]
    have hl1 : h1.IsList l its := hl.extBut sb.extBut hne
    have old1 : ∀ b o, b ≠ I → s.heap.get? b = some o → h1.get? b = some o := fun b o hb e => (sb.2 b hb).trans e
    have hS1 := old1 S _ hSI hS
    have ht1 := old1 tot _ htI ht
    have hr1 : h1.get? r = some _ := old1 r _ (fun z => by rw [z, h0I] at hv3; cases hv3) (hold _ _ hv3)
    show wpAny _ A.in1 ((holding [Value.ref r] (binaryOp .Add (.ref tot) (.ref r))).attempt >>= _) _ _ _
    refine wpAny_bind (wpAny_attempt (wpAny_holding (P.add_list ht1 hr1 ?_ (by rw [List.size_toArray, List.size_toArray]; omega))))
    have hSlt : S < h1.objs.size := Heap.lt_size hS1
    have hIlt : I < h1.objs.size := by obtain ⟨o, e, _⟩ := id hit1; exact Heap.lt_size e
    have hllt : l < h1.objs.size := by obtain ⟨o, e, _⟩ := id hl1; exact Heap.lt_size e
    have ea : acc.toArray ++ xs.toArray = (acc ++ xs).toArray := by simp
    rw [ea]
    have hS2 : (h1.push { cls := .type "list", data := .seq (acc ++ xs).toArray }).get? S = some _ := Heap.get?_push_of_some _ hS1
    show wpAny _ A.in1 (updateSeq S (fun _ => #[.ref h1.objs.size]) >>= _) _ _ _
    refine wpAny_bind (wpAny_updateSeq
          hS2 rfl ?_)
    have hS3 := Heap.get?_update_self (Obj.mapSeq fun _ => #[Value.ref h1.objs.size]) hS2 rfl
    refine wpAny_bind (wpAny_letGo ?_)
    refine wpAny_bind (wpAny_updateSeq hS3 rfl (wpAny_pure ⟨plainId_quiet F.plain_sum_loop _, ?_⟩))
    have keep : ∀ b o, b ≠ S → (h1.push { cls := .type "list", data := .seq (acc ++ xs).toArray }).get? b = some o → (((h1.push { cls := .type "list", data := .seq (acc ++ xs).toArray }).update S (Obj.mapSeq fun _ => #[Value.ref h1.objs.size])).update S (Obj.mapSeq fun _ => #[Value.ref h1.objs.size])).get? b = some o :=
      fun b o hb e => (Heap.get?_update_other _ _ (Ne.symm hb)).trans
            ((Heap.get?_update_other _ _ (Ne.symm hb)).trans e)
    have neS : h1.objs.size ≠ S := Nat.ne_of_gt hSlt
    have neI : h1.objs.size ≠ I := Nat.ne_of_gt hIlt
    have e1 : h1.objs.size = s.heap.objs.size := sb.1
    have esz : (((h1.push { cls := .type "list", data := .seq (acc ++ xs).toArray }).update S (Obj.mapSeq fun _ => #[Value.ref h1.objs.size])).update S (Obj.mapSeq fun _ => #[Value.ref h1.objs.size])).objs.size = h1.objs.size + 1 := by
      rw [Heap.size_update, Heap.size_update, Heap.size_push]
    refine ih (i + 1) _ h1.objs.size (acc ++ xs) _ 0 (by omega) hlt (Nat.le_trans (by omega : n₀ ≤ h1.objs.size + 1) (Nat.le_of_eq esz.symm)) (hit1.at fun o e => keep I o (Ne.symm hSI) (Heap.get?_push_of_some _ e)) (hl1.at fun o e => keep l o (Ne.symm hSl) (Heap.get?_push_of_some _ e)) (fun b o e => ?_)
      (Heap.get?_update_self _ hS3 rfl) (keep _ _ neS (Heap.get?_push_size _ rfl)) neS neI (by rw [List.length_append]; omega) fun h' t m' hk' hf ht' => ?_
    · refine keep b o (fun z => by rw [z, h0S] at e; cases e) (Heap.get?_push_of_some _ (old1 b o (fun z => by rw [z, h0I] at e; cases e) (hold b o e)))
    · refine hR h' t m' hk' (fun _ => hf (.inl (by omega : n₀ ≤ h1.objs.size))) ?_
      · rw [hdrop, List.flatten_cons, ← List.append_assoc]
        exact ht'
end
section
variable {prog : Program} {w : World} {A : Around} {E : Value → Shared → Prop} {s : Shared} {l e : Addr} {its : Array Value} {Ls : List (List Value)}
theorem call_sum_lists {Q : Value → Shared → Prop} (hh : A.handled = none) (hl : s.heap.IsList l its)
    (hv : ∀ (i : Nat) (v : Value), its[i]? = some v → ∃ (r : Addr) (xs : List Value) (m : Nat), v = Value.ref r ∧ Ls[i]? = some xs ∧ s.heap.get? r = some { cls := .type "list", data := .seq xs.toArray m }) (hn : Ls.length = its.size) (hpos : 0 < its.size)
    {me : Nat} (he : s.heap.get? e = some { cls := .type "list", data := .seq #[] me }) (hlen : Ls.flatten.length ≤ sizeLine)
    (h : ∀ (h' : Heap) (t : Addr) (m' : Nat), (∀ b o, s.heap.get? b = some o → h'.get? b = some o) → s.heap.objs.size ≤ t → h'.get? t = some { cls := .type "list", data := .seq Ls.flatten.toArray m' } → Q (.ref t) { s with heap := h' }) :
    wpAny (model prog w) A (call (.builtin "sum") [.ref l, .ref e]) Q E s := by
  refine call_function_tree F.kind_sum F.plain_sum F.entry_sum (args_sum2 _ _) ?_
  unfold Builtin.«sum»
  simp only [List.length_cons,
        List.length_nil]
  rw [if_neg (by decide)]
  refine wpAny_bind (wpAny_of_eq (show Builtin.Builtins.bindParams "sum" ["start"] 0 ⟨[.ref e], []⟩ = pure [some (.ref e)] from rfl) ?_)
  have hlt : l < s.heap.objs.size := match hl with | ⟨_, z, _⟩ => Heap.lt_size z
  have helt : e < s.heap.objs.size
        := Heap.lt_size he
  refine wpAny_bind (wpAny_pyIter_list hl ?_)
  refine wpAny_bind (wpAny_pure ?_)
  have he1 : (s.heap.push { cls := .type "list_iterator", data := .fields #[.ref l, .int 0 0] }).get? e = some _ := Heap.get?_push_of_some _ he
  have ty : ∀ s' : Shared, s'.heap.get? e = some { cls := .type "list", data := .seq #[] me } → s'.TypeIs (.ref e) "list" := fun s' q => ⟨_, q, rfl⟩
  simp only [List.forIn_cons, List.forIn_nil]
  refine wpAny_bind (wpAny_bind (wpAny_bind (wpAny_isInstance (T := "list") (b := false) (ty _ he1) F.sub_list_str ?_)))
  simp only [Bool.false_eq_true, if_false]
  refine wpAny_pure (wpAny_bind (wpAny_bind (wpAny_isInstance (T := "list") (b := false) (ty _ he1) F.sub_list_bytes ?_)))
  simp only [Bool.false_eq_true, if_false]
  refine wpAny_pure (wpAny_bind (wpAny_bind (wpAny_isInstance (T := "list") (b := false) (ty _ he1) F.sub_list_bytearray ?_)))
  simp only [Bool.false_eq_true, if_false]
  refine wpAny_pure (wpAny_pure ?_)
  refine wpAny_bind (wpAny_newObj_type ?_)
  have free : ∀ b, s.heap.objs.size ≤ b → s.heap.get? b = none := fun b hb => by
    cases q : s.heap.get? b with
    | none => rfl
    | some o => exact absurd (Heap.lt_size q) (Nat.not_lt.mpr hb)
  have sz1 : (s.heap.push { cls := .type "list_iterator", data := .fields #[.ref l, .int 0 0] }).objs.size = s.heap.objs.size + 1 := Heap.size_push _ _
  have e0 : Ls.drop 0 = Ls := rfl
  refine wpAny_pure ⟨plainId_quiet F.plain_sum_loop _, codeAny_sum_lists (A := A) (h₀ := s.heap) (Ls := Ls) hh (Nat.ne_of_lt hlt) hv hn _ (by rw [sz1]; exact Nat.succ_ne_self _) (by rw [sz1]; exact Nat.ne_of_gt (Nat.lt_succ_of_lt hlt)) (free _ (by rw [sz1]; exact Nat.le_succ _)) (free _ (Nat.le_refl _)) s.heap.objs.size its.size 0 _ e [] 0 me rfl (Nat.zero_le _)
    (by rw [Heap.size_push, sz1]; exact Nat.le_trans (Nat.le_succ _) (Nat.le_succ _)) ⟨_, Heap.get?_push_of_some _ (Heap.get?_push_size _ rfl), rfl, rfl⟩ ((hl.push _).push _) (fun b o q => Heap.get?_push_of_some _ (Heap.get?_push_of_some _ q)) (Heap.get?_push_size _ rfl) (Heap.get?_push_of_some _ he1)
    (by rw [sz1]; exact Nat.ne_of_lt (Nat.lt_succ_of_lt helt)) (Nat.ne_of_lt helt) (by rw [e0, List.length_nil, Nat.zero_add]; exact hlen) fun h' t m' k1 k2 k3 => ?_⟩
  exact h h' t m' k1 (k2 (.inr hpos)) k3
end
end PySem

namespace L2
open PySem PySem.Spec PyProof.Rows
/-- sum(lists, []): the lists joined -/
def rSumL (K : PySem.W.Frag) : List V → Hp → VK → Prop := fun vs H Q => ∃ (q e : Addr) (rs : List Addr) (Ls : List (List V)), vs = [V.ref q, V.ref e] ∧ H q = some (.lst (rs.map V.ref)) ∧ H e = some (.lst []) ∧ rs.length = Ls.length ∧ 0 < rs.length ∧
  (∀ (i : Nat) (r : Addr) (L : List V), rs[i]? = some r → Ls[i]? = some L → H r = some (.lst L)) ∧ Ls.flatten.length ≤ sizeLine ∧ ∀ p, H p = none → Q (.ref p) (upd H p (.lst Ls.flatten))
theorem raw_lists {X : Cx} {pins : List (Addr × Obj)} {σ : St} {H : Hp} {s : Shared} (I : Inv X pins σ H s) : ∀ (rs : List Addr) (Ls : List (List V)), rs.length = Ls.length → (∀ (i : Nat) (r : Addr) (L : List V), rs[i]? = some r → Ls[i]? = some L → H r = some (.lst L)) →
    ∃ Rs : List (List Value), Rs.length = rs.length ∧ Vals Ls.flatten Rs.flatten ∧ ∀ (i : Nat) (r : Addr), rs[i]? = some r → ∃ (xs : List Value) (m : Nat), Rs[i]? = some xs ∧ s.heap.get? r = some { cls := .type "list", data := .seq xs.toArray m }
  | [], [], _, _ => ⟨[], rfl, .nil, fun i r h => by simp at h⟩
  | [], _ :: _, h, _ => by simp at h
  | _ :: _, [], h, _ => by simp at h
  | r :: rs, L :: Ls, h, hl => by
    obtain ⟨Rs, h1, h2, h3⟩ := raw_lists I rs Ls (by simpa using h) fun i r' L' a b => hl (i + 1) r' L' a b
    obtain ⟨z, its, n, rv, hlen, e⟩ := I.lstM (hl 0 r L rfl rfl)
    refine ⟨its :: Rs, by simp [h1], ?_, fun i r' hr => ?_⟩
    · rw [List.flatten_cons, List.flatten_cons]
      exact rv.append h2
    · cases i with
      | zero =>
        cases hr
        exact ⟨its, n, rfl, e⟩
      | succ i => exact h3 i r' hr
theorem cr_sumL {X : Cx} (hc : X.calm = true) : CallR X (.builtin "sum") (rSumL X.K) := by
  rintro pins s σ H vs us Q I r ⟨q, e, rs, Ls, rfl, hq, he, hlen, hpos, hl, hsz, hQ⟩
  cases r with
  | cons r1 r =>
    cases r with
    | cons r2 r =>
      cases r
      cases r1
      cases r2
      obtain ⟨z, its, n, rv, hlen1, eq⟩ := I.lstM hq
      obtain ⟨z2, its2, n2, rv2, hlen2, ee⟩ := I.lstM he
      cases rv2
      obtain ⟨Rs, h1, h2, h3⟩ := raw_lists I rs Ls hlen hl
      have hits : ∀ (i : Nat) (v : Value), its[i]? = some v → ∃ r, v = Value.ref r ∧ rs[i]? = some r := by
        intro i v hv
        have hi : i < its.length := (List.getElem?_eq_some_iff.mp hv).1
        have hn' : its.length = rs.length := by rw [← hlen1, List.length_map]
        have hr : rs[i]? = some (rs[i]'(by omega)) := List.getElem?_eq_getElem (by omega)
        obtain ⟨u, hu, ru⟩ := rv.get (i := i) (x := .ref (rs[i]'(by omega))) (by rw [List.getElem?_map, hr]; rfl)
        rw [hv] at hu
        cases hu
        exact ⟨_, ru, hr⟩
      have hn : its.length = rs.length := by rw [← hlen1, List.length_map]
      refine call_sum_lists (its := its.toArray) (Ls := Rs) (I.ok.hd hc) ⟨_, eq, rfl, _, rfl⟩ (fun i v hv => ?_) (by rw [List.size_toArray, hn, h1]) (by rw [List.size_toArray, hn]; exact hpos) ee (by rw [← h2.length]; exact hsz) fun h' t m' k1 k2 k3 => ?_
      · obtain ⟨r, rfl, hr⟩ := hits i v (by simpa using hv)
        obtain ⟨xs, m, a, b⟩ := h3 i r hr
        exact ⟨r, xs, m, rfl, a, b⟩
      · exact ⟨.ref t, upd H t (.lst Ls.flatten), I.laid (t' := s.toks) k1 k2 ⟨hsz, Rs.flatten, m', h2, k3⟩, rfl, hQ t (I.hok.fresh k2)⟩
end L2

namespace K5
open PySem PySem.Spec PyProof.Rows L2
theorem nv_flat : ∀ Ls : List (List Nat), (Ls.map nv).flatten = nv Ls.flatten
  | [] => rfl
  | L :: Ls => by
    rw [List.map_cons, List.flatten_cons, List.flatten_cons, nv_flat Ls]
    unfold nv
    rw [List.map_append]
def spAre (K : PySem.W.Frag) : Sp := fun vs H Q _ => ∃ (q : Addr) (Ls : List (List Nat)), vs = [.ref q] ∧ ListsAt H q Ls ∧ 0 < Ls.length ∧ Ls.flatten.length ≤ 900 ∧ ∀ H', Same H H' → Q (.bl (decide Ls.flatten.Nodup)) H'
section
variable {P : Program} {w : World} {K : PySem.W.Frag}
      {mg : Str → Option Value} {base : Heap}
end
end K5

namespace K5
open PySem PySem.Spec PyProof.Rows L2
theorem catA_of {K : PySem.W.Frag} {H : Hp} {a b : Addr} {xs ys : List V} {Q : VK} (h1 : SqT K H a xs) (h2 : SqT K H b ys) (hl : xs.length + ys.length ≤ sizeLine) (q : ∀ (H' : Hp) (p : Addr), Same H H' → SqT K H' p (xs ++ ys) → Q (.ref p) H') :
    rCatA K (.ref a) (.ref b) H Q := by
  refine ⟨a, b, xs, ys, rfl, rfl, h1, h2, hl, fun e => ?_, fun _ e => ?_, fun _ _ p np => q _ p (Same.upd np) (SqT.of upd_same)⟩
  · refine q H b (Same.refl _) ?_
    rw [e, List.nil_append]
    exact h2
  · refine q H a (Same.refl _) ?_
    rw [e, List.append_nil]
    exact h1
theorem nv_app (a b : List Nat) : nv a ++ nv b = nv (a ++ b) := by
  unfold nv
  rw [List.map_append]
theorem set_cut {α : Type} : ∀ (l : List α) (k : Nat) (x : α), k < l.length → l.take k ++ [x] ++ l.drop (k + 1) = l.set k x
  | [], k, x, h => by simp at h
  | a :: r, 0, x, h => rfl
  | a :: r, k + 1, x, h => by
    have := set_cut r k x (by simpa using h)
    show a :: (r.take k ++ [x] ++ r.drop (k + 1)) = a :: r.set k x
    rw [this]
theorem nv_cut (L : List Nat) (k x : Nat) (h : k < L.length) : nv (L.take k) ++ [V.int (x : Int)] ++ nv (L.drop (k + 1)) = nv (L.set k x) := by
  rw [← set_cut L k x h, ← nv_app, ← nv_app]
  rfl
theorem cut_to {L : List Nat} {k : Nat} (h : k < L.length) : cutV (nv L) none (some (k : Int)) = nv (L.take k) ∧ ¬ (HT.sIx (nv L).length 0 none = 0 ∧ HT.sIx (nv L).length (nv L).length (some (k : Int)) = (nv L).length) := by
  unfold cutV
  rw [HT.sIx_none, HT.sIx_nat, nv_len, Nat.min_eq_left (Nat.le_of_lt h)]
  refine ⟨?_, fun z => by omega⟩
  unfold nv
  rw [List.drop_zero, Nat.sub_zero, List.map_take]
theorem cut_from {L : List Nat} {k : Nat} (h : k < L.length) : cutV (nv L) (some ((k : Int) + 1)) none = nv (L.drop (k + 1)) ∧ ¬ (HT.sIx (nv L).length 0 (some ((k : Int) + 1)) = 0 ∧ HT.sIx (nv L).length (nv L).length none = (nv L).length) := by
  unfold cutV
  rw [show (k : Int) + 1 = ((k + 1 : Nat) : Int) by omega, HT.sIx_none, HT.sIx_nat, nv_len, Nat.min_eq_left h]
  refine ⟨?_, fun z => by omega⟩
  unfold nv
  rw [← List.map_drop, List.take_of_length_le]
  rw [List.length_map, List.length_drop]
  exact Nat.le_refl _
abbrev Q4 := Nat × Nat × Nat × Nat
def tQ (m : Q4) : List V := [.int (m.1 : Int), .int (m.2.1 : Int), .int (m.2.2.1 : Int), .int (m.2.2.2 : Int)]
def stepS (S : S2) (m : Q4) : S2 := (S.1.set m.1 m.2.2.1, S.2.set m.2.2.2 m.1)
def spAfter (K : PySem.W.Frag) : Sp := fun vs H Q _ => ∃ (s t : Addr) (S : S2) (m : Q4), vs = [.ref s, .ref t] ∧ StateAt K H s S ∧ H t = some (.tup (tQ m)) ∧ m.1 < S.1.length ∧ m.2.2.2 < S.2.length ∧ S.1.length ≤ 1000 ∧ S.2.length ≤ 1000 ∧
  ∀ (H' : Hp) (q : Addr), Same H H' → StateAt K H' q (stepS S m) → Q (.ref q) H'
section
variable {P : Program} {w : World} {K : PySem.W.Frag}
      {mg : Str → Option Value} {base : Heap}
end
end K5

namespace K5
open PySem PySem.Spec PyProof.Rows L2
/-- a move that the situation allows -/
def QOk (ds : List (Nat × Nat)) (S : S2) (m : Q4) : Prop := S.1[m.1]? = some m.2.1 ∧ Joins ds m.2.2.2 m.2.1 m.2.2.1 ∧ S.2[m.2.2.2]? ≠ some m.1
def QL (H : Hp) (ts : List Addr) (qs : List Q4) : Prop := ts.length = qs.length ∧ ∀ (i : Nat) (t : Addr) (m : Q4), ts[i]? = some t → qs[i]? = some m → H t = some (.tup (tQ m))
theorem QL.same {H H' ts qs} (h : QL H ts qs) (s : Same H H') : QL H' ts qs := ⟨h.1, fun i t m x y => s _ _ (h.2 i t m x y)⟩
theorem QL.push {H : Hp} {ts : List Addr} {qs : List Q4} {p t : Addr} {m : Q4} {xs ys : List V} (h : QL H ts qs) (hp : H p = some (.lst xs)) (nt : H t = none) :
    QL (upd (upd H t (.tup (tQ m))) p (.lst ys)) (ts ++ [t]) (qs ++ [m]) := by
  have ntp : t ≠ p := (ne_of_none hp nt).symm
  refine ⟨by rw [List.length_append, List.length_append, h.1]; rfl, fun i a b x y => ?_⟩
  by_cases hi : i < ts.length
  · rw [List.getElem?_append_left hi] at x
    rw [List.getElem?_append_left (by rw [← h.1]; exact hi)] at y
    have q := h.2 i a b x y
    rw [upd_ne (ne_lt hp q), upd_ne (ne_of_none q nt)]
    exact q
  · rw [List.getElem?_append_right (by omega)] at x
    rw [List.getElem?_append_right (by rw [← h.1]; omega), ← h.1] at y
    generalize i - ts.length = j at x y
    match j with
    | 0 => cases x; cases y; rw [upd_ne ntp, upd_same]
    | j + 1 => simp at x
theorem q_skip {ds : List (Nat × Nat)} {S : S2} {qs : List Q4} {k i : Nat} (h : ∀ m, m ∈ qs ↔ (m.2.2.2 < k ∨ m.2.2.2 = k ∧ m.1 < i) ∧ QOk ds S m) (no : ∀ m : Q4, m.1 = i → m.2.2.2 = k → ¬ QOk ds S m) :
    ∀ m, m ∈ qs ↔ (m.2.2.2 < k ∨ m.2.2.2 = k ∧ m.1 < i + 1) ∧ QOk ds S m := by
  intro m
  rw [h m]
  constructor
  · rintro ⟨h1, h2⟩
    exact ⟨by omega, h2⟩
  · rintro ⟨h1, h2⟩
    refine ⟨?_, h2⟩
    by_cases c : m.2.2.2 = k ∧ m.1 = i
    · exact absurd h2 (no m c.2 c.1)
    · omega
theorem q_add {ds : List (Nat × Nat)} {S : S2} {qs : List Q4} {k i : Nat} {m0 : Q4} (h : ∀ m, m ∈ qs ↔ (m.2.2.2 < k ∨ m.2.2.2 = k ∧ m.1 < i) ∧ QOk ds S m) (e1 : m0.1 = i) (e2 : m0.2.2.2 = k) (ok : QOk ds S m0) (un : ∀ m : Q4, m.1 = i → m.2.2.2 = k → QOk ds S m → m = m0) :
    ∀ m, m ∈ qs ++ [m0] ↔ (m.2.2.2 < k ∨ m.2.2.2 = k ∧ m.1 < i + 1) ∧ QOk ds S m := by
  intro m
  rw [List.mem_append, h m, List.mem_singleton]
  constructor
  · rintro (⟨h1, h2⟩ | rfl)
    · exact ⟨by omega, h2⟩
    · exact ⟨by omega, ok⟩
  · rintro ⟨h1, h2⟩
    by_cases c : m.2.2.2 = k ∧ m.1 = i
    · exact .inr (un m c.2 c.1 h2)
    · exact .inl ⟨by omega, h2⟩
theorem joins_at {ds : List (Nat × Nat)} {k : Nat} {e : Nat × Nat} (he : ds[k]? = some e) (x y : Nat) : Joins ds k x y ↔ (x = e.1 ∧ y = e.2) ∨ (x = e.2 ∧ y = e.1) := by
  unfold Joins
  rw [he]
  constructor
  · rintro (h | h)
    · have h := Option.some.inj h
      exact .inl ⟨by rw [h], by rw [h]⟩
    · have h := Option.some.inj h
      exact .inr ⟨by rw [h], by rw [h]⟩
  · rintro (⟨rfl, rfl⟩ | ⟨rfl, rfl⟩)
    · exact .inl rfl
    · exact .inr rfl
def spMoves (K : PySem.W.Frag) : Sp := fun vs H Q _ => ∃ (a s : Addr) (n : Nat) (ds : List (Nat × Nat)) (S : S2), vs = [.ref a, .ref s] ∧ HouseAt K H a ds ∧ Tree n ds ∧ n ≤ 60 ∧ StateAt K H s S ∧ StOk n ds S ∧
  ∀ (H' : Hp) (q : Addr) (ts : List Addr) (qs : List Q4), Same H H' → H q = none → H' q = some (.lst (ts.map V.ref)) → QL H' ts qs → (∀ m, m ∈ qs ↔ QOk ds S m) → qs.length ≤ 1000 → Q (.ref q) H'
section
variable {P : Program} {w : World} {K : PySem.W.Frag}
      {mg : Str → Option Value} {base : Heap}
end
end K5

namespace K5
open PySem PySem.Spec PyProof.Rows L2
def tri (m : Q4) : Mv := (m.1, m.2.1, m.2.2.1)
def dQ (m : Q4) : PyData := .tuple [.int (m.1 : Int), .int (m.2.1 : Int), .int (m.2.2.1 : Int), .int (m.2.2.2 : Int)]
def dQs (l : List Q4) : PyData := .list (l.map dQ)
theorem dQ_lay (z : Q4) : (dQ z).canLay0 = true := by simp [dQ, PyData.canLay0, PyData.canLayAll0]
theorem dQ_depth (z : Q4) : (dQ z).depth ≤ 2 := by simp [dQ, PyData.depth, PyData.depthAll]
theorem dQs_lay : ∀ zs : List Q4, PyData.canLayAll0 (zs.map dQ) = true
  | [] => by simp [PyData.canLayAll0]
  | z :: zs => by simp [PyData.canLayAll0, dQ_lay z, dQs_lay zs]
theorem dQs_depth : ∀ zs : List Q4, PyData.depthAll (zs.map dQ) ≤ 2
  | [] => by simp [PyData.depthAll]
  | z :: zs => by
    have h1 := dQs_depth zs
    have h2 := dQ_depth z
    simp only [List.map_cons, PyData.depthAll]
    omega
theorem dQs_shaped (l : List Q4) : SeqAt.shaped (dQs l) = true := by
  have h := dQs_depth l
  refine shaped_mk ?_ ?_
  · simp only [dQs, PyData.canLay0]
    exact dQs_lay l
  · simp only [dQs, PyData.depth]
    omega
theorem dM_shaped (m : Mv) : SeqAt.shaped (dM m) = true := shaped_mk (dM_lay m) (by have := dM_depth m; omega)
theorem dQs_nil (l : List Q4) : PyData.eqv (dQs l) (dQs []) = decide (l = []) := by
  cases l with
  | nil => exact d_refl (dQs_shaped [])
  | cons m r =>
    rw [decide_eq_false (by simp)]
    simp only [dQs, List.map_cons, List.map_nil, PyData.eqv, PyData.eqvAll]
theorem dM_eqv (a b : Mv) : PyData.eqv (dM a) (dM b) = decide (a = b) := by
  obtain ⟨a1, a2, a3⟩ := a
  obtain ⟨b1, b2, b3⟩ := b
  by_cases h : (a1, a2, a3) = (b1, b2, b3)
  · rw [h, decide_eq_true rfl]
    exact d_refl (dM_shaped _)
  · rw [decide_eq_false h]
    simp only [dM, PyData.eqv, PyData.eqvAll]
    simp only [Prod.mk.injEq] at h
    rw [Bool.eq_false_iff]
    intro z
    simp at z
    exact h (by omega)
theorem dp_Q {K : PySem.W.Frag} {H : Hp} : ∀ (ts : List Addr) (l : List Q4), QL H ts l → DpAll K H (ts.map V.ref) (l.map dQ)
  | [], [], _ => .nil
  | [], m :: l, h => by have := h.1; simp at this
  | t :: ts, [], h => by have := h.1; simp at this
  | t :: ts, m :: l, h => .cons (.tup (SqT.of (h.2 0 t m rfl rfl)) (.cons (.int _) (.cons (.int _) (.cons (.int _) (.cons (.int _) .nil))))) (dp_Q ts l ⟨by have := h.1; simpa using this, fun i t' m' x y => h.2 (i + 1) t' m' x y⟩)
theorem QL.app {H : Hp} {ts : List Addr} {qs : List Q4} {t : Addr} {m : Q4} (h : QL H ts qs) (ht : H t = some (.tup (tQ m))) : QL H (ts ++ [t]) (qs ++ [m]) := by
  refine ⟨by rw [List.length_append, List.length_append, h.1]; rfl, fun i a b x y => ?_⟩
  by_cases hi : i < ts.length
  · rw [List.getElem?_append_left hi] at x
    rw [List.getElem?_append_left (by rw [← h.1]; exact hi)] at y
    exact h.2 i a b x y
  · rw [List.getElem?_append_right (by omega)] at x
    rw [List.getElem?_append_right (by rw [← h.1]; omega), ← h.1] at y
    generalize i - ts.length = j at x y
    match j with
    | 0 => cases x; cases y; exact ht
    | j + 1 => simp at x
theorem QL.but {g : Addr} {H H' : Hp} {ts : List Addr} {qs : List Q4} {xs : List V} (h : QL H ts qs) (hg : H g = some (.lst xs)) (s : But g H H') : QL H' ts qs := ⟨h.1, fun i t m x y => s _ _ (ne_lt hg (h.2 i t m x y)) (h.2 i t m x y)⟩
/-- the moves, one after the other, and where they lead -/
def Run (ds : List (Nat × Nat)) : S2 → List Mv → S2 → Prop
  | S, [], S' => S = S'
  | S, m :: r, S' => ∃ d, QOk ds S (m.1, m.2.1, m.2.2, d) ∧ Run ds (stepS S (m.1, m.2.1, m.2.2, d)) r S'
theorem stepS_ok {n : Nat} {ds : List (Nat × Nat)} {S : S2} {m : Q4} (T : Tree n ds) (h : StOk n ds S) (o : QOk ds S m) : StOk n ds (stepS S m) := by
  obtain ⟨o1, o2, o3⟩ := o
  have lt := get_lt o1
  have l2 := (o2.lt T).2.1
  refine ⟨?_, ?_, ?_, ?_, ?_⟩
  · show 1 ≤ (S.1.set _ _).length
    rw [List.length_set]; exact h.one
  · show (S.1.set _ _).length ≤ _
    rw [List.length_set]; exact h.few
  · intro x hx
    rcases List.mem_or_eq_of_mem_set hx with hx | rfl
    · exact h.rooms x hx
    · exact l2
  · show (S.2.set _ _).length = _
    rw [List.length_set]; exact h.doors
  · intro y hy
    show y < (S.1.set _ _).length
    rw [List.length_set]
    rcases List.mem_or_eq_of_mem_set hy with hy | rfl
    · exact h.bars y hy
    · exact lt
theorem Run.cons_iff {n : Nat} {ds : List (Nat × Nat)} (T : Tree n ds) {S S' : S2} {m : Mv} {r : List Mv} {d : Nat} (q : QOk ds S (m.1, m.2.1, m.2.2, d)) : Run ds S (m :: r) S' ↔ Run ds (stepS S (m.1, m.2.1, m.2.2, d)) r S' := by
  constructor
  · rintro ⟨d', q', h⟩
    have e : d' = d := T.one_door q'.2.1 q.2.1
    subst e
    exact h
  · exact fun h => ⟨d, q, h⟩
def spPlay (K : PySem.W.Frag) : Sp := fun vs H Q _ => ∃ (a s t : Addr) (n : Nat) (ds : List (Nat × Nat)) (S : S2) (ms : List Mv), vs = [.ref a, .ref s, .ref t] ∧ HouseAt K H a ds ∧ Tree n ds ∧ n ≤ 60 ∧ StateAt K H s S ∧ StOk n ds S ∧ TrisAt H t ms ∧
  (∀ S', Run ds S ms S' → ∀ (H' : Hp) (q : Addr), Same H H' → StateAt K H' q S' → Q (.ref q) H') ∧ ((¬ ∃ S', Run ds S ms S') → ∀ H' : Hp, Same H H' → Q .non H')
section
variable {P : Program} {w : World} {K : PySem.W.Frag}
      {mg : Str → Option Value} {base : Heap}
end
end K5

namespace K5
open PySem PySem.Spec PyProof.Rows L2
theorem Regs.toL {n : Nat} {ds : List (Nat × Nat)} {S : S2} {k : Nat} {Ls : List (List Nat)} (h : Regs n ds S k Ls) : RegsL ds S k Ls := ⟨h.len, fun p L hL => by
  obtain ⟨ks, r, pm⟩ := h.at_ p L hL
  exact r.set.of_perm pm⟩
theorem RegsL.rg {ds : List (Nat × Nat)} {S : S2} {Ls : List (List Nat)} (h : RegsL ds S S.1.length Ls) {p : Nat} {L : List Nat} (hL : Ls[p]? = some L) (x : Nat) : x ∈ L ↔ Rg ds S p x := by
  have lp : p < S.1.length := by have := get_lt hL; rw [h.len] at this; exact this
  obtain ⟨v, hv⟩ : ∃ v, S.1[p]? = some v := get_of rfl lp
  have r := h.at_ p L hL
  rw [getD_of hv] at r
  rw [r.mem]
  constructor
  · rintro ⟨w, h1, h2⟩
    exact ⟨v, w, hv, h1, fun e he z => h2 e he (mem_barr.mpr z)⟩
  · rintro ⟨u, w, h1, h2, h3⟩
    rw [hv] at h1
    cases h1
    exact ⟨w, h2, fun d hd z => h3 d hd (mem_barr.mp z)⟩
theorem RegsL.apt {ds : List (Nat × Nat)} {S : S2} {Ls : List (List Nat)} (h : RegsL ds S S.1.length Ls) : Ls.flatten.Nodup ↔ Apt ds S := by
  have row : ∀ p, p < S.1.length → ∃ L, Ls[p]? = some L := fun p hp => get_of rfl (by rw [h.len]; exact hp)
  have lp : ∀ {p x : Nat}, Rg ds S p x → p < S.1.length := fun {p x} ⟨u, w, h1, _⟩ => get_lt h1
  constructor
  · intro nd p q x hp hq
    refine Classical.byContradiction fun ne => ?_
    have key : ∀ p q, p < q → Rg ds S p x → Rg ds S q x → False := by
      intro p q lt hp hq
      obtain ⟨L, hL⟩ := row p (lp hp)
      obtain ⟨M, hM⟩ := row q (lp hq)
      have pw : List.Pairwise (fun A B : List Nat => ∀ a ∈ A, ∀ b ∈ B, a ≠ b) Ls := (List.pairwise_flatten.mp nd).2
      have := List.pairwise_iff_getElem.mp pw p q (get_lt hL) (get_lt hM) lt
      rw [List.getElem?_eq_getElem (get_lt hL)] at hL
      rw [List.getElem?_eq_getElem (get_lt hM)] at hM
      exact this x (by rw [Option.some.inj hL]; exact (h.rg (by rw [List.getElem?_eq_getElem]; exact hL) x).mpr hp) x (by rw [Option.some.inj hM]; exact (h.rg (by rw [List.getElem?_eq_getElem]; exact hM) x).mpr hq) rfl
    rcases Nat.lt_or_gt_of_ne ne with c | c
    · exact key p q c hp hq
    · exact key q p c hq hp
  · intro a
    refine List.pairwise_flatten.mpr ⟨fun L hL => ?_, List.pairwise_iff_getElem.mpr fun i j hi hj lt => fun x hx y hy e => ?_⟩
    · obtain ⟨p, hp⟩ := List.mem_iff_getElem?.mp hL
      exact (h.at_ p L hp).nd
    · subst e
      have := a i j x ((h.rg (List.getElem?_eq_getElem hi) x).mp hx) ((h.rg (List.getElem?_eq_getElem hj) x).mp hy)
      omega

/-! plans that run through -/
def Path (ds : List (Nat × Nat)) : S2 → List Mv → S2 → Prop
  | S, [], A => S = A
  | S, m :: r, A => Can ds S m ∧ Path ds (nxt ds S m) r A
section
variable {n : Nat} {ds : List (Nat × Nat)}
theorem Path.append : ∀ {l m : List Mv} {S A B : S2}, Path ds S l A → Path ds A m B → Path ds S (l ++ m) B
  | [], m, S, A, B, h, k => by
    have h : S = A := h
    subst h
    exact k
  | x :: l, m, S, A, B, h, k => ⟨h.1, Path.append h.2 k⟩
theorem Path.one {S : S2} {m : Mv} (c : Can ds S m) : Path ds S [m] (nxt ds S m) := ⟨c, rfl⟩
theorem Path.ok (T : Tree n ds) : ∀ {l : List Mv} {S A : S2}, Path ds S l A → StOk n ds S → StOk n ds A
  | [], S, A, h, o => by
    have h : S = A := h
    subst h
    exact o
  | x :: l, S, A, h, o => Path.ok T h.2 (o.nxt T h.1.vm)
theorem Path.len : ∀ {l : List Mv} {S A : S2}, Path ds S l A → A.1.length = S.1.length
  | [], S, A, h => by
    have h : S = A := h
    rw [h]
  | x :: l, S, A, h => by rw [Path.len h.2, nxt_len]
theorem Path.vm : ∀ {l : List Mv} {S A : S2}, Path ds S l A → ∀ m ∈ l, VM ds S.1.length m
  | [], S, A, h => fun m hm => nomatch hm
  | x :: l, S, A, h => fun m hm => by
    rcases List.mem_cons.mp hm with rfl | hm
    · exact h.1.vm
    · have := Path.vm h.2 m hm
      rw [nxt_len] at this
      exact this
theorem Path.runs (T : Tree n ds) : ∀ {l : List Mv} {S A : S2}, Path ds S l A → StOk n ds S → ∀ i, runs ds i S l = .inr A
  | [], S, A, h, o, i => by
    have h : S = A := h
    rw [h]
    rfl
  | x :: l, S, A, h, o, i => by
    have e := h.1.why T o
    show (match why ds S x with | some w => _ | none => _) = _
    rw [e]
    exact Path.runs T h.2 (o.nxt T h.1.vm) _
theorem nodup_ne {l : List Nat} (nd : l.Nodup) {i j a b : Nat} (h1 : l[i]? = some a) (h2 : l[j]? = some b) (lt : i < j) : a ≠ b := by
  have l1 := get_lt h1
  have l2 := get_lt h2
  have := List.pairwise_iff_getElem.mp nd i j l1 l2 lt
  rw [List.getElem?_eq_getElem l1] at h1
  rw [List.getElem?_eq_getElem l2] at h2
  rw [Option.some.inj h1, Option.some.inj h2] at this
  exact this
theorem Path.eq {ds : List (Nat × Nat)} : ∀ {l : List Mv} {S A : S2}, Path ds S l A → A = l.foldl (nxt ds) S
  | [], S, A, h => by
    have h : S = A := h
    exact h.symm
  | x :: l, S, A, h => by
    have := Path.eq (l := l) h.2
    exact this
/-- the order in which a crowd goes -/
def ordF (L : List Nat) (c : Nat) : List Nat := L.filter (fun v => decide (v ≠ c)) ++ L.filter fun v => decide (v = c)
/-- the room behind a door -/
def far (ds : List (Nat × Nat)) (d x : Nat) : Nat := match ds[d]? with
  | some e => if e.1 = x then e.2 else e.1
  | none => 0
theorem far_is {ds : List (Nat × Nat)} {d x y : Nat} (j : Joins ds d x y) : far ds d x = y := by
  unfold far
  rcases j with j | j
  · rw [j]
    exact if_pos rfl
  · rw [j]
    show (if y = x then x else y) = y
    split
    · rename_i h
      exact h.symm
    · rfl
def stepF (ds : List (Nat × Nat)) (L : List Nat) (T : S2 × Nat × List Mv) (d : Nat) : S2 × Nat × List Mv :=
  (((ordF L (T.1.2.getD d 0)).map fun q => (q, T.2.1, far ds d T.2.1)).foldl (nxt ds) T.1, far ds d T.2.1, T.2.2 ++ (ordF L (T.1.2.getD d 0)).map fun q => (q, T.2.1, far ds d T.2.1))
def leadF (ds : List (Nat × Nat)) (S : S2) (x : Nat) (L w : List Nat) : S2 × Nat × List Mv := w.foldl (stepF ds L) (S, x, [])
/-- a crowd's turn at a door, k of the order through -/
structure Crs (ds : List (Nat × Nat)) (S : S2) (d x y : Nat) (ord : List Nat) (k : Nat) (A : S2) (l : List Mv) : Prop where
  path : Path ds S l A
  len : l.length = k
  done : ∀ p ∈ ord.take k, A.1[p]? = some y
  rest : ∀ p, p ∉ ord.take k → A.1[p]? = S.1[p]?
  bars : ∀ e, e ≠ d → A.2[e]? = S.2[e]?
  bar0 : k = 0 → A = S
  bar1 : ∀ j, k = j + 1 → A.2[d]? = ord[j]?
  fn : l = (ord.take k).map fun q => (q, x, y)
theorem Crs.zero {S : S2} {d x y : Nat} {ord : List Nat} : Crs ds S d x y ord 0 S [] :=
  ⟨rfl, rfl, fun p h => by rw [List.take_zero] at h; exact absurd h List.not_mem_nil, fun _ _ => rfl, fun _ _ => rfl, fun _ => rfl, fun j h => by omega, rfl⟩
theorem Crs.step (T : Tree n ds) {S A : S2} {d x y k q : Nat} {ord : List Nat} {l : List Mv} (h : Crs ds S d x y ord k A l) (o : StOk n ds S) (j : Joins ds d x y) (nd : ord.Nodup) (hx : ∀ p ∈ ord, S.1[p]? = some x) (hq : ord[k]? = some q) (fst : ∀ p, ord[0]? = some p → S.2[d]? ≠ some p) :
    Can ds A (q, x, y) ∧ A.1[q]? = some x ∧ A.2[d]? ≠ some q ∧ Crs ds S d x y ord (k + 1) (nxt ds A (q, x, y)) (l ++ [(q, x, y)]) := by
  have lk := get_lt hq
  have nq : q ∉ ord.take k := fun z => by
    obtain ⟨i, hi⟩ := List.mem_iff_getElem?.mp z
    have li := get_lt hi
    rw [List.length_take] at li
    rw [List.getElem?_take, if_pos (by omega)] at hi
    exact nodup_ne nd hi hq (by omega) rfl
  have aq : A.1[q]? = some x := by
    rw [h.rest q nq]
    exact hx q (List.mem_of_getElem? hq)
  have nb : A.2[d]? ≠ some q := by
    cases k with
    | zero =>
      rw [h.bar0 rfl]
      exact fst q hq
    | succ i =>
      rw [h.bar1 i rfl]
      obtain ⟨a, ha⟩ : ∃ a, ord[i]? = some a := get_of rfl (by omega)
      rw [ha]
      exact fun z => nodup_ne nd ha hq (by omega) (Option.some.inj z)
  have c : Can ds A (q, x, y) := ⟨get_lt aq, aq, d, j, nb⟩
  have oA := h.path.ok T o
  have ed : dix ds x y = d := dix_is T j
  refine ⟨c, aq, nb, h.path.append (.one c), by rw [List.length_append, h.len]; rfl, fun p hp => ?_, fun p hp => ?_, fun e ne => ?_, fun e => by omega, fun i hi => ?_, by rw [List.take_add_one, hq, List.map_append, h.fn]; rfl⟩
  · show (A.1.set q y)[p]? = _
    rw [List.take_add_one, hq] at hp
    by_cases e : q = p
    · subst e
      exact List.getElem?_set_self (get_lt aq)
    · rw [List.getElem?_set_ne e]
      rcases List.mem_append.mp hp with hp | hp
      · exact h.done p hp
      · exact absurd (List.mem_singleton.mp hp).symm e
  · show (A.1.set q y)[p]? = _
    rw [List.take_add_one, hq] at hp
    have e : q ≠ p := fun z => hp (List.mem_append_right _ (by rw [z]; exact List.mem_singleton.mpr rfl))
    rw [List.getElem?_set_ne e]
    exact h.rest p fun z => hp (List.mem_append_left _ z)
  · show (A.2.set (dix ds x y) q)[e]? = _
    rw [ed, List.getElem?_set_ne (Ne.symm ne)]
    exact h.bars e ne
  · have e : i = k := by omega
    subst e
    show (A.2.set (dix ds x y) q)[d]? = _
    rw [ed, List.getElem?_set_self (by rw [oA.doors]; exact joins_lt j), hq]
/-- a crowd has gone from a room to another -/
structure Led (ds : List (Nat × Nat)) (S : S2) (x y : Nat) (L w : List Nat) (A : S2) (l : List Mv) : Prop where
  path : Path ds S l A
  len : l.length = w.length * L.length
  done : ∀ p ∈ L, A.1[p]? = some y
  rest : ∀ p, p ∉ L → A.1[p]? = S.1[p]?
  bars : ∀ e, e ∉ w → A.2[e]? = S.2[e]?
  fn : leadF ds S x L w = (A, y, l)
theorem Led.nil {S : S2} {x : Nat} {L : List Nat} (h : ∀ p ∈ L, S.1[p]? = some x) : Led ds S x x L [] S [] := ⟨rfl, by simp, h, fun _ _ => rfl, fun _ _ => rfl, rfl⟩
theorem Led.add {S A B : S2} {x0 x y d : Nat} {L w ord : List Nat} {l m : List Mv} (h : Led ds S x0 x L w A l) (c : Crs ds A d x y ord ord.length B m) (jo : Joins ds d x y) (eo : ord = ordF L (A.2.getD d 0)) (pm : ord.Perm L) : Led ds S x0 y L (w ++ [d]) B (l ++ m) := by
  have tk : ord.take ord.length = ord := List.take_length
  refine ⟨h.path.append c.path, ?_, fun p hp => c.done p (by rw [tk]; exact pm.mem_iff.mpr hp), fun p hp => ?_, fun e he => ?_, ?_⟩
  · rw [List.length_append, List.length_append, List.length_singleton, c.len, pm.length_eq, Nat.add_mul, Nat.one_mul]
    have := h.len
    omega
  · rw [c.rest p (by rw [tk]; exact fun z => hp (pm.mem_iff.mp z))]
    exact h.rest p hp
  · rw [c.bars e fun z => he (List.mem_append_right _ (by rw [z]; exact List.mem_singleton.mpr rfl))]
    exact h.bars e fun z => he (List.mem_append_left _ z)
  · have em : m = (ordF L (A.2.getD d 0)).map fun q => (q, x, y) := by
      rw [c.fn, tk, ← eo]
    have eb := c.path.eq
    have hf := h.fn
    unfold leadF at hf ⊢
    rw [List.foldl_append, hf]
    show stepF ds L (A, x, l) d = _
    unfold stepF
    simp only
    rw [far_is jo, ← em, ← eb]
/-- where a way of two splits: the one who is stopped, the other not -/
theorem split_ok (T : Tree n ds) {S : S2} {i j r xi xj k : Nat} {w : List Nat} (ij : i ≠ j) (hi : Rg ds S i r) (hj : Rg ds S j r) (si : S.1[i]? = some xi) (sj : S.1[j]? = some xj) (W : Walk ds xi w xj) (nd : w.Nodup)
    (hk : ∀ e, w[k]? = some e → S.2[e]? = some i) : ∀ e ∈ w.drop k, S.2[e]? ≠ some j := by
  intro e he ej
  obtain ⟨side, s1, s2⟩ := T.side
  have lk : k < w.length := by
    refine Classical.byContradiction fun z => ?_
    rw [List.drop_eq_nil_of_le (by omega)] at he
    exact nomatch he
  obtain ⟨d, hd⟩ : ∃ d, w[k]? = some d := get_of rfl lk
  have di := hk d hd
  have ed : e ≠ d := fun z => by
    rw [z, di] at ej
    exact ij (Option.some.inj ej)
  have ew : w = w.take k ++ d :: w.drop (k + 1) := by
    have := List.drop_eq_getElem_cons lk
    rw [List.getElem?_eq_getElem lk] at hd
    rw [Option.some.inj hd] at this
    rw [← this, List.take_append_drop]
  have he2 : e ∈ w.drop (k + 1) := by
    have : w.drop k = d :: w.drop (k + 1) := by
      have := List.drop_eq_getElem_cons lk
      rw [List.getElem?_eq_getElem lk] at hd
      rw [Option.some.inj hd] at this
      exact this
    rw [this] at he
    exact (List.mem_cons.mp he).resolve_left ed
  generalize w.take k = p1 at ew
  generalize w.drop (k + 1) = p2 at ew he2
  subst ew
  obtain ⟨n1, n2, n3⟩ := List.nodup_append.mp nd
  obtain ⟨n4, n5⟩ := List.nodup_cons.mp n2
  have d1 : d ∉ p1 := fun m => n3 d m d List.mem_cons_self rfl
  have e1 : e ∉ p1 := fun m => n3 e m e (List.mem_cons_of_mem _ he2) rfl
  -- split the way at d, then at e
  have spl : ∀ {p1 : List Nat} {a b : Nat} {p2 : List Nat}, Walk ds a (p1 ++ d :: p2) b → ∃ u v, Walk ds a p1 u ∧ Joins ds d u v ∧ Walk ds v p2 b := by
    intro p1
    induction p1 with
    | nil =>
      intro a b p2 W
      cases W with
      | cons jo W => exact ⟨_, _, .nil _, jo, W⟩
    | cons c p1 ih =>
      intro a b p2 W
      cases W with
      | cons jo W =>
        obtain ⟨u, v, h1, h2, h3⟩ := ih W
        exact ⟨u, v, .cons jo h1, h2, h3⟩
  obtain ⟨u, v, w1, jd, w2⟩ := spl W
  have use := side_use s1 s2 W nd (c := e) (List.mem_append_right _ (List.mem_cons_of_mem _ he2))
  obtain ⟨q1, q2, s, t, rfl, w3, je, w4⟩ := w2.split he2
  obtain ⟨a, wi, h1, h2, h3⟩ := hi
  obtain ⟨b, wj, g1, g2, g3⟩ := hj
  rw [si] at h1
  cases h1
  rw [sj] at g1
  cases g1
  have dwi : d ∉ wi := fun z => h3 d z di
  have ewj : e ∉ wj := fun z => g3 e z ej
  have dq1 : d ∉ q1 := fun z => n4 (List.mem_append_left _ z)
  -- the far side of d
  have k1 : side d xi = side d u := side_walk s2 w1 d1
  have k2 : side d u ≠ side d v := side_join s1 jd
  have k3 : side d v = side d s := side_walk s2 w3 dq1
  have k4 : side d s = side d t := side_other s2 je (Ne.symm ed)
  have ewi : e ∉ wi := fun z => by
    obtain ⟨a1, a2, s', t', rfl, v1, jo, v2⟩ := h2.split z
    have z1 : side d xi = side d s' := side_walk s2 v1 fun m => dwi (List.mem_append_left _ m)
    rcases ends_of jo je with q | q
    · rw [q, ← k3, k1] at z1
      exact k2 z1
    · rw [q, ← k4, ← k3, k1] at z1
      exact k2 z1
  exact use ((side_walk s2 h2 ewi).trans (side_walk s2 g2 ewj).symm)
end
/-- two who can meet, the one before the other -/
theorem not_apt {ds : List (Nat × Nat)} {S : S2} (h : ¬ Apt ds S) : ∃ i j r, i < j ∧ Rg ds S i r ∧ Rg ds S j r := by
  refine Classical.byContradiction fun z => h fun p q x hp hq => Classical.byContradiction fun ne => ?_
  rcases Nat.lt_or_gt_of_ne ne with c | c
  · exact z ⟨p, q, x, c, hp, hq⟩
  · exact z ⟨q, p, x, c, hq, hp⟩
theorem together {ds : List (Nat × Nat)} {S : S2} {i j x : Nat} (ij : i ≠ j) (h1 : S.1[i]? = some x) (h2 : S.1[j]? = some x) : ¬ Apt ds S := fun a => ij (a i j x (.here h1) (.here h2))
theorem walk_doors {ds : List (Nat × Nat)} {a b : Nat} {w : List Nat} (h : Walk ds a w b) : ∀ e ∈ w, e < ds.length := by
  induction h with
  | nil => exact fun e h => nomatch h
  | cons j w ih =>
    intro e he
    rcases List.mem_cons.mp he with rfl | he
    · exact joins_lt j
    · exact ih e he
theorem walk_short {ds : List (Nat × Nat)} {a b : Nat} {w : List Nat} (h : Walk ds a w b) (nd : w.Nodup) : w.length ≤ ds.length := nodup_le ds.length w nd (walk_doors h)
theorem walk_in {n : Nat} {ds : List (Nat × Nat)} (T : Tree n ds) {a b : Nat} {w : List Nat} (h : Walk ds a w b) (ha : a < n) : b < n := by
  induction h with
  | nil => exact ha
  | cons j w ih => exact ih (j.lt T).2.1

/-! what is determined -/
open Classical in
noncomputable def wayF (ds : List (Nat × Nat)) (x y : Nat) : List Nat := if h : ∃ w, Walk ds x w y ∧ w.Nodup then h.choose else []
theorem way_is {n : Nat} {ds : List (Nat × Nat)} (T : Tree n ds) {x y : Nat} {w : List Nat} (W : Walk ds x w y) (nd : w.Nodup) : wayF ds x y = w := by
  have h : ∃ w, Walk ds x w y ∧ w.Nodup := ⟨w, W, nd⟩
  unfold wayF
  rw [dif_pos h]
  exact way_unique T h.choose_spec.1 W h.choose_spec.2 nd
end K5

namespace L2
open PySem PySem.Spec PyProof.Rows PySem.W
/-! own rule: min(l) of a list of alike data: one of the items, a least one -/
theorem min_at {prog : Program} {w : World} {A : Around} {s : Shared} {E : Value → Shared → Prop} {l : Addr} {vs : Array Value} {x : PyData} {xs : List PyData} {as : List Addr} {Q : Value → Shared → Prop} (hh : A.handled = none) (hl : s.heap.IsList l vs) (hr : ReadsAll s.heap vs.toList (x :: xs) as) (ha : AlikeAll (x :: xs)) (hu : A.units + 1 + PyData.depthAll (x :: xs) < cLine)
    (h : ∀ (i : Nat) v h' tk, vs[i]? = some v → (x :: xs).getD i .none = minD x xs → i ≤ xs.length → (∀ b o, s.heap.get? b = some o → h'.get? b = some o) → Q v { s with toks := tk, heap := h' }) :
    wpAny (model prog w) A (call (.builtin
          "min") [.ref l]) Q E s := by
  have hn : vs.size = xs.length
        + 1 := readsAll_len hr
  refine call_min_walkH (iter_listW (A := A.in1)
        hh hl fun s₂ e W st hfp hw hk => ?_)
  refine ⟨_, _, _, _, _, _, _, s.heap, _, rfl, W, st, hfp, by omega, hw, hk, cmpIn_lt (A := A.in1) hr ha (by show A.units + 1 + _ < _; exact hu), fun v s' hP m => ?_⟩
  obtain ⟨h', tk, rfl, hk'⟩
        := moved_old e rfl m
  have e1 : vs.size - 1 =
        xs.length := by omega
  obtain ⟨f1, f2⟩ := argBest_fold dataLt PyData.none x xs xs.length (Nat.le_refl _)
  rw [List.take_length] at f2
  rw [e1] at hP
  exact h _ v h' tk hP f2 f1 hk'
def rMinD (K : PySem.W.Frag) : List V → Hp → VK → Prop := fun vs H Q => ∃ (a : Addr) (xs : List V) (d : PyData) (ds : List PyData), vs = [V.ref a] ∧ SqL K H a xs ∧ DpAll K H xs (d :: ds) ∧ AlikeAll (d :: ds) ∧ PyData.depthAll (d :: ds) ≤ 60 ∧
  ∀ (i : Nat) (x : V), xs[i]? = some x → (d :: ds).getD i .none = minD d ds → Q x H
theorem cr_minD {X : Cx} (hc : X.calm = true) (hu : X.A.units + 64 < cLine) : CallR X (.builtin "min") (rMinD X.K) := by
  rintro pins s σ H vs us Q I r ⟨a, xs, d, ds, rfl, hs, hd, al, dep, q⟩
  obtain ⟨its, rv, hl, few⟩ := I.list hs
  rw [Vals.ref1 r]
  obtain ⟨as, ra⟩ := Dp.readsAll I (d :: ds) xs its hd rv
  refine min_at (I.ok.hd hc) hl.isList ra al (by omega) fun i v h' tk hv e le hk => ?_
  have hv' : its[i]? = some
        v := by simpa using hv
  have lt : i < xs.length := by rw [rv.length]; exact (List.getElem?_eq_some_iff.mp hv').1
  obtain ⟨u, hu', rx⟩ := rv.get (List.getElem?_eq_getElem lt)
  rw [hv'] at hu'
  cases hu'
  have hx : xs[i]? = some xs[i] := List.getElem?_eq_getElem lt
  exact ⟨_, H, I.kept hk, rx, q i _ hx e⟩
end L2

namespace L2
open PySem PySem.Spec PyProof.Rows
/-- an __init__ of the text -/
def IniD (K : PySem.W.Frag) (C : Addr) (qual : Str) (st : Stmt) : Prop := ∃ (f : Addr) (fd : FuncData), Fun K "__init__" qual st f fd ∧ Mk K C f
def CalI (P : Program) (w : World) (K : PySem.W.Frag) (mg : Str → Option Value) (base : Heap) (C : Addr) (ps : List Str) (k : Nat) (sp : Sp) : Prop :=
  ∃ (f : Addr) (fd : FuncData), Mk K C f ∧ Binds K fd ps [] ∧ FnOk P w K mg base CX0 k f fd ps sp
theorem IniD.ok {P : Program} {w : World} {K : PySem.W.Frag} {mg : Str → Option Value} {base : Heap} {C : Addr} {qual : Str} {st : Stmt} {N ps : List Str} {k : Nat} {sp : Sp} (D : IniD K C qual st) (S : FnScope N ps (defScope st))
    (hb : ∀ (kV doc pm : Value) (an : Option Addr) (cdv ct : Value) (us : List Value), us.length = ps.length → bindArgs (PySem.W.fnOf "__init__" qual (defArgs st) (defBody st) (defScope st) .none kV doc pm an cdv ct) ⟨us, []⟩ = pure (ps.zip us))
    (ar : ∀ vs H Q E, sp vs H Q E → vs.length = ps.length)
    (hbody : ∀ (f : Addr) (cdv : Value) (A : Around) (outer : List Env) (s : Shared) (H : Hp) (vs : List V) (Q : VK) (E : XK), Room k (A.deeper (envOfC qual (defScope st) s.heap.objs.size f cdv)) → sp vs H Q E →
      ∃ t, PSs (cxOf CX0 P w K mg base N qual (defScope st) f cdv A outer s H E).nox (defBody st) t ∧ t { nx := fun _ H' => Q .non H', rt := Q } (start N vs) H) : CalI P w K mg base C ps (k + 1) sp := by
  obtain ⟨f, fd, F, me⟩ := D
  exact ⟨f, fd, me, F.binds hb, F.ok S ar fun cdv A outer s H vs Q E hr h => hbody f cdv A outer s H vs Q E hr h⟩
end L2
namespace K5
open PySem PySem.Spec PyProof.Rows L2
/-- all but the listed objects stand as they were -/
def Saves (M : List Addr) (H H' : Hp) : Prop := ∀ x o, H x = some o → x ∉ M → H' x = some o
section
variable {K : PySem.W.Frag} {H H' H'' : Hp} {M : List Addr} {a t q : Addr} {ds : List (Nat × Nat)} {S : S2} {l : List Mv} {ts : List Addr}
theorem Saves.refl : Saves M H H := fun _ _ h _ => h
theorem Saves.trans (a : Saves M H H') (b : Saves M H' H'') : Saves M H H'' := fun x o h n => b x o (a x o h n) n
theorem Saves.of (s : Same H H') : Saves M H H' := fun x o h _ => s x o h
theorem Saves.upd {o : HO} (h : a ∈ M) : Saves M H (L2.upd H a o) := fun x u hx n => by rw [upd_ne (fun e => n (by rw [e]; exact h))]; exact hx
theorem Saves.lst {xs : List V} (s : Saves M H H') (h : H a = some (.lst xs)) (n : a ∉ M) : H' a = some (.lst xs) := s _ _ h n
abbrev wkF1 (a : Addr) : List (Str × V) := [("house", .ref a)]
abbrev wkF2 (a r : Addr) : List (Str × V) := [("house", .ref a), ("rooms", .ref r)]
abbrev wkF3 (a r b : Addr) : List (Str × V) := [("house", .ref a), ("rooms", .ref r), ("barred", .ref b)]
abbrev wkF (a r b pl : Addr) : List (Str × V) := [("house", .ref a), ("rooms", .ref r), ("barred", .ref b), ("plan", .ref pl)]
abbrev wkN : List Str := ["house", "rooms", "barred", "plan"]
/-- where the walk's objects lie -/
structure Pt where
  wk : Addr
  r : Addr
  b : Addr
  pl : Addr
  dx : Addr
abbrev Pt.m (z : Pt) : List Addr := [z.r, z.b, z.pl]
/-- a walk's object -/
structure WkAt (K : PySem.W.Frag) (C : Addr) (H : Hp) (z : Pt) (a : Addr) (ds : List (Nat × Nat)) (S : S2) (l : List Mv) : Prop where
  ob : H z.wk = some (.ins C z.dx (wkF a z.r z.b z.pl))
  rm : H z.r = some (.lst (nv S.1))
  br : H z.b = some (.lst (nv S.2))
  pl : TrisAt H z.pl l
  house : HouseAt K H a ds
  n1 : z.r ≠ z.b
  n2 : z.r ≠ z.pl
  n3 : z.b ≠ z.pl
theorem ne_tup {xs ys : List V} (h1 : H t = some (.tup xs)) (h2 : H a = some (.lst ys)) : t ≠ a := fun e => by rw [e, h2] at h1; cases h1
theorem Saves.sqt {xs : List V} (s : Saves M H H') (hM : ∀ x ∈ M, ∃ ys, H x = some (.lst ys)) (h : SqT K H t xs) : SqT K H' t xs := by
  rcases h with (h | ⟨o, h⟩) | h
  · exact .inl (.inl (s _ _ h fun e => by obtain ⟨ys, z⟩ := hM _ e; rw [z] at h; cases h))
  · exact .inl (.inr ⟨o, s _ _ h fun e => by obtain ⟨ys, z⟩ := hM _ e; rw [z] at h; cases h⟩)
  · exact .inr h
theorem Saves.house (s : Saves M H H') (hM : ∀ x ∈ M, ∃ ys, H x = some (.lst ys)) (h : HouseAt K H a ds) : HouseAt K H' a ds := by
  obtain ⟨rs, h1, h2, h3⟩ := h
  exact ⟨rs, s.sqt hM h1, h2, fun d r e x y => s.sqt hM (h3 d r e x y)⟩
theorem Saves.tl (s : Saves M H H') (hM : ∀ x ∈ M, ∃ ys, H x = some (.lst ys)) (h : TL H ts l) : TL H' ts l :=
  ⟨h.1, fun i t m x y => s _ _ (h.2 i t m x y) fun e => by obtain ⟨ys, z⟩ := hM _ e; have := h.2 i t m x y; rw [z] at this; cases this⟩
theorem Saves.tris (s : Saves M H H') (hM : ∀ x ∈ M, ∃ ys, H x = some (.lst ys)) (n : q ∉ M) (h : TrisAt H q l) : TrisAt H' q l := by
  obtain ⟨ts, h1, h2⟩ := h
  exact ⟨ts, s _ _ h1 n, s.tl hM h2⟩
theorem Saves.state (s : Saves M H H') (hM : ∀ x ∈ M, ∃ ys, H x = some (.lst ys)) (h : StateAt K H q S) : StateAt K H' q S := by
  obtain ⟨r, b, h1, h2, h3⟩ := h
  exact ⟨r, b, s.sqt hM h1, s.sqt hM h2, s.sqt hM h3⟩
variable {C : Addr} {z : Pt}
theorem WkAt.lists (h : WkAt K C H z a ds S l) : ∀ x ∈ z.m, ∃ ys, H x = some (.lst ys) := by
  intro x hx
  obtain ⟨ts, e, _⟩ := h.pl
  rcases List.mem_cons.mp hx with rfl | hx
  · exact ⟨_, h.rm⟩
  rcases List.mem_cons.mp hx with rfl | hx
  · exact ⟨_, h.br⟩
  rw [List.mem_singleton.mp hx]
  exact ⟨_, e⟩
theorem WkAt.same (h : WkAt K C H z a ds S l) (s : Same H H') : WkAt K C H' z a ds S l := ⟨s _ _ h.ob, s _ _ h.rm, s _ _ h.br, h.pl.same s, h.house.same s, h.n1, h.n2, h.n3⟩
theorem WkAt.wkm (h : WkAt K C H z a ds S l) : z.wk ∉ z.m := fun e => by
  obtain ⟨ys, e⟩ := h.lists _ e
  rw [h.ob] at e
  cases e
/-- a list that is new since the walk was made, or that the walk does not own -/
theorem WkAt.new (h : WkAt K C H z a ds S l) (n : H q = none) : q ∉ z.m := fun e => by
  obtain ⟨ys, e⟩ := h.lists _ e
  rw [n] at e
  cases e
end
def spWkI (K : PySem.W.Frag) (C : Addr) : Sp := fun vs H Q _ => ∃ (x a s dx : Addr) (n : Nat) (ds : List (Nat × Nat)) (S : S2) (B : Hp), vs = [.ref x, .ref a, .ref s] ∧ H x = some (.ins C dx []) ∧ Same B H ∧ B x = none ∧ HouseAt K B a ds ∧ StateAt K B s S ∧ StOk n ds S ∧ n ≤ 60 ∧
  ds.length < n ∧ ∀ (H' : Hp) (z : Pt), Same B H' → z.wk = x → WkAt K C H' z a ds S [] → (∀ y ∈ z.m, B y = none) → Q .non H'
def spStep (K : PySem.W.Frag) (C : Addr) : Sp := fun vs H Q _ => ∃ (z : Pt) (a : Addr) (p d x y n : Nat) (ds : List (Nat × Nat)) (S : S2) (l : List Mv), vs = [.ref z.wk, .int (p : Int), .int (d : Int)] ∧ WkAt K C H z a ds S l ∧ Tree n ds ∧ StOk n ds S ∧ Joins ds d x y ∧ S.1[p]? = some x ∧ l.length ≤ 100000 ∧
  ∀ H', Saves z.m H H' → WkAt K C H' z a ds (nxt ds S (p, x, y)) (l ++ [(p, x, y)]) → Q .non H'
section
variable {P : Program} {w : World} {K : PySem.W.Frag} {mg : Str → Option Value} {base : Heap} {C_Walk : Addr}
theorem ok_Walk_init (T : Bl mg) (cl_Walk : ClsD K mg "Walk" C_Walk wkN) (D : IniD K C_Walk "Walk.__init__" s_Walk_init) :
    CalI P w K mg base C_Walk ["self", "house", "state"] 1 (spWkI K C_Walk) := by
  refine D.ok sc_Walk_init (fun _ _ _ _ _ _ us hl => match us, hl with | [_, _, _], _ => rfl) (fun vs H Q E h => ?_) (fun f cdv A outer s0 H vs Q E hr h => ?_)
  · obtain ⟨x, a, s, dx, n, ds, S, B, rfl, _⟩ := h
    rfl
  obtain ⟨x, a, s, dx, n, ds, S, B, rfl, hx, sB, nx, hH, st, ok, hn, hdn, q⟩ := h
  have cls := cl_Walk.cl
  have no := cl_Walk.no
  obtain ⟨r0, b0, t1, t2, t3⟩ := st.same sB
  skip
  refine ⟨_, (pss_cons (ps_fld (pv 0) (pv 1) (by rfl))
    (pss_cons (ps_fld (pv 0) (pe_callTy call_list_of (by rfl) T.list (by decide +kernel) (pa_cons (pe_ix ix_tup (pv 2) pe_int (fun _ _ => rfl)) pa_nil)) (by rfl))
    (pss_cons (ps_fld (pv 0) (pe_callTy call_list_of (by rfl) T.list (by decide +kernel) (pa_cons (pe_ix ix_tup (pv 2) pe_int (fun _ _ => rfl)) pa_nil)) (by rfl))
    (pss_one (ps_fld (pv 0) (pe_lst pa_nil) (by rfl)))))), ?_⟩
  refine ⟨_, rfl, _, rfl, x, C_Walk, dx, [], rfl, hx, cls, no _ (by decide), by decide, ?_⟩
  have s2 : Same B (upd H x (.ins C_Walk dx (wkF1 a))) := sB.at nx
  have hx2 : (upd H x (.ins C_Walk dx (wkF1 a))) x = some (.ins C_Walk dx (wkF1 a)) := upd_same
  rw [show putF "house" (V.ref a) [] = (wkF1 a) from rfl]
  have stB := (st.same s2)
  generalize upd H x (.ins C_Walk dx (wkF1 a)) = H2 at s2 hx2 stB
  obtain ⟨r0, b0, t1, t2, t3⟩ := stB
  refine ⟨_, rfl, s, _, _, _, rfl, rfl, t1, atI_nat (j := 0) rfl, _, _, rfl, .inr t2, fun r nr => ⟨_, rfl, x, C_Walk, dx, _, rfl, (Same.upd nr) _ _ hx2, cls, no _ (by decide), by show 1 < 1000; decide, ?_⟩⟩
  have nrx : r ≠ x := (ne_of_none hx2 nr).symm
  have smr := Same.upd (o := .lst (nv S.1)) nr
  have s3 : Same B (upd (upd H2 r (.lst (nv S.1))) x (.ins C_Walk dx (wkF2 a r))) := (s2.trans smr).at nx
  have hx3 : (upd (upd H2 r (.lst (nv S.1))) x (.ins C_Walk dx (wkF2 a r))) x = some (.ins C_Walk dx (wkF2 a r)) := upd_same
  have hr3 : (upd (upd H2 r (.lst (nv S.1))) x (.ins C_Walk dx (wkF2 a r))) r = some (.lst (nv S.1)) := by rw [upd_ne nrx, upd_same]
  have nr0 := s2.free nr
  rw [show putF "rooms" (V.ref r) (wkF1 a) = (wkF2 a r) from rfl]
  have stB := st.same s3
  generalize upd (upd H2 r (.lst (nv S.1))) x (.ins C_Walk dx (wkF2 a r)) = H3 at s3 hx3 hr3 stB
  clear t1 t2 t3
  obtain ⟨r0, b0, t1, t2, t3⟩ := stB
  refine ⟨_, rfl, s, _, _, _, rfl, rfl, t1, atI_nat (j := 1) rfl, _, _, rfl, .inr t3, fun b nb => ⟨_, rfl, x, C_Walk, dx, _, rfl, (Same.upd nb) _ _ hx3, cls, no _ (by decide), by show 2 < 1000; decide, ?_⟩⟩
  have nbx : b ≠ x := (ne_of_none hx3 nb).symm
  have nbr : r ≠ b := ne_of_none hr3 nb
  have smb := Same.upd (o := .lst (nv S.2)) nb
  have s4 : Same B (upd (upd H3 b (.lst (nv S.2))) x (.ins C_Walk dx (wkF3 a r b))) := (s3.trans smb).at nx
  have hx4 : (upd (upd H3 b (.lst (nv S.2))) x (.ins C_Walk dx (wkF3 a r b))) x = some (.ins C_Walk dx (wkF3 a r b)) := upd_same
  have hr4 : (upd (upd H3 b (.lst (nv S.2))) x (.ins C_Walk dx (wkF3 a r b))) r = some (.lst (nv S.1)) := by rw [upd_ne nrx, upd_ne nbr]; exact hr3
  have hb4 : (upd (upd H3 b (.lst (nv S.2))) x (.ins C_Walk dx (wkF3 a r b))) b = some (.lst (nv S.2)) := by rw [upd_ne nbx, upd_same]
  have nb0 := s3.free nb
  rw [show putF "barred" (V.ref b) (wkF2 a r) = (wkF3 a r b) from rfl]
  generalize upd (upd H3 b (.lst (nv S.2))) x (.ins C_Walk dx (wkF3 a r b)) = H4 at s4 hx4 hr4 hb4
  refine ⟨Nat.zero_le _, fun pl np => ⟨_, rfl, x, C_Walk, dx, _, rfl, (Same.upd np) _ _ hx4, cls, no _ (by decide), by show 3 < 1000; decide, ?_⟩⟩
  have npx : pl ≠ x := (ne_of_none hx4 np).symm
  have smp := Same.upd (o := .lst []) np
  have s5 : Same B (upd (upd H4 pl (.lst [])) x (.ins C_Walk dx (wkF a r b pl))) := (s4.trans smp).at nx
  have np0 := s4.free np
  refine q _ ⟨x, r, b, pl, dx⟩ s5 rfl ⟨upd_same, ?_, ?_, ⟨[], ?_, TL.nil⟩, hH.same s5, nbr, ne_of_none hr4 np, ne_of_none hb4 np⟩ fun y hy => ?_
  · rw [upd_ne nrx]
    exact smp _ _ hr4
  · rw [upd_ne nbx]
    exact smp _ _ hb4
  · rw [upd_ne npx, upd_same]
    rfl
  · rcases List.mem_cons.mp hy with rfl | hy
    · exact nr0
    rcases List.mem_cons.mp hy with rfl | hy
    · exact nb0
    rw [List.mem_singleton.mp hy]
    exact np0
theorem ok_Walk_step (T : Bl mg) (cl_Walk : ClsD K mg "Walk" C_Walk wkN) (D : MetD K C_Walk "step" "Walk.step" s_Walk_step) : CalM P w K mg base C_Walk "step" ["self", "person", "door"] 1 (spStep K C_Walk) := by
  refine D.ok sc_Walk_step (fun _ _ _ _ _ _ us hl => match us, hl with | [_, _, _], _ => rfl) (fun vs H Q E h => ?_) (fun f cdv A outer s0 H vs Q E hr h => ?_)
  · obtain ⟨z, a, p, d, x, y, n, ds, S, l, rfl, _⟩ := h
    rfl
  obtain ⟨z, a, p, d, x, y, n, ds, S, l, rfl, W, tree, ok, jo, px, ll, q⟩ := h
  have cls := cl_Walk.cl
  have no := cl_Walk.no
  skip
  obtain ⟨rs, hrs, hlen, hds⟩ := W.house
  have ld := joins_lt jo
  obtain ⟨rd, hrd⟩ : ∃ rd, rs[d]? = some rd := get_of rfl (by omega)
  obtain ⟨e, he⟩ : ∃ e, ds[d]? = some e := get_of rfl ld
  have row := hds d rd e hrd he
  refine ⟨_, (pss_cons (ps_asg (pe_ix ix_tup (pe_fld (pv 0) rfl) (pv 2) (fun _ _ => rfl)) (pg_tup (n := 2) rfl (pgs_cons (pg_name (i := 3) sc_Walk_step.nd rfl (.inl rfl)) (pgs_cons (pg_name (i := 4) sc_Walk_step.nd rfl (.inl rfl)) pgs_nil))))
    (pss_cons (ps_set (i := 5) sc_Walk_step.nd rfl (.inl rfl) (pe_ix ix_list (pe_fld (pv 0) rfl) (pv 1) (fun _ _ => rfl)))
    (pss_cons (ps_set (i := 6) sc_Walk_step.nd rfl (.inl rfl) (pe_ifExp (pt_cmpR op_eq (pv 5) (pv 3) (nomark _)) (pv 4) (pv 3)))
    (pss_cons (ps_asg (pv 6) (pg_sub (pe_fld (pv 0) rfl) (pv 1) set_list))
    (pss_cons (ps_asg (pv 1) (pg_sub (pe_fld (pv 0) rfl) (pv 2) set_list))
    (pss_one (ps_expr (pe_bm PySem.F.plainAttrs_list PySem.F.slot_list_append PySem.F.type_list_append mt_append (pe_fld (pv 0) rfl) (pa_cons (pe_tup (pa_cons (pv 1) (pa_cons (pv 5) (pa_cons (pv 6) pa_nil)))) pa_nil))))))))), ?_⟩
  refine ⟨_, rfl, z.wk, C_Walk, z.dx, _, .ref a, rfl, W.ob, cls, no _ (by decide), rfl, ?_⟩
  refine ⟨_, rfl, a, _, _, _, rfl, rfl, hrs, atI_nat (j := d) (show (rs.map V.ref)[d]? = some (.ref rd) by rw [List.getElem?_map, hrd]; rfl), ?_⟩
  refine ⟨_, _, rfl, row, rfl, _, _, rfl, _, _, rfl, rfl, ?_⟩
  refine ⟨_, rfl, z.wk, C_Walk, z.dx, _, .ref z.r, rfl, W.ob, cls, no _ (by decide), rfl, _, rfl, z.r, _, _, _, rfl, rfl, SqL.of W.rm, atI_nat (j := p) (nv_get px), ?_⟩
  have xy := (jo.lt tree).2.2.2
  have l2 := tree.len
  have ep : (nxt ds S (p, x, y)).1 = S.1.set p y := rfl
  have eb : (nxt ds S (p, x, y)).2 = S.2.set d p := by
    show S.2.set (dix ds x y) p = _
    rw [dix_is tree jo]
  refine ⟨_, rfl, _, rfl, rfl, _, rfl, ?_⟩
  rcases jo with je | je
  all_goals rw [he] at je
  all_goals cases je
  rw [if_pos (decide_eq_true rfl)]
  rotate_left
  rw [if_neg (by
    intro h
    have h := V.int.inj (of_decide_eq_true h)
    simp only at h
    omega)]
  all_goals
    obtain ⟨ts, hpl, tl⟩ := W.pl
    refine ⟨_, rfl, ?_⟩
    refine ⟨_, rfl, _, rfl, z.wk, C_Walk, z.dx, _, .ref z.r, rfl, W.ob, cls, no _ (by decide), rfl, _, rfl, z.r, _, _, _, rfl, rfl, W.rm, ixN_nat (by rw [nv_len]; exact get_lt px), ?_⟩
    have nwr : z.wk ≠ z.r := fun e => W.wkm (by rw [e]; simp)
    have nwb : z.wk ≠ z.b := fun e => W.wkm (by rw [e]; simp)
    have nwp : z.wk ≠ z.pl := fun e => W.wkm (by rw [e]; simp)
    dsimp only
    rw [nv_set]
    have r1 : upd H z.r (.lst (nv (S.1.set p y))) z.r = some (.lst (nv (S.1.set p y))) := upd_same
    have o1 : upd H z.r (.lst (nv (S.1.set p y))) z.wk = some (.ins C_Walk z.dx (wkF a z.r z.b z.pl)) := by rw [upd_ne nwr]; exact W.ob
    have b1 : upd H z.r (.lst (nv (S.1.set p y))) z.b = some (.lst (nv S.2)) := by rw [upd_ne W.n1.symm]; exact W.br
    have p1 : upd H z.r (.lst (nv (S.1.set p y))) z.pl = some (.lst (ts.map V.ref)) := by rw [upd_ne W.n2.symm]; exact hpl
    have s1 : Saves z.m H (upd H z.r (.lst (nv (S.1.set p y)))) := Saves.upd (by simp)
    generalize upd H z.r (.lst (nv (S.1.set p y))) = H1 at r1 o1 b1 p1 s1 ⊢
    refine ⟨_, rfl, _, rfl, z.wk, C_Walk, z.dx, _, .ref z.b, rfl, o1, cls, no _ (by decide), rfl, _, rfl, z.b, _, _, _, rfl, rfl, b1, ixN_nat (by rw [nv_len, ok.doors]; exact ld), ?_⟩
    dsimp only
    rw [nv_set]
    have r2 : upd H1 z.b (.lst (nv (S.2.set d p))) z.r = some (.lst (nv (S.1.set p y))) := by rw [upd_ne W.n1]; exact r1
    have o2 : upd H1 z.b (.lst (nv (S.2.set d p))) z.wk = some (.ins C_Walk z.dx (wkF a z.r z.b z.pl)) := by rw [upd_ne nwb]; exact o1
    have b2 : upd H1 z.b (.lst (nv (S.2.set d p))) z.b = some (.lst (nv (S.2.set d p))) := upd_same
    have p2 : upd H1 z.b (.lst (nv (S.2.set d p))) z.pl = some (.lst (ts.map V.ref)) := by rw [upd_ne W.n3.symm]; exact p1
    have s2 : Saves z.m H (upd H1 z.b (.lst (nv (S.2.set d p)))) := s1.trans (Saves.upd (by simp))
    generalize upd H1 z.b (.lst (nv (S.2.set d p))) = H2 at r2 o2 b2 p2 s2 ⊢
    refine ⟨_, rfl, z.wk, C_Walk, z.dx, _, .ref z.pl, rfl, o2, cls, no _ (by decide), rfl, .inl ⟨rfl, _, SqL.of p2⟩, _, rfl, _, rfl, _, rfl, by show 3 ≤ sizeLine; decide, fun t2 nt2 => ⟨z.pl, _, _, rfl, rfl, by rw [upd_ne (ne_of_none p2 nt2)]; exact p2, by rw [List.length_map, tl.1]; exact Nat.lt_of_le_of_lt ll (by decide), ?_⟩⟩
    have s3 : Saves z.m H2 (upd H2 t2 (.tup [.int (p : Int), .int (x : Int), .int (y : Int)])) := .of (Same.upd nt2)
    have s4 : Saves z.m H (upd (upd H2 t2 (.tup [.int (p : Int), .int (x : Int), .int (y : Int)])) z.pl (.lst (ts.map V.ref ++ [.ref t2]))) := (s2.trans s3).trans (Saves.upd (by simp))
    have ntp : t2 ≠ z.pl := (ne_of_none p2 nt2).symm
    refine q _ s4 ⟨?_, ?_, ?_, ⟨ts ++ [t2], ?_, ?_⟩, s4.house W.lists W.house, W.n1, W.n2, W.n3⟩
    · rw [upd_ne nwp, upd_ne (ne_of_none o2 nt2)]; exact o2
    · rw [upd_ne W.n2, upd_ne (ne_of_none r2 nt2)]; exact r2
    · rw [eb, upd_ne W.n3, upd_ne (ne_of_none b2 nt2)]; exact b2
    · rw [upd_same, List.map_append]; rfl
    · exact (s4.tl W.lists tl).append (TL.one (by rw [upd_ne ntp, upd_same]; rfl))
end
end K5

namespace K5
open PySem PySem.Spec PyProof.Rows L2
def spCross (K : PySem.W.Frag) (C : Addr) : Sp := fun vs H Q _ => ∃ (z : Pt) (a cr : Addr) (d x y n p0 : Nat) (L : List Nat) (ds : List (Nat × Nat)) (S : S2) (l : List Mv), vs = [.ref z.wk, .ref cr, .int (d : Int)] ∧ WkAt K C H z a ds S l ∧ Tree n ds ∧ StOk n ds S ∧ Joins ds d x y ∧
  H cr = some (.lst (nv L)) ∧ cr ∉ z.m ∧ L.Nodup ∧ (∀ p ∈ L, S.1[p]? = some x) ∧ p0 ∈ L ∧ S.2[d]? ≠ some p0 ∧ l.length + L.length ≤ 100000 ∧
  ∀ (H' : Hp) (A : S2) (m : List Mv) (ord : List Nat), Saves z.m H H' → ord.Perm L → ord = ordF L (S.2.getD d 0) → Crs ds S d x y ord ord.length A m → WkAt K C H' z a ds A (l ++ m) → Q .non H'
def spLead (K : PySem.W.Frag) (C : Addr) : Sp := fun vs H Q _ => ∃ (z : Pt) (a cr dq : Addr) (x y n : Nat) (L w : List Nat) (ds : List (Nat × Nat)) (S : S2) (l : List Mv), vs = [.ref z.wk, .ref cr, .ref dq] ∧ WkAt K C H z a ds S l ∧ Tree n ds ∧ StOk n ds S ∧
  H cr = some (.lst (nv L)) ∧ cr ∉ z.m ∧ H dq = some (.lst (nv w)) ∧ dq ∉ z.m ∧ L.Nodup ∧ L ≠ [] ∧ (∀ p ∈ L, S.1[p]? = some x) ∧ Walk ds x w y ∧ w.Nodup ∧ (2 ≤ L.length ∨ ∀ p ∈ L, ∀ e ∈ w, S.2[e]? ≠ some p) ∧ l.length + w.length * L.length + L.length ≤ 100000 ∧
  ∀ (H' : Hp) (A : S2) (m : List Mv), Saves z.m H H' → Led ds S x y L w A m → WkAt K C H' z a ds A (l ++ m) → Q .non H'
def spDoorsTo (K : PySem.W.Frag) (C : Addr) : Sp := fun vs H Q _ => ∃ (z : Pt) (a : Addr) (p x y n : Nat) (ds : List (Nat × Nat)) (S : S2) (l : List Mv), vs = [.ref z.wk, .int (p : Int), .int (y : Int)] ∧ WkAt K C H z a ds S l ∧ Tree n ds ∧ n ≤ 1000 ∧ x < n ∧ y < n ∧ S.1[p]? = some x ∧
  ∀ (H' : Hp) (q : Addr) (w : List Nat), Same H H' → H q = none → H' q = some (.lst (nv w)) → Walk ds x w y → w.Nodup → Q (.ref q) H'
theorem nv_filter {L : List Nat} {i v : Nat} (f : Nat → Bool) (h : L[i]? = some v) : (L.take (i + 1)).filter f = (L.take i).filter f ++ if f v = true then [v] else [] := by
  rw [List.take_add_one,
        h, List.filter_append]
  show _ ++ [v].filter f = _
  rw [List.filter_cons]
  split
  · rfl
  · rfl
theorem ord_perm (L : List Nat) (c : Nat) : (L.filter (fun v => decide (v ≠ c)) ++ L.filter fun v => decide (v = c)).Perm L := by
  have := List.filter_append_perm (fun v => decide (v ≠ c)) L
  refine List.Perm.trans (List.Perm.append_left _ ?_) this
  have : (fun v : Nat => !decide (v ≠ c)) = fun v => decide (v = c) := by
    funext v
    by_cases e : v = c <;> simp [e]
  rw [this]
theorem ord_fst {L : List Nat} {c p0 : Nat} (h : p0 ∈ L) (ne : p0 ≠ c) : ∀ p, (L.filter (fun v => decide (v ≠ c)) ++ L.filter fun v => decide (v = c))[0]? = some p → p ≠ c := by
  intro p hp
  have m : p0 ∈ L.filter fun v => decide (v ≠ c) := List.mem_filter.mpr ⟨h, decide_eq_true ne⟩
  have l := List.length_pos_of_mem m
  rw [List.getElem?_append_left l] at hp
  exact of_decide_eq_true (List.mem_filter.mp (List.mem_of_getElem? hp)).2
section
variable {P : Program} {w : World} {K : PySem.W.Frag} {mg : Str → Option Value} {base : Heap} {C_Walk : Addr}
theorem ok_Walk_cross (T : Bl mg) (cl_Walk : ClsD K mg "Walk" C_Walk wkN) (D : MetD K C_Walk "cross" "Walk.cross" s_Walk_cross) (C_Walk_step : CalM P w K mg base C_Walk "step" ["self", "person", "door"] 1 (spStep K C_Walk)) : CalM P w K mg base C_Walk "cross" ["self", "crowd", "door"] 2 (spCross K C_Walk) := by
  refine D.ok sc_Walk_cross (fun _ _ _ _ _ _ us hl => match us, hl with | [_, _, _], _ => rfl) (fun vs H Q E h => ?_) (fun f cdv A outer s0 H vs Q E hr h => ?_)
  · obtain ⟨z, a, cr, d, x, y, n, p0, L, ds, S, l, rfl, _⟩ := h
    rfl
  obtain ⟨z, a, cr, d, x, y, n, p0, L, ds, S, l, rfl, W, tree, ok, jo, hcr, ncr, nd, hx, hp0, nb0, ll, q⟩ := h
  have cls := cl_Walk.cl
  have no := cl_Walk.no
  obtain ⟨f_Walk_step, fd_Walk_step, M_Walk_step, b_Walk_step, G_Walk_step⟩ := C_Walk_step
  have ld : d < S.2.length := by rw [ok.doors]; exact joins_lt jo
  obtain ⟨c, hc⟩ : ∃ c, S.2[d]? = some c := get_of rfl ld
  have nc : p0 ≠ c := fun e => nb0 (by rw [hc, e])
  have lL : L.length ≤ 100000 := by omega
  refine ⟨_, (pss_cons (ps_set (i := 3) sc_Walk_cross.nd rfl (.inr rfl) (pe_ix ix_list (pe_fld (pv 0) rfl) (pv 2) (fun _ _ => rfl)))
    (pss_one (ps_for PassesOwn.never rfl (pi_list (pe_op op_cat (pe_lc (own := [("who", 5)]) (g := gName 5)  rfl sc_Walk_cross.nd (pi_list (pv 1)) (blkOk_by (N := N_Walk_cross) (sc := defScope s_Walk_cross) (own := [("who", 5)]) (by decide +kernel)) (fun _ _ _ _ _ => (pg_name (i := 5) sc_Walk_cross.nd rfl (.inl rfl) (.inr rfl))) (fun _ _ _ _ _ => (pts_one (pt_cmpR op_ne (pv 5) (pv 3) (nomark _)))) (fun _ _ _ _ _ => (pv 5))) (pe_lc (own := [("who", 5)]) (g := gName 5)  rfl sc_Walk_cross.nd (pi_list (pv 1)) (blkOk_by (N := N_Walk_cross) (sc := defScope s_Walk_cross) (own := [("who", 5)]) (by decide +kernel)) (fun _ _ _ _ _ => (pg_name (i := 5) sc_Walk_cross.nd rfl (.inl rfl) (.inr rfl))) (fun _ _ _ _ _ => (pts_one (pt_cmpR op_eq (pv 5) (pv 3) (nomark _)))) (fun _ _ _ _ _ => (pv 5))))) (pg_name (i := 4) sc_Walk_cross.nd rfl (.inl rfl))
    (pss_one (ps_expr (pe_meth (pv 0) cl_Walk.cl M_Walk_step G_Walk_step (hr.mono (by decide)) b_Walk_step .nil pass0 (pa_cons (pv 4) (pa_cons (pv 2) pa_nil)))))))), ?_⟩
  refine ⟨_, rfl, z.wk, C_Walk, z.dx, _, .ref z.b, rfl, W.ob, cls, no _ (by decide), rfl, _, rfl, z.b, _, _, _, rfl, rfl, SqL.of W.br, atI_nat (nv_get hc), ?_⟩
  refine ⟨_, rfl, cr, rfl, ⟨_, SqL.of hcr⟩, fun p1 np1 => ?_⟩
  refine lc_it (walk_list (K := K) (a := cr) (xs := nv L)) (fun i H2 => Same H H2 ∧ H2 p1 = some (.lst (nv ((L.take i).filter fun v => decide (v ≠ c))))) ⟨Same.upd np1, upd_same⟩ (fun i H2 _ h => SqL.of (h.1 _ _ hcr)) ?_ ?_
  · rintro i x' H2 H3 hi ⟨sm, hp⟩ ⟨rfl, ex⟩
    obtain ⟨v, hv, rfl⟩ := nv_some ex
    have lt := List.length_filter_le (fun v => decide (v ≠ c)) (L.take i)
    have lti := List.length_take_le' i L
    refine ⟨rfl, _, rfl, _, rfl, rfl, _, rfl, ?_⟩
    by_cases e : v = c
    · subst e
      rw [show (!decide (V.int (v : Int) = V.int (v : Int))) = false by simp]
      refine iteF ⟨sm, ?_⟩
      rw [hp, nv_filter _ hv, if_neg (by simp), List.append_nil]
    · rw [show (!decide (V.int (v : Int) = V.int (c : Int))) = true by simp; omega]
      refine iteT ⟨_, rfl, _, hp, ?_, sm.at np1, ?_⟩
      · rw [nv_len]
        exact Nat.lt_of_le_of_lt (by omega : _ ≤ 100000) (by decide)
      · rw [upd_same, nv_filter _ hv, if_pos (by simpa using e), nv_snoc]
  rintro H2 ⟨s2, hp1⟩
  rw [nv_len, List.take_length] at hp1
  refine ⟨_, rfl, cr, rfl, ⟨_, SqL.of (s2 _ _ hcr)⟩, fun p2 np2 => ?_⟩
  refine lc_it (walk_list (K := K) (a := cr) (xs := nv L)) (fun i H3 => Same H2 H3 ∧ H3 p2 = some (.lst (nv ((L.take i).filter fun v => decide (v = c))))) ⟨Same.upd np2, upd_same⟩ (fun i H3 _ h => SqL.of (h.1 _ _ (s2 _ _ hcr))) ?_ ?_
  · rintro i x' H3 H4 hi ⟨sm, hp⟩ ⟨rfl, ex⟩
    obtain ⟨v, hv, rfl⟩ := nv_some ex
    have lt := List.length_filter_le (fun v => decide (v = c)) (L.take i)
    have lti := List.length_take_le' i L
    refine ⟨rfl, _, rfl, _, rfl, rfl, _, rfl, ?_⟩
    by_cases e : v = c
    · subst e
      rw [show (decide (V.int (v : Int) = V.int (v : Int))) = true by simp]
      refine iteT ⟨_, rfl, _, hp, ?_, sm.at np2, ?_⟩
      · rw [nv_len]
        exact Nat.lt_of_le_of_lt (by omega : _ ≤ 100000) (by decide)
      · rw [upd_same, nv_filter _ hv, if_pos (by simp), nv_snoc]
    · rw [show (decide (V.int (v : Int) = V.int (c : Int))) = false by simp; omega]
      refine iteF ⟨sm, ?_⟩
      rw [hp, nv_filter _ hv, if_neg (by simpa using e), List.append_nil]
  rintro H3 ⟨s3, hp2⟩
  rw [nv_len, List.take_length] at hp2
  have pm := ord_perm L c
  have fst0 := ord_fst hp0 nc
  have eo : L.filter (fun v => decide (v ≠ c)) ++ L.filter (fun v => decide (v = c)) = ordF L (S.2.getD d 0) := by rw [getD_of hc]; rfl
  generalize hA : L.filter (fun v => decide (v ≠ c)) = A1 at pm fst0 hp1 eo
  generalize hB : L.filter (fun v => decide (v = c)) = A2 at pm fst0 hp2 eo
  have lpm := pm.length_eq
  rw [List.length_append] at lpm
  refine ⟨p1, p2, _, _, rfl, rfl, s3 _ _ hp1, hp2, ?_, fun p3 np3 => ⟨p3, rfl, ⟨_, SqL.of upd_same⟩, ?_⟩⟩
  · rw [nv_len, nv_len]
    exact Nat.le_of_lt (Nat.lt_of_le_of_lt (by omega : _ ≤ 100000) (by decide))
  have s4 : Same H (upd H3 p3 (.lst (nv A1 ++ nv A2))) := (s2.trans s3).trans (Same.upd np3)
  have np3' : p3 ∉ z.m := W.new ((s2.trans s3).free np3)
  have h4 : upd H3 p3 (.lst (nv A1 ++ nv A2)) p3 = some (.lst (nv (A1 ++ A2))) := by
    rw [upd_same]
    unfold nv
    rw [List.map_append]
  have enl : nv A1 ++ nv A2 = nv (A1 ++ A2) := by
    unfold nv
    rw [List.map_append]
  rw [enl] at s4 h4 ⊢
  generalize upd H3 p3 (.lst (nv (A1 ++ A2))) = H4 at s4 h4 ⊢
  have ndo : (A1 ++ A2).Nodup := pm.nodup_iff.mpr nd
  generalize A1 ++ A2 = ord at pm fst0 h4 ndo eo ⊢
  have W4 := W.same s4
  refine for_it (walk_list (K := K) (a := p3) (xs := nv ord)) (fun k σ H5 => ∃ (y4 y5 : Option V) (B : S2) (m : List Mv), σ = [some (.ref z.wk), some (.ref cr), some (.int (d : Int)), some (.int (c : Int)), y4, y5] ∧ Saves z.m H4 H5 ∧ WkAt K C_Walk H5 z a ds B (l ++ m) ∧ Crs ds S d x y ord k B m)
    ⟨_, _, S, [], rfl, .refl, by rw [List.append_nil]; exact W4, Crs.zero⟩ (fun i σ H5 _ ⟨_, _, _, _, _, sm, _⟩ => SqL.of (sm _ _ h4 np3')) ?_ ?_
  · rintro k x' σ H5 H6 hk ⟨y4, y5, B, m, rfl, sm, WB, crs⟩ ⟨rfl, ex⟩
    obtain ⟨v, hv, rfl⟩ := nv_some ex
    obtain ⟨ca, vx, vb, crs2⟩ := crs.step tree ok jo ndo (fun p hp => hx p (pm.mem_iff.mp hp)) hv (fun p hp => by
      rw [hc]
      exact fun e => fst0 p hp (Option.some.inj e).symm)
    have lk := get_lt hv
    have lo := pm.length_eq
    refine ⟨_, rfl, z.wk, z.dx, _, rfl, WB.ob, rfl, _, rfl, _, rfl, ?_⟩
    refine ⟨z, a, v, d, x, y, n, ds, B, l ++ m, rfl, WB, tree, crs.path.ok tree ok, jo, vx, ?_, fun H7 s7 W7 => ?_⟩
    · rw [List.length_append, crs.len]
      omega
    · rw [List.append_assoc] at W7
      exact ⟨_, _, _, _, rfl, sm.trans s7, W7, crs2⟩
  · rintro σ H5 ⟨y4, y5, B, m, rfl, sm, WB, crs⟩
    rw [nv_len] at crs
    exact q H5 B m ord ((Saves.of s4).trans sm) pm eo crs WB
theorem ok_Walk_lead (T : Bl mg) (cl_Walk : ClsD K mg "Walk" C_Walk wkN) (D : MetD K C_Walk "lead" "Walk.lead" s_Walk_lead) (C_Walk_cross : CalM P w K mg base C_Walk "cross" ["self", "crowd", "door"] 2 (spCross K C_Walk)) : CalM P w K mg base C_Walk "lead" ["self", "crowd", "doors"] 3 (spLead K C_Walk) := by
  refine D.ok sc_Walk_lead (fun _ _ _ _ _ _ us hl => match us, hl with | [_, _, _], _ => rfl) (fun vs H Q E h => ?_) (fun f cdv A outer s0 H vs Q E hr h => ?_)
  · obtain ⟨z, a, cr, dq, x, y, n, L, wy, ds, S, l, rfl, _⟩ := h
    rfl
  obtain ⟨z, a, cr, dq, x, y, n, L, wy, ds, S, l, rfl, W, tree, ok, hcr, ncr, hdq, ndq, nd, ne, hx, wk, nw, free, ll, q⟩ := h
  have cls := cl_Walk.cl
  have no := cl_Walk.no
  obtain ⟨f_Walk_cross, fd_Walk_cross, M_Walk_cross, b_Walk_cross, G_Walk_cross⟩ := C_Walk_cross
  refine ⟨_, (pss_one (ps_for PassesOwn.never rfl (pi_list (pv 2)) (pg_name (i := 3) sc_Walk_lead.nd rfl (.inl rfl))
    (pss_one (ps_expr (pe_meth (pv 0) cl_Walk.cl M_Walk_cross G_Walk_cross (hr.mono (by decide)) b_Walk_cross .nil pass0 (pa_cons (pv 1) (pa_cons (pv 3) pa_nil))))))), ?_⟩
  refine ⟨_, rfl, dq, rfl, ⟨_, SqL.of hdq⟩, ?_⟩
  refine for_it (walk_list (K := K) (a := dq) (xs := nv wy)) (fun k σ H3 => ∃ (y3 : Option V) (B : S2) (m : List Mv) (u : Nat), σ = [some (.ref z.wk), some (.ref cr), some (.ref dq), y3] ∧ Saves z.m H H3 ∧ WkAt K C_Walk H3 z a ds B (l ++ m) ∧ Led ds S x u L (wy.take k) B m ∧ Walk ds u (wy.drop k) y)
    ⟨_, S, [], x, rfl, .refl, by rw [List.append_nil]; exact W, by rw [List.take_zero]; exact Led.nil hx, wk⟩ (fun i σ H3 _ ⟨_, _, _, _, _, sm, _⟩ => SqL.of (sm _ _ hdq ndq)) ?_ ?_
  · rintro k x' σ H3 H4 hk ⟨y3, B, m, u, rfl, sm, WB, led, wku⟩ ⟨rfl, ex⟩
    obtain ⟨d, hd, rfl⟩ := nv_some ex
    have lk := get_lt hd
    have ed : wy.drop k = d :: wy.drop (k + 1) := by
      have := List.drop_eq_getElem_cons lk
      rw [List.getElem?_eq_getElem lk] at hd
      rw [Option.some.inj hd] at this
      exact this
    have et : wy.take (k + 1) = wy.take k ++ [d] := by rw [List.take_add_one, hd]; rfl
    rw [ed] at wku
    cases wku with
    | @cons _ u' _ _ _ jo wku =>
    have dk : d ∉ wy.take k := fun z1 => by
      have := nw
      rw [← List.take_append_drop k wy, ed] at this
      exact (List.nodup_append.mp this).2.2 d z1 d List.mem_cons_self rfl
    obtain ⟨p0, hp0, nb0⟩ : ∃ p0, p0 ∈ L ∧ B.2[d]? ≠ some p0 := by
      rcases free with two | fr
      · match L, two, nd with
        | p :: p' :: r, _, nd =>
          by_cases c : B.2[d]? = some p
          · refine ⟨p', by simp, fun e => ?_⟩
            rw [c] at e
            have := Option.some.inj e
            subst this
            exact (List.nodup_cons.mp nd).1 List.mem_cons_self
          · exact ⟨p, by simp, c⟩
      · obtain ⟨p, hp⟩ := List.exists_mem_of_ne_nil L ne
        exact ⟨p, hp, by rw [led.bars d dk]; exact fr p hp d (List.mem_of_getElem? hd)⟩
    have lm := led.len
    have ltk : (wy.take k).length = k := by rw [List.length_take]; omega
    have lmul : (k + 1) * L.length ≤ wy.length * L.length := Nat.mul_le_mul_right _ lk
    rw [Nat.add_mul, Nat.one_mul] at lmul
    rw [ltk] at lm
    refine ⟨_, rfl, z.wk, z.dx, _, rfl, WB.ob, rfl, _, rfl, _, rfl, ?_⟩
    refine ⟨z, a, cr, d, u, u', n, p0, L, ds, B, l ++ m, rfl, WB, tree, led.path.ok tree ok, jo, sm _ _ hcr ncr, ncr, nd, led.done, hp0, nb0, ?_, fun H7 A2 m2 ord s7 pm eo crs W7 => ?_⟩
    · rw [List.length_append]
      omega
    · rw [List.append_assoc] at W7
      exact ⟨_, A2, m ++ m2, u', rfl, sm.trans s7, W7, by rw [et]; exact led.add crs jo eo pm, wku⟩
  · rintro σ H3 ⟨y3, B, m, u, rfl, sm, WB, led, wku⟩
    rw [nv_len, List.take_length] at led
    rw [nv_len, List.drop_length] at wku
    cases wku
    exact q H3 B m sm led WB
theorem ok_Walk_doors_to (T : Bl mg) (cl_Walk : ClsD K mg "Walk" C_Walk wkN) (D : MetD K C_Walk "doors_to" "Walk.doors_to" s_Walk_doors_to) (C_doors_between : Cal P w K mg base "doors_between" ["house", "a", "b"] 4 (spPath K)) : CalM P w K mg base C_Walk "doors_to" ["self", "person", "room"] 5 (spDoorsTo K C_Walk) := by
  refine D.ok sc_Walk_doors_to (fun _ _ _ _ _ _ us hl => match us, hl with | [_, _, _], _ => rfl) (fun vs H Q E h => ?_) (fun f cdv A outer s0 H vs Q E hr h => ?_)
  · obtain ⟨z, a, p, x, y, n, ds, S, l, rfl, _⟩ := h
    rfl
  obtain ⟨z, a, p, x, y, n, ds, S, l, rfl, W, tree, hn, hx, hy, px, q⟩ := h
  have cls := cl_Walk.cl
  have no := cl_Walk.no
  obtain ⟨f_doors_between, fd_doors_between, g_doors_between, k_doors_between, b_doors_between, G_doors_between⟩ := C_doors_between
  refine ⟨_, (pss_one (ps_ret (pe_call G_doors_between (hr.mono (by decide)) (by rfl) g_doors_between k_doors_between b_doors_between .nil pass0 (pa_cons (pe_fld (pv 0) rfl) (pa_cons (pe_ix ix_list (pe_fld (pv 0) rfl) (pv 1) (fun _ _ => rfl)) (pa_cons (pv 2) pa_nil)))))), ?_⟩
  refine ⟨_, rfl, z.wk, C_Walk, z.dx, _, .ref a, rfl, W.ob, cls, no _ (by decide), rfl, _, rfl, z.wk, C_Walk, z.dx, _, .ref z.r, rfl, W.ob, cls, no _ (by decide), rfl, _, rfl, z.r, _, _, _, rfl, rfl, SqL.of W.rm, atI_nat (nv_get px), _, rfl, ?_⟩
  exact ⟨a, ds, n, x, y, rfl, W.house, tree, hn, hx, hy, fun H1 q1 path s1 nq hq wk nd => q H1 q1 path s1 nq hq wk nd⟩
end
end K5

namespace K5
open PySem PySem.Spec PyProof.Rows L2
def spShared (K : PySem.W.Frag) : Sp := fun vs H Q _ => ∃ (dq oa ob : Addr) (w A B : List Nat), vs = [.ref dq, .ref oa, .ref ob] ∧ H dq = some (.lst (nv w)) ∧ H oa = some (.lst (nv A)) ∧ H ob = some (.lst (nv B)) ∧ w.length ≤ 1000 ∧
  ∀ k, k ≤ w.length → (∀ e ∈ w.take k, e ∈ A) → (∀ e, w[k]? = some e → e ∉ A) → ((¬ ∀ e ∈ w.drop k, e ∈ B) → ∀ H', Same H H' → Q .non H') ∧
    ((∀ e ∈ w.drop k, e ∈ B) → ∀ (H' : Hp) (t u v : Addr), Same H H' → H t = none → H u = none → H v = none → H' t = some (.tup [.ref u, .ref v]) → H' u = some (.lst (nv (w.take k))) → H' v = some (.lst (nv (w.drop k).reverse)) → Q (.ref t) H')
def spBarNot (K : PySem.W.Frag) (C : Addr) : Sp := fun vs H Q _ => ∃ (z : Pt) (a : Addr) (p n : Nat) (ds : List (Nat × Nat)) (S : S2) (l : List Mv), vs = [.ref z.wk, .int (p : Int)] ∧ WkAt K C H z a ds S l ∧ StOk n ds S ∧ n ≤ 60 ∧ ds.length < n ∧
  ∀ (H' : Hp) (q : Addr), Same H H' → H q = none → H' q = some (.lst (nv ((List.range S.2.length).filter fun d => decide (S.2[d]? ≠ some p)))) → Q (.ref q) H'
theorem all_in {L B : List Nat} : (L.map fun e => decide (e ∈ B)).all id = true ↔ ∀ e ∈ L, e ∈ B := by
  rw [List.all_eq_true]
  constructor
  · intro h e he
    exact of_decide_eq_true (h _ (List.mem_map.mpr ⟨e, he, rfl⟩))
  · intro h x hx
    obtain ⟨e, he, rfl⟩ := List.mem_map.mp hx
    exact decide_eq_true (h e he)
theorem iteT' {b : Bool} {A B : Prop} (h : b = true) (x : A) : if b = true then A else B := by
  rw [if_pos h]
  exact x
theorem iteF' {b : Bool} {A B : Prop} (h : b = false) (x : B) : if b = true then A else B := by
  subst h
  exact x
theorem cutL_to {xs : List V} {k : Nat} (h : k ≤ xs.length) : cutV xs none (some (k : Int)) = xs.take k := by
  unfold cutV
  rw [HT.sIx_none, HT.sIx_nat, Nat.min_eq_left h, List.drop_zero, Nat.sub_zero]
theorem cutL_from {xs : List V} {k : Nat} (h : k ≤ xs.length) : cutV xs (some (k : Int)) none = xs.drop k := by
  unfold cutV
  rw [HT.sIx_none, HT.sIx_nat, Nat.min_eq_left h, List.take_of_length_le]
  rw [List.length_drop]
  exact Nat.le_refl _
section
variable {P : Program} {w : World} {K : PySem.W.Frag} {mg : Str → Option Value} {base : Heap} {C_Walk : Addr}
theorem ok_doors_not_barring (T : Bl mg) (cl_Walk : ClsD K mg "Walk" C_Walk wkN) (D : Def K mg "doors_not_barring" s_doors_not_barring) : Cal P w K mg base "doors_not_barring" ["walk", "person"] 1 (spBarNot K C_Walk) := by
  refine D.ok sc_doors_not_barring (fun _ _ _ _ _ _ us hl => match us, hl with | [_, _], _ => rfl) (fun vs H Q E h => ?_) (fun f cdv A outer s H vs Q E hr h => ?_)
  · obtain ⟨z, a, p, n, ds, S, l, rfl, _⟩ := h
    rfl
  obtain ⟨z, a, p, n, ds, S, l, rfl, W, ok, hn, hdn, q⟩ := h
  have cls := cl_Walk.cl
  have no := cl_Walk.no
  refine ⟨_, (pss_one (ps_ret (pe_lc (own := [("door", 2), ("who", 3)]) (g := gTup K 2 (gCons (gName 2) (gCons (gName 3) gNil)))  rfl sc_doors_not_barring.nd (pi_enum (by rfl) T.enumerate (pa_cons (pe_fld (pv 0) rfl) pa_nil)) (blkOk_by (N := N_doors_not_barring) (sc := defScope s_doors_not_barring) (own := [("door", 2), ("who", 3)]) (by decide +kernel)) (fun _ _ _ _ _ => (pg_tup (n := 2) rfl (pgs_cons (pg_name (i := 2) sc_doors_not_barring.nd rfl (.inl rfl) (.inr rfl)) (pgs_cons (pg_name (i := 3) sc_doors_not_barring.nd rfl (.inl rfl) (.inr rfl)) pgs_nil)))) (fun _ _ _ _ _ => (pts_one (pt_cmpR op_ne (pv 3) (pv 1) (nomark _)))) (fun _ _ _ _ _ => (pv 2))))), ?_⟩
  refine ⟨_, rfl, z.wk, C_Walk, z.dx, _, .ref z.b, rfl, W.ob, cls, no _ (by decide), rfl, z.b, _, rfl, SqL.of W.br, fun pd npd => ?_⟩
  have hdl := ok.doors
  refine lc_it (walk_enum (K := K) (a := z.b) (xs := nv S.2)) (fun i H2 => Same H H2 ∧ H2 pd = some (.lst (nv ((List.range i).filter fun d => decide (S.2[d]? ≠ some p))))) ⟨Same.upd npd, upd_same⟩ (fun i H2 _ h => SqL.of (h.1 _ _ W.br)) ?_ ?_
  · rintro i x H2 H3 hi ⟨sm, hp⟩ ⟨t, x1, x2, rfl, nt, rfl, ex1, ex2⟩
    cases ex1
    obtain ⟨v, hv, rfl⟩ := nv_some ex2
    have st : Same H2 (upd H2 t (.tup [.int (i : Nat), .int (v : Int)])) := Same.upd nt
    have hp4 := st _ _ hp
    have il := get_lt hv
    refine ⟨t, _, rfl, SqT.of upd_same, rfl, _, _, rfl, _, _, rfl, rfl, rfl, ?_⟩
    refine ⟨_, rfl, _, rfl, rfl, _, rfl, ?_⟩
    by_cases c : v = p
    · subst c
      rw [show (!decide (V.int (v : Int) = V.int (v : Int))) = false by simp]
      refine iteF ⟨sm.trans st, ?_⟩
      have e1 : [i].filter (fun d => decide (S.2[d]? ≠ some v)) = [] := by simp [hv]
      rw [hp4, List.range_succ, List.filter_append, e1, List.append_nil]
    · rw [show (!decide (V.int (v : Int) = V.int (p : Int))) = true by simp; omega]
      refine iteT ⟨_, rfl, _, hp4, ?_, (sm.trans st).at npd, ?_⟩
      · rw [nv_len]
        have h1 := List.length_filter_le (fun d => decide (S.2[d]? ≠ some p)) (List.range i)
        rw [List.length_range] at h1
        exact small1000 (by omega)
      · have e1 : [i].filter (fun d => decide (S.2[d]? ≠ some p)) = [i] := by simp [hv, c]
        rw [upd_same, List.range_succ, List.filter_append, e1, nv_snoc]
  · rintro H2 ⟨sm, hp⟩
    rw [nv_len] at hp
    exact q H2 pd sm npd hp
theorem ok_shared_path (T : Bl mg) (D : Def K mg "shared_path" s_shared_path) : Cal P w K mg base "shared_path" ["doors", "first_open", "second_open"] 1 (spShared K) := by
  refine D.ok sc_shared_path (fun _ _ _ _ _ _ us hl => match us, hl with | [_, _, _], _ => rfl) (fun vs H Q E h => ?_) (fun f cdv A outer s H vs Q E hr h => ?_)
  · obtain ⟨dq, oa, ob, wy, A, B, rfl, _⟩ := h
    rfl
  obtain ⟨dq, oa, ob, wy, A, B, rfl, hd, ha, hb, ll, q⟩ := h
  refine ⟨_, (pss_cons (ps_set (i := 3) sc_shared_path.nd rfl (.inl rfl) pe_int)
    (pss_cons (ps_while PassesOwn.never (PW.pt (pw_and (pt_cmpR op_lt (pv 3) (pe_callB call_len_seq (by rfl) T.len PySem.boot_len (pa_cons (pv 0) pa_nil)) (nomark _)) (pw_and1 (pt_cmpR op_in_seq (pe_ix ix_list (pv 0) (pv 3) (fun _ _ => rfl)) (pv 1) (by rfl))))) (pss_one (ps_aug (i := 3) sc_shared_path.nd rfl (.inl rfl) pe_int ip_add)))
    (pss_cons (ps_set (i := 4) sc_shared_path.nd rfl (.inl rfl) (pe_slice sl_list (pv 0) (po_some (pv 3)) po_none))
    (pss_cons (ps_if (pt_not (pt_val (pe_callB (cr_all rfl) (by rfl) T.all (by decide +kernel) (pa_cons (pe_lc (own := [("door", 5)]) (g := gName 5)  (te := (tOp (rIn K false) (tVar 5) (tVar 2))) rfl sc_shared_path.nd (pi_list (pv 4)) (blkOk_by (N := N_shared_path) (sc := defScope s_shared_path) (own := [("door", 5)]) (by decide +kernel)) (fun _ _ _ _ _ => (pg_name (i := 5) sc_shared_path.nd rfl (.inl rfl) (.inr rfl))) (fun _ _ _ _ _ => pts_nil) (fun _ _ _ _ _ => (pe_cmpR op_in_seq (pv 5) (pv 2) (by rfl)))) pa_nil)))) (pss_one (ps_ret pe_non)) pss_nil)
    (pss_one (ps_ret (pe_tup (pa_cons (pe_slice sl_list (pv 0) po_none (po_some (pv 3))) (pa_cons (pe_revL (pv 4)) pa_nil))))))))), ?_⟩
  refine ⟨fun m σ H1 => ∃ (k : Nat) (y4 y5 : Option V), m = wy.length - k ∧ k ≤ wy.length ∧ σ = [some (.ref dq), some (.ref oa), some (.ref ob), some (.int (k : Int)), y4, y5] ∧ H1 = H ∧ ∀ e ∈ wy.take k, e ∈ A,
    ⟨_, 0, _, _, rfl, Nat.zero_le _, rfl, rfl, fun e he => by rw [List.take_zero] at he; exact absurd he List.not_mem_nil⟩, fun m σ H1 hW => ?_⟩
  obtain ⟨k, y4, y5, rfl, hk, rfl, rfl, hA⟩ := hW
  refine ⟨_, rfl, _, rfl, _, _, rfl, .inl (SqL.of hd), _, _, rfl, rfl, _, rfl, ?_⟩
  have eln : (decide ((k : Int) < ((nv wy).length : Nat))) = decide (k < wy.length) := by
    rw [nv_len]
    by_cases c : k < wy.length <;> simp [c]
  rw [eln]
  by_cases good : ∃ e, wy[k]? = some e ∧ e ∈ A
  · obtain ⟨e, he, eA⟩ := good
    have lt := get_lt he
    rw [decide_eq_true lt]
    refine iteT ⟨_, rfl, _, rfl, dq, _, _, _, rfl, rfl, SqL.of hd, atI_nat (nv_get he), _, rfl, oa, _, rfl, .inl (SqL.of ha), rfl, flat_nv A, _, rfl, ?_⟩
    refine iteT' (by rw [if_neg (by decide), inV_nv]; exact decide_eq_true eA) ?_
    refine ⟨fun σ' H' => σ' = [some (.ref dq), some (.ref oa), some (.ref ob), some (.int ((k + 1 : Nat) : Int)), y4, y5] ∧ H' = H1, fun σ' H' ⟨g1, g2⟩ => ⟨_, by omega, k + 1, y4, y5, rfl, lt, g1, g2, fun e' he' => ?_⟩, ?_⟩
    · rw [List.take_add_one, he] at he'
      rcases List.mem_append.mp he' with he' | he'
      · exact hA e' he'
      · rw [List.mem_singleton.mp he']
        exact eA
    · exact ⟨_, rfl, _, _, rfl, rfl, rfl, rfl⟩
  have hstop : ∀ e, wy[k]? = some e → e ∉ A := fun e he eA => good ⟨e, he, eA⟩
  by_cases lt : k < wy.length
  rw [decide_eq_true lt]
  obtain ⟨e, he⟩ : ∃ e, wy[k]? = some e := get_of rfl lt
  refine iteT ⟨_, rfl, _, rfl, dq, _, _, _, rfl, rfl, SqL.of hd, atI_nat (nv_get he), _, rfl, oa, _, rfl, .inl (SqL.of ha), rfl, flat_nv A, _, rfl, ?_⟩
  refine iteF' (by rw [if_neg (by decide), inV_nv]; exact decide_eq_false (hstop e he)) ?_
  rotate_left
  rw [decide_eq_false lt]
  refine iteF (iteF ?_)
  all_goals
    obtain ⟨q1, q2⟩ := q k hk hA hstop
    refine ⟨_, rfl, _, rfl, _, rfl, dq, _, rfl, SqL.of hd, fun u nu => ?_⟩
    have su := Same.upd (o := .lst (cutV (nv wy) (some (k : Int)) none)) nu
    have hu : upd H1 u (.lst (cutV (nv wy) (some (k : Int)) none)) u = some (.lst (nv (wy.drop k))) := by
      rw [upd_same, cutL_from (by rw [nv_len]; exact hk)]
      unfold nv
      rw [List.map_drop]
    generalize upd H1 u (.lst (cutV (nv wy) (some (k : Int)) none)) = H2 at su hu ⊢
    refine ⟨_, rfl, u, rfl, ⟨_, SqL.of hu⟩, fun pb npb => ?_⟩
    refine lc_it (walk_list (K := K) (a := u) (xs := nv (wy.drop k))) (fun i H3 => Same H2 H3 ∧ H3 pb = some (.lst (((wy.drop k).take i).map fun e => V.bl (decide (e ∈ B))))) ⟨Same.upd npb, upd_same⟩ (fun i H3 _ h => SqL.of (h.1 _ _ hu)) ?_ ?_
    · rintro i x' H3 H4 hi ⟨sm, hp⟩ ⟨rfl, ex⟩
      obtain ⟨v, hv, rfl⟩ := nv_some ex
      refine ⟨rfl, lcYes ?_⟩
      refine ⟨_, rfl, _, rfl, ob, _, rfl, .inl (SqL.of (sm _ _ (su _ _ hb))), rfl, flat_nv B, _, hp, ?_, sm.at npb, ?_⟩
      · rw [List.length_map, List.length_take]
        have : (wy.drop k).length ≤ wy.length := by rw [List.length_drop]; omega
        exact small1000 (by omega)
      · rw [upd_same, List.take_add_one, hv, List.map_append, if_neg (by decide), inV_nv]
        rfl
    rintro H3 ⟨s3, hpb⟩
    rw [nv_len, List.take_length] at hpb
    refine ⟨pb, (wy.drop k).map (fun e => decide (e ∈ B)), rfl, ?_, _, rfl, ?_⟩
    · rw [List.map_map]
      exact SqL.of hpb
    have s13 := su.trans s3
    by_cases c : ∀ e ∈ wy.drop k, e ∈ B
    · refine iteF' (by rw [all_in.mpr c]; rfl) ?_
      refine ⟨_, rfl, _, rfl, _, rfl, dq, _, rfl, SqL.of (s13 _ _ hd), fun v nv' => ?_⟩
      have sv := s13.trans (Same.upd (o := .lst (cutV (nv wy) none (some (k : Int)))) nv')
      have hv : upd H3 v (.lst (cutV (nv wy) none (some (k : Int)))) v = some (.lst (nv (wy.take k))) := by
        rw [upd_same, cutL_to (by rw [nv_len]; exact hk)]
        unfold nv
        rw [List.map_take]
      have hu4 := (Same.upd (o := .lst (cutV (nv wy) none (some (k : Int)))) nv') _ _ (s3 _ _ hu)
      have nv0 := s13.free nv'
      generalize upd H3 v (.lst (cutV (nv wy) none (some (k : Int)))) = H4 at sv hv hu4 ⊢
      refine ⟨_, rfl, u, _, rfl, SqL.of hu4, fun r nr => ⟨by show 2 ≤ sizeLine; decide, fun t nt => ?_⟩⟩
      have er : (nv (wy.drop k)).reverse = nv (wy.drop k).reverse := by
        unfold nv
        rw [List.map_reverse]
      rw [er] at nt ⊢
      have s5 := sv.trans (Same.upd (o := .lst (nv (wy.drop k).reverse)) nr)
      have hr5 : upd H4 r (.lst (nv (wy.drop k).reverse)) r = some (.lst (nv (wy.drop k).reverse)) := upd_same
      have hv5 := (Same.upd (o := .lst (nv (wy.drop k).reverse)) nr) _ _ hv
      have nr0 := sv.free nr
      generalize upd H4 r (.lst (nv (wy.drop k).reverse)) = H5 at s5 hr5 hv5 nt ⊢
      have s6 := Same.upd (o := .tup [.ref v, .ref r]) nt
      exact q2 c _ t v r (s5.trans s6) (s5.free nt) nv0 nr0 upd_same (s6 _ _ hv5) (s6 _ _ hr5)
    · refine iteT' (by rw [Bool.eq_false_iff.mpr fun z => c (all_in.mp z)]; rfl) ?_
      exact q1 c H3 s13
end
end K5

namespace K5
open PySem PySem.Spec PyProof.Rows L2
/-- one-person crowds, by their numbers -/
def CrsAt (H : Hp) (cs : Addr) (S : S2) : Prop := ∃ ps : List Addr, H cs = some (.lst (ps.map V.ref)) ∧ ps.length = S.1.length ∧ ∀ (i : Nat) (q : Addr), ps[i]? = some q → H q = some (.lst (nv [i]))
def opn (S : S2) (p : Nat) : List Nat := (List.range S.2.length).filter fun d => decide (S.2[d]? ≠ some p)
def OpsAt (H : Hp) (os : Addr) (S : S2) : Prop := ∃ ps : List Addr, H os = some (.lst (ps.map V.ref)) ∧ ps.length = S.1.length ∧ ∀ (i : Nat) (q : Addr), ps[i]? = some q → H q = some (.lst (nv (opn S i)))
theorem CrsAt.same {H H' : Hp} {cs : Addr} {S : S2} (h : CrsAt H cs S) (s : Same H H') : CrsAt H' cs S := by
  obtain ⟨ps, h1, h2, h3⟩ := h
  exact ⟨ps, s _ _ h1, h2, fun i q e => s _ _ (h3 i q e)⟩
theorem OpsAt.same {H H' : Hp} {cs : Addr} {S : S2} (h : OpsAt H cs S) (s : Same H H') : OpsAt H' cs S := by
  obtain ⟨ps, h1, h2, h3⟩ := h
  exact ⟨ps, s _ _ h1, h2, fun i q e => s _ _ (h3 i q e)⟩
theorem mem_opn {n : Nat} {ds : List (Nat × Nat)} {S : S2} (o : StOk n ds S) {p d : Nat} (hd : d < ds.length) : d ∈ opn S p ↔ S.2[d]? ≠ some p := by
  unfold opn
  rw [List.mem_filter, List.mem_range, o.doors]
  exact ⟨fun h => of_decide_eq_true h.2, fun h => ⟨hd, decide_eq_true h⟩⟩
/-- a meeting: who, by what way, how far the first goes -/
structure Meet where
  i : Nat
  j : Nat
  w : List Nat
  k : Nat
structure MeetOk (ds : List (Nat × Nat)) (S : S2) (m : Meet) : Prop where
  ij : m.i < m.j
  jl : m.j < S.1.length
  way : ∃ x y, S.1[m.i]? = some x ∧ S.1[m.j]? = some y ∧ Walk ds x m.w y
  nd : m.w.Nodup
  kl : m.k ≤ m.w.length
  fst : ∀ e ∈ m.w.take m.k, S.2[e]? ≠ some m.i
  snd : ∀ e ∈ m.w.drop m.k, S.2[e]? ≠ some m.j
def MeetAt (B H : Hp) (t : Addr) (m : Meet) : Prop := ∃ u v : Addr, H t = some (.tup [.int (m.w.length : Int), .int (m.i : Int), .int (m.j : Int), .ref u, .ref v]) ∧ H u = some (.lst (nv (m.w.take m.k))) ∧ H v = some (.lst (nv (m.w.drop m.k).reverse)) ∧ B u = none ∧ B v = none
theorem MeetAt.same {B H H' : Hp} {t : Addr} {m : Meet} (h : MeetAt B H t m) (s : Same H H') : MeetAt B H' t m := by
  obtain ⟨u, v, h1, h2, h3, h4, h5⟩ := h
  exact ⟨u, v, s _ _ h1, s _ _ h2, s _ _ h3, h4, h5⟩
open PySem.W (minD)
def splitF (S : S2) (i : Nat) (w : List Nat) : Nat := (w.takeWhile fun e => decide (S.2[e]? ≠ some i)).length
open Classical in
noncomputable def meetF (ds : List (Nat × Nat)) (S : S2) (i j : Nat) : Option Meet :=
  let w := wayF ds (S.1.getD i 0) (S.1.getD j 0)
  if ∀ e ∈ w.drop (splitF S i w), S.2[e]? ≠ some j then some ⟨i, j, w, splitF S i w⟩ else none
noncomputable def rowF (ds : List (Nat × Nat)) (S : S2) (i : Nat) : List Meet := (List.range' (i + 1) (S.1.length - (i + 1))).filterMap (meetF ds S i)
noncomputable def meetsF (ds : List (Nat × Nat)) (S : S2) (f : Nat) : List Meet := (List.range f).flatMap (rowF ds S)
def dMt (m : Meet) : PyData := .tuple [.int (m.w.length : Int), .int (m.i : Int), .int (m.j : Int), .list (((m.w.take m.k).map fun x : Nat => (x : Int)).map .int), .list (((m.w.drop m.k).reverse.map fun x : Nat => (x : Int)).map .int)]
/-- the meeting that min finds -/
def SoonR (ds : List (Nat × Nat)) (S : S2) (m : Meet) : Prop := m ∈ meetsF ds S S.1.length ∧ ∃ m0 r, meetsF ds S S.1.length = m0 :: r ∧ dMt m = minD (dMt m0) (r.map dMt)
theorem split_len {S : S2} {i k : Nat} : ∀ {w : List Nat}, k ≤ w.length → (∀ e ∈ w.take k, S.2[e]? ≠ some i) → (∀ e, w[k]? = some e → S.2[e]? = some i) → splitF S i w = k := by
  induction k with
  | zero =>
    intro w _ _ h
    cases w with
    | nil => rfl
    | cons a w =>
      unfold splitF
      rw [List.takeWhile_cons_of_neg (by rw [h a rfl]; simp)]
      rfl
  | succ k ih =>
    intro w hk h1 h2
    cases w with
    | nil => simp at hk
    | cons a w =>
      have := ih (w := w) (by simpa using hk) (fun e he => h1 e (by rw [List.take_succ_cons]; exact List.mem_cons_of_mem _ he)) (fun e he => h2 e (by simpa using he))
      unfold splitF at this ⊢
      rw [List.takeWhile_cons_of_pos (by simpa using h1 a (by rw [List.take_succ_cons]; exact List.mem_cons_self)), List.length_cons, this]
theorem meet_yes {n : Nat} {ds : List (Nat × Nat)} (T : Tree n ds) {S : S2} {i j k x y : Nat} {w : List Nat} (hx : S.1[i]? = some x) (hy : S.1[j]? = some y) (W : Walk ds x w y) (nd : w.Nodup) (hk : splitF S i w = k) (ok : ∀ e ∈ w.drop k, S.2[e]? ≠ some j) : meetF ds S i j = some ⟨i, j, w, k⟩ := by
  unfold meetF
  simp only [getD_of hx, getD_of hy, way_is T W nd, hk]
  exact if_pos ok
theorem meet_no {n : Nat} {ds : List (Nat × Nat)} (T : Tree n ds) {S : S2} {i j k x y : Nat} {w : List Nat} (hx : S.1[i]? = some x) (hy : S.1[j]? = some y) (W : Walk ds x w y) (nd : w.Nodup) (hk : splitF S i w = k) (bad : ¬ ∀ e ∈ w.drop k, S.2[e]? ≠ some j) : meetF ds S i j = none := by
  unfold meetF
  simp only [getD_of hx, getD_of hy, way_is T W nd, hk]
  exact if_neg bad
theorem meet_ij {ds : List (Nat × Nat)} {S : S2} {i j : Nat} {m : Meet} (h : meetF ds S i j = some m) : m.i = i ∧ m.j = j := by
  unfold meetF at h
  simp only at h
  split at h
  · cases h
    exact ⟨rfl, rfl⟩
  · cases h
theorem mem_meets {ds : List (Nat × Nat)} {S : S2} {f : Nat} {m : Meet} (h : m ∈ meetsF ds S f) : meetF ds S m.i m.j = some m := by
  unfold meetsF at h
  obtain ⟨i, _, hi⟩ := List.mem_flatMap.mp h
  obtain ⟨j, _, hj⟩ := List.mem_filterMap.mp hi
  obtain ⟨e1, e2⟩ := meet_ij hj
  rw [e1, e2]
  exact hj
theorem dMt_ij {a b : Meet} (h : dMt a = dMt b) : a.i = b.i ∧ a.j = b.j := by
  unfold dMt at h
  have h := PyData.tuple.inj h
  simp only [List.cons.injEq, PyData.int.injEq] at h
  omega
theorem SoonR.unique {ds : List (Nat × Nat)} {S : S2} {a b : Meet} (ha : SoonR ds S a) (hb : SoonR ds S b) : a = b := by
  obtain ⟨h1, m0, r, e1, e2⟩ := ha
  obtain ⟨h3, m1, r1, e3, e4⟩ := hb
  rw [e1] at e3
  cases e3
  obtain ⟨i, j⟩ := dMt_ij (e2.trans e4.symm)
  have h1 := mem_meets h1
  have h3 := mem_meets h3
  rw [i, j, h3] at h1
  exact (Option.some.inj h1).symm
def spSoon (K : PySem.W.Frag) (C : Addr) : Sp := fun vs H Q _ => ∃ (z : Pt) (a cs os : Addr) (n : Nat) (ds : List (Nat × Nat)) (S : S2) (l : List Mv), vs = [.ref z.wk, .ref cs, .ref os] ∧ WkAt K C H z a ds S l ∧ Tree n ds ∧ n ≤ 60 ∧ StOk n ds S ∧ CrsAt H cs S ∧ OpsAt H os S ∧ ¬ Apt ds S ∧
  ∀ (H' : Hp) (t : Addr) (m : Meet), Same H H' → MeetOk ds S m → SoonR ds S m → MeetAt H H' t m → Q (.ref t) H'
open PySem.W (alike alikeAll alike_ints AlikeAll)
theorem dp_ints {K : PySem.W.Frag} {H : Hp} : ∀ l : List Nat, DpAll K H (nv l) ((l.map fun x : Nat => (x : Int)).map .int)
  | [] => .nil
  | x :: l => .cons (.int _) (dp_ints l)
theorem dp_meet {K : PySem.W.Frag} {B H : Hp} {t : Addr} {m : Meet} (h : MeetAt B H t m) : Dp K H (.ref t) (dMt m) := by
  obtain ⟨u, v, h1, h2, h3, _⟩ := h
  exact .tup (SqT.of h1) (.cons (.int _) (.cons (.int _) (.cons (.int _) (.cons (.lst (SqL.of h2) (dp_ints _)) (.cons (.lst (SqL.of h3) (dp_ints _)) .nil)))))
theorem dep_ints : ∀ l : List Int, PyData.depthAll (l.map .int) = 0
  | [] => rfl
  | x :: l => by
    rw [List.map_cons, PyData.depthAll, dep_ints l]
    rfl
theorem dep_mt (m : Meet) : (dMt m).depth = 2 := by
  simp only [dMt, PyData.depth, PyData.depthAll, dep_ints]
  rfl
theorem dep_mts : ∀ ms : List Meet, PyData.depthAll (ms.map dMt) ≤ 2
  | [] => Nat.zero_le _
  | m :: ms => by
    have := dep_mts ms
    rw [List.map_cons, PyData.depthAll, dep_mt]
    omega
theorem alike_mt (a b : Meet) : alike (dMt a) (dMt b) = true := by
  simp only [dMt, alike, alikeAll, alike_ints]
  rfl
theorem alike_mts (ms : List Meet) : AlikeAll (ms.map dMt) := by
  refine ⟨fun x hx y hy => ?_, fun x hx => ?_⟩
  · obtain ⟨a, _, rfl⟩ := List.mem_map.mp hx
    obtain ⟨b, _, rfl⟩ := List.mem_map.mp hy
    exact alike_mt a b
  · obtain ⟨a, _, rfl⟩ := List.mem_map.mp hx
    exact fun e => by cases e
/-- the meetings found -/
structure Mts (B H : Hp) (ds : List (Nat × Nat)) (S : S2) (ts : List Addr) (ms : List Meet) : Prop where
  len : ts.length = ms.length
  at_ : ∀ (i : Nat) (t : Addr) (m : Meet), ts[i]? = some t → ms[i]? = some m → MeetAt B H t m
  ok : ∀ m ∈ ms, MeetOk ds S m
theorem Mts.same {B H H' : Hp} {ds S ts ms} (h : Mts B H ds S ts ms) (s : Same H H') : Mts B H' ds S ts ms := ⟨h.len, fun i t m a b => (h.at_ i t m a b).same s, h.ok⟩
theorem Mts.snoc {B H : Hp} {ds S ts ms t m} (h : Mts B H ds S ts ms) (a : MeetAt B H t m) (o : MeetOk ds S m) : Mts B H ds S (ts ++ [t]) (ms ++ [m]) := by
  refine ⟨by rw [List.length_append, List.length_append, h.len]; rfl, fun i t' m' e1 e2 => ?_, fun m' hm => ?_⟩
  · by_cases hi : i < ts.length
    · rw [List.getElem?_append_left hi] at e1
      rw [List.getElem?_append_left (by rw [← h.len]; exact hi)] at e2
      exact h.at_ i t' m' e1 e2
    · have lt := get_lt e1
      rw [List.length_append, List.length_singleton] at lt
      have ei : i = ts.length := by omega
      subst ei
      rw [List.getElem?_append_right (Nat.le_refl _), Nat.sub_self] at e1
      rw [h.len, List.getElem?_append_right (Nat.le_refl _), Nat.sub_self] at e2
      cases e1
      cases e2
      exact a
  · rcases List.mem_append.mp hm with hm | hm
    · exact h.ok m' hm
    · rw [List.mem_singleton.mp hm]
      exact o
theorem Mts.dp {K : PySem.W.Frag} {B H : Hp} : ∀ {ts : List Addr} {ms : List Meet}, ts.length = ms.length → (∀ (i : Nat) (t : Addr) (m : Meet), ts[i]? = some t → ms[i]? = some m → MeetAt B H t m) → DpAll K H (ts.map V.ref) (ms.map dMt)
  | [], [], _, _ => .nil
  | [], _ :: _, h, _ => by simp at h
  | _ :: _, [], h, _ => by simp at h
  | t :: ts, m :: ms, h, hd => .cons (dp_meet (hd 0 t m rfl rfl)) (Mts.dp (by simpa using h) fun i t' m' x y => hd (i + 1) t' m' x y)
theorem But.free {a x : Addr} {o : HO} {H H' : Hp} (b : But a H H') (ha : H' a = some o) (n : H' x = none) : H x = none := by
  cases e : H x with
  | none => rfl
  | some u =>
    have ne : x ≠ a := fun z => by rw [z, ha] at n; cases n
    have := b x u ne e
    rw [n] at this
    cases this
/-- pairs before (f, s) -/
def Bef2 (f s i j : Nat) : Prop := i < f ∨ (i = f ∧ j < s)
section
variable {P : Program} {w : World} {K : PySem.W.Frag} {mg : Str → Option Value} {base : Heap} {C_Walk : Addr}
theorem ok_soonest_meeting (T : Bl mg) (cl_Walk : ClsD K mg "Walk" C_Walk wkN) (D : Def K mg "soonest_meeting" s_soonest_meeting) (C_Walk_doors_to : CalM P w K mg base C_Walk "doors_to" ["self", "person", "room"] 5 (spDoorsTo K C_Walk)) (C_shared_path : Cal P w K mg base "shared_path" ["doors", "first_open", "second_open"] 1 (spShared K)) :
    Cal P w K mg base "soonest_meeting" ["walk", "crowds", "opened"] 6 (spSoon K C_Walk) := by
  refine D.ok sc_soonest_meeting (fun _ _ _ _ _ _ us hl => match us, hl with | [_, _, _], _ => rfl) (fun vs H Q E h => ?_) (fun f cdv A outer s H vs Q E hr h => ?_)
  · obtain ⟨z, a, cs, os, n, ds, S, l, rfl, _⟩ := h
    rfl
  obtain ⟨z, a, cs, os, n, ds, S, l, rfl, W, tree, hn, ok, ⟨ps, hcs, lps, hps⟩, ⟨qs, hos, lqs, hqs⟩, nap, q⟩ := h
  have cls := cl_Walk.cl
  have no := cl_Walk.no
  have few := ok.few
  have hdn := tree.len
  obtain ⟨f_Walk_doors_to, fd_Walk_doors_to, M_Walk_doors_to, b_Walk_doors_to, G_Walk_doors_to⟩ := C_Walk_doors_to
  obtain ⟨f_shared_path, fd_shared_path, g_shared_path, k_shared_path, b_shared_path, G_shared_path⟩ := C_shared_path
  refine ⟨_, (pss_cons (ps_set (i := 3) sc_soonest_meeting.nd rfl (.inl rfl) (pe_lst pa_nil))
    (pss_cons (ps_for PassesOwn.never rfl (pi_range1 rfl T.range (pa_cons (pe_callB call_len_seq (by rfl) T.len PySem.boot_len (pa_cons (pv 1) pa_nil)) pa_nil)) (pg_name (i := 4) sc_soonest_meeting.nd rfl (.inl rfl))
    (pss_one (ps_for PassesOwn.never rfl (pi_range2 rfl T.range (pa_cons (pe_op op_add (pv 4) pe_int) (pa_cons (pe_callB call_len_seq (by rfl) T.len PySem.boot_len (pa_cons (pv 1) pa_nil)) pa_nil))) (pg_name (i := 5) sc_soonest_meeting.nd rfl (.inl rfl))
    (pss_cons (ps_set (i := 6) sc_soonest_meeting.nd rfl (.inl rfl) (pe_meth (pv 0) cl_Walk.cl M_Walk_doors_to G_Walk_doors_to (hr.mono (by decide)) b_Walk_doors_to .nil pass0 (pa_cons (pe_ix ix_list (pe_ix ix_list (pv 1) (pv 4) (fun _ _ => rfl)) pe_int (fun _ _ => rfl)) (pa_cons (pe_ix ix_list (pe_fld (pv 0) rfl) (pe_ix ix_list (pe_ix ix_list (pv 1) (pv 5) (fun _ _ => rfl)) pe_int (fun _ _ => rfl)) (fun _ _ => rfl)) pa_nil))))
    (pss_cons (ps_set (i := 7) sc_soonest_meeting.nd rfl (.inl rfl) (pe_call G_shared_path (hr.mono (by decide)) (by rfl) g_shared_path k_shared_path b_shared_path .nil pass0 (pa_cons (pv 6) (pa_cons (pe_ix ix_list (pv 2) (pv 4) (fun _ _ => rfl)) (pa_cons (pe_ix ix_list (pv 2) (pv 5) (fun _ _ => rfl)) pa_nil)))))
    (pss_one (ps_if (pt_cmpR op_notN (pv 7) pe_non (nomark _)) (pss_one (ps_expr (pe_bm PySem.F.plainAttrs_list PySem.F.slot_list_append PySem.F.type_list_append mt_append (pv 3) (pa_cons (pe_tup (pa_cons (pe_callB call_len_seq (by rfl) T.len PySem.boot_len (pa_cons (pv 6) pa_nil)) (pa_cons (pv 4) (pa_cons (pv 5) (pa_cons (pe_ix ix_tup (pv 7) pe_int (fun _ _ => rfl)) (pa_cons (pe_ix ix_tup (pv 7) pe_int (fun _ _ => rfl)) pa_nil)))))) pa_nil)))) pss_nil)))))))
    (pss_one (ps_ret (pe_callB (cr_minD rfl hr.units) (by rfl) T.min (by decide +kernel) (pa_cons (pv 3) pa_nil)))))), ?_⟩
  refine ⟨Nat.zero_le _, fun pd npd => ?_⟩
  have sp := Same.upd (o := .lst []) npd
  have hp0 : upd H pd (.lst []) pd = some (.lst []) := upd_same
  generalize upd H pd (.lst []) = H1 at sp hp0 ⊢
  refine ⟨_, rfl, _, _, rfl, .inl (SqL.of (sp _ _ hcs)), (S.1.length : Int), congrArg (fun z : Nat => [V.int (z : Int)]) (by rw [List.length_map, lps]), by omega, by omega, ?_⟩
  refine for_range (lo := 0) (n := S.1.length) (fun f σ H2 => ∃ (ts : List Addr) (ms : List Meet) (y4 y5 y6 y7 : Option V), σ = [some (.ref z.wk), some (.ref cs), some (.ref os), some (.ref pd), y4, y5, y6, y7] ∧ But pd H1 H2 ∧ H2 pd = some (.lst (ts.map V.ref)) ∧ Mts H1 H2 ds S ts ms ∧ ms.length ≤ 100 * f ∧ ms = meetsF ds S f ∧
      ∀ i j r, Bef2 f 0 i j → i < j → j < S.1.length → Rg ds S i r → Rg ds S j r → ms ≠ [])
    ⟨[], [], _, _, _, _, rfl, fun _ _ _ e => e, hp0, ⟨rfl, fun i t m h => by simp at h, fun m h => by simp at h⟩, Nat.zero_le _, rfl, fun i j r h => by unfold Bef2 at h; omega⟩ ?_ ?_
  · rintro f' σ H2 hf ⟨ts, ms, y4, y5, y6, y7, rfl, bt, hp, mt, le, eqs, all⟩
    rw [Int.zero_add]
    have sm := But.same sp npd bt
    obtain ⟨pf, hpf⟩ : ∃ pf, ps[f']? = some pf := get_of lps hf
    obtain ⟨qf, hqf⟩ : ∃ qf, qs[f']? = some qf := get_of lqs hf
    obtain ⟨xf, hxf⟩ : ∃ xf, S.1[f']? = some xf := get_of rfl hf
    refine ⟨_, rfl, _, _, rfl, rfl, _, rfl, _, _, rfl, .inl (SqL.of (sm _ _ hcs)), _, _, rfl, ⟨by omega, by omega, by rw [List.length_map, lps]; omega, by rw [List.length_map, lps]; omega⟩, ?_⟩
    have en : (((ps.map V.ref).length : Int) - ((f' : Int) + 1)).toNat = S.1.length - (f' + 1) := by rw [List.length_map, lps]; omega
    rw [en]
    refine for_range (lo := (f' : Int) + 1) (n := S.1.length - (f' + 1)) (fun k σ H2 => ∃ (ts : List Addr) (ms : List Meet) (y5 y6 y7 : Option V), σ = [some (.ref z.wk), some (.ref cs), some (.ref os), some (.ref pd), some (.int (f' : Int)), y5, y6, y7] ∧ But pd H1 H2 ∧ H2 pd = some (.lst (ts.map V.ref)) ∧ Mts H1 H2 ds S ts ms ∧ ms.length ≤ 100 * f' + k ∧ ms = meetsF ds S f' ++ (List.range' (f' + 1) k).filterMap (meetF ds S f') ∧
        ∀ i j r, Bef2 f' (f' + 1 + k) i j → i < j → j < S.1.length → Rg ds S i r → Rg ds S j r → ms ≠ [])
      ⟨ts, ms, _, _, _, rfl, bt, hp, mt, le, by rw [eqs]; simp, fun i j r h ij => all i j r (by unfold Bef2 at h ⊢; omega) ij⟩ ?_ ?_
    · rintro k σ H3 hk ⟨ts, ms, y5, y6, y7, rfl, bt, hp, mt, le, eqs, all⟩
      have sm := But.same sp npd bt
      rw [show ((f' : Int) + 1 + (k : Nat)) = ((f' + 1 + k : Nat) : Int) by omega]
      have jl : f' + 1 + k < S.1.length := by omega
      generalize hj : f' + 1 + k = j at jl
      obtain ⟨pj, hpj⟩ : ∃ pj, ps[j]? = some pj := get_of lps jl
      obtain ⟨qj, hqj⟩ : ∃ qj, qs[j]? = some qj := get_of lqs jl
      obtain ⟨xj, hxj⟩ : ∃ xj, S.1[j]? = some xj := get_of rfl jl
      have W3 := W.same sm
      have gp : ∀ {i : Nat} {q : Addr}, ps[i]? = some q → (ps.map V.ref)[i]? = some (.ref q) := fun h => by rw [List.getElem?_map, h]; rfl
      have gq : ∀ {i : Nat} {q : Addr}, qs[i]? = some q → (qs.map V.ref)[i]? = some (.ref q) := fun h => by rw [List.getElem?_map, h]; rfl
      have hxn := ok.rooms xf (List.mem_of_getElem? hxf)
      have hyn := ok.rooms xj (List.mem_of_getElem? hxj)
      refine ⟨_, rfl, z.wk, z.dx, _, rfl, W3.ob, rfl, _, rfl, _, rfl, cs, _, _, _, rfl, rfl, SqL.of (sm _ _ hcs), atI_nat (j := f') (gp hpf), pf, _, _, _, rfl, rfl, SqL.of (sm _ _ (hps _ _ hpf)), atI_nat (j := 0) rfl, ?_⟩
      refine ⟨_, rfl, z.wk, C_Walk, z.dx, _, .ref z.r, rfl, W3.ob, cls, no _ (by decide), rfl, _, rfl, _, rfl, cs, _, _, _, rfl, rfl, SqL.of (sm _ _ hcs), atI_nat (j := j) (gp hpj), pj, _, _, _, rfl, rfl, SqL.of (sm _ _ (hps _ _ hpj)), atI_nat (j := 0) rfl, z.r, _, _, _, rfl, rfl, SqL.of W3.rm, atI_nat (nv_get hxj), ?_⟩
      refine ⟨z, a, f', xf, xj, n, ds, S, l, rfl, W3, tree, by omega, hxn, hyn, hxf, fun H4 wq wy s4 nwq hwq wk nd => ?_⟩
      have sm4 := sm.trans s4
      have lw := walk_short wk nd
      refine ⟨_, rfl, _, rfl, _, rfl, os, _, _, _, rfl, rfl, SqL.of (sm4 _ _ hos), atI_nat (j := f') (gq hqf), _, rfl, _, rfl, os, _, _, _, rfl, rfl, SqL.of (sm4 _ _ hos), atI_nat (j := j) (gq hqj), ?_⟩
      refine ⟨wq, qf, qj, wy, opn S f', opn S j, rfl, hwq, sm4 _ _ (hqs _ _ hqf), sm4 _ _ (hqs _ _ hqj), by omega, fun t hk' fst stop => ?_⟩
      have spl : splitF S f' wy = t := split_len hk' (fun e he => (mem_opn ok (walk_doors wk e (List.mem_of_mem_take he))).mp (fst e he)) fun e he => Classical.byContradiction fun z1 => stop e he ((mem_opn ok (walk_doors wk e (List.mem_of_getElem? he))).mpr z1)
      refine ⟨fun bad H5 s5 => ?_, fun good H5 p u v s5 np nu nv' h1 h2 h3 => ?_⟩
      · refine ⟨_, rfl, rfl, _, rfl, ?_⟩
        refine iteF' (by simp) ⟨ts, ms, _, _, _, rfl, bt.trans (s4.trans s5).but, s5 _ _ (s4 _ _ hp), (mt.same s4).same s5, by omega, ?_, fun i j' r h ij j'l ri rj => ?_⟩
        · rw [eqs, List.range'_concat, List.filterMap_append]
          have e0 : f' + 1 + 1 * k = j := by omega
          rw [e0]
          have : meetF ds S f' j = none := meet_no tree hxf hxj wk nd spl fun z1 => bad fun e he => (mem_opn ok (walk_doors wk e (List.mem_of_mem_drop he))).mpr (z1 e he)
          simp [this]
        by_cases old : Bef2 f' j i j'
        · exact all i j' r (by rw [hj]; exact old) ij j'l ri rj
        · unfold Bef2 at h old
          have e1 : i = f' := by omega
          have e2 : j' = j := by omega
          subst e1
          subst e2
          refine absurd (fun e he => ?_) bad
          have hed := walk_doors wk e (List.mem_of_mem_drop he)
          refine (mem_opn ok hed).mpr (split_ok tree (by omega) ri rj hxf hxj wk nd (fun e' he' => ?_) e he)
          have hed' := walk_doors wk e' (List.mem_of_getElem? he')
          exact Classical.byContradiction fun z1 => stop e' he' ((mem_opn ok hed').mpr z1)
      · refine ⟨_, rfl, rfl, _, rfl, ?_⟩
        refine iteT' (by simp) ?_
        have sm5 := sm4.trans s5
        have hp5 := s5 _ _ (s4 _ _ hp)
        refine ⟨_, rfl, .inl ⟨rfl, _, SqL.of hp5⟩, _, rfl, _, _, rfl, .inl (SqL.of (s5 _ _ hwq)), _, rfl, _, rfl, _, rfl, p, _, _, _, rfl, rfl, SqT.of h1, atI_nat (j := 0) rfl, _, rfl, p, _, _, _, rfl, rfl, SqT.of h1, atI_nat (j := 1) rfl, by show 5 ≤ sizeLine; decide, fun t2 nt2 => ?_⟩
        rw [nv_len]
        have s6 := Same.upd (o := .tup [.int (wy.length : Int), .int (f' : Int), .int (j : Int), .ref u, .ref v]) nt2
        have ntp : t2 ≠ pd := (ne_of_none hp5 nt2).symm
        refine ⟨pd, _, _, rfl, rfl, s6 _ _ hp5, by rw [List.length_map, mt.len]; exact small1000 (by omega), ?_⟩
        have ma : MeetAt H1 (upd H5 t2 (.tup [.int (wy.length : Int), .int (f' : Int), .int (j : Int), .ref u, .ref v])) t2 ⟨f', j, wy, t⟩ := ⟨u, v, upd_same, s6 _ _ h2, s6 _ _ h3, But.free (bt.trans s4.but) (s4 _ _ hp) nu, But.free (bt.trans s4.but) (s4 _ _ hp) nv'⟩
        have mt6 := ((mt.same s4).same s5).same s6
        have np0 : H pd = none := npd
        have mok : MeetOk ds S ⟨f', j, wy, t⟩ := ⟨by show f' < j; omega, jl, ⟨xf, xj, hxf, hxj, wk⟩, nd, hk', fun e he => (mem_opn ok (walk_doors wk e (List.mem_of_mem_take he))).mp (fst e he), fun e he => (mem_opn ok (walk_doors wk e (List.mem_of_mem_drop he))).mp (good e he)⟩
        have fin := mt6.snoc ma mok
        refine ⟨ts ++ [t2], ms ++ [⟨f', j, wy, t⟩], _, _, _, rfl, (bt.trans ((s4.trans s5).trans s6).but).upd _, by rw [upd_same, List.map_append]; rfl, ⟨fin.len, fun i t' m' e1 e2 => ?_, fin.ok⟩, by rw [List.length_append, List.length_singleton]; omega, ?_, fun _ _ _ _ _ _ _ _ => by simp⟩
        rotate_left
        · rw [eqs, List.range'_concat, List.filterMap_append]
          have e0 : f' + 1 + 1 * k = j := by omega
          rw [e0]
          have : meetF ds S f' j = some ⟨f', j, wy, t⟩ := meet_yes tree hxf hxj wk nd spl mok.snd
          simp [this]
        obtain ⟨u', v', g1, g2, g3, g4, g5⟩ := fin.at_ i t' m' e1 e2
        have hp6 := s6 _ _ hp5
        refine ⟨u', v', ?_, ?_, ?_, g4, g5⟩
        · rw [upd_ne (fun e => by rw [e, hp6] at g1; cases g1)]; exact g1
        · rw [upd_ne (fun e => by rw [e, hp0] at g4; cases g4)]; exact g2
        · rw [upd_ne (fun e => by rw [e, hp0] at g5; cases g5)]; exact g3
    · rintro σ H3 ⟨ts, ms, y5, y6, y7, rfl, bt, hp, mt, le, eqs, all⟩
      refine ⟨ts, ms, _, _, _, _, rfl, bt, hp, mt, by omega, ?_, fun i j r h ij jl => all i j r (by unfold Bef2 at h ⊢; omega) ij jl⟩
      rw [eqs]
      unfold meetsF
      rw [List.range_succ, List.flatMap_append, List.flatMap_singleton]
      rfl
  · rintro σ H2 ⟨ts, ms, y4, y5, y6, y7, rfl, bt, hp, mt, le, eqs, all⟩
    have sm := But.same sp npd bt
    obtain ⟨i, j, r, ij, hi, hj⟩ := not_apt nap
    have jl : j < S.1.length := by
      obtain ⟨u, w0, h1, _⟩ := hj
      exact get_lt h1
    have ne := all i j r (.inl (by omega)) ij jl hi hj
    cases ms with
    | nil => exact absurd rfl ne
    | cons m0 mr =>
      refine ⟨_, rfl, pd, ts.map V.ref, dMt m0, mr.map dMt, rfl, SqL.of hp, Mts.dp mt.len mt.at_, alike_mts (m0 :: mr), Nat.le_trans (dep_mts (m0 :: mr)) (by decide), fun i x hx hmin => ?_⟩
      rw [List.getElem?_map] at hx
      obtain ⟨t, ht, rfl⟩ := Option.map_eq_some_iff.mp hx
      obtain ⟨m, hm⟩ : ∃ m, (m0 :: mr)[i]? = some m := get_of mt.len.symm (get_lt ht)
      obtain ⟨u, v, g1, g2, g3, g4, g5⟩ := mt.at_ i t m ht hm
      have eg : (dMt m0 :: mr.map dMt).getD i .none = dMt m := by
        rw [← List.map_cons, List.getD_eq_getElem?_getD, List.getElem?_map, hm]
        rfl
      have so : SoonR ds S m := ⟨by rw [← eqs]; exact List.mem_of_getElem? hm, m0, mr, eqs.symm, by rw [← eg]; exact hmin⟩
      exact q H2 t m sm (mt.ok m (List.mem_of_getElem? hm)) so ⟨u, v, g1, g2, g3, sp.free g4, sp.free g5⟩
end
end K5

namespace K5
open PySem PySem.Spec PyProof.Rows L2
open PySem.W (dataLt minD dataLt_tuple dataLt_cons dataLt_int alike)
/-! the meeting that min finds has the shortest way -/
theorem mt_lt (a b : Meet) : (dataLt (dMt a) (dMt b) = true → a.w.length ≤ b.w.length) ∧ (a.w.length < b.w.length → dataLt (dMt a) (dMt b) = true) := by
  unfold dMt
  rw [dataLt_tuple, dataLt_cons (by simp [alike]), dataLt_int]
  by_cases c : (a.w.length : Int) = (b.w.length : Int)
  · rw [if_pos (by simp only [PyData.eqv]; exact beq_iff_eq.mpr c)]
    exact ⟨fun _ => by omega, fun h => by omega⟩
  · rw [if_neg (by simp only [PyData.eqv]; exact fun z => c (beq_iff_eq.mp z))]
    exact ⟨fun h => by have := of_decide_eq_true h; omega, fun h => decide_eq_true (by omega)⟩
theorem min_least : ∀ (r : List Meet) (m0 : Meet), ∃ m, m ∈ m0 :: r ∧ minD (dMt m0) (r.map dMt) = dMt m ∧ ∀ y ∈ m0 :: r, m.w.length ≤ y.w.length
  | [], m0 => ⟨m0, List.mem_cons_self, rfl, fun y hy => by rw [List.mem_singleton.mp hy]; exact Nat.le_refl _⟩
  | b :: r, m0 => by
    have e : minD (dMt m0) ((b :: r).map dMt) = minD (if dataLt (dMt b) (dMt m0) then dMt b else dMt m0) (r.map dMt) := rfl
    obtain ⟨h1, h2⟩ := mt_lt b m0
    by_cases c : dataLt (dMt b) (dMt m0) = true
    · rw [if_pos c] at e
      obtain ⟨m, hm, em, all⟩ := min_least r b
      refine ⟨m, List.mem_cons_of_mem _ hm, e.trans em, fun y hy => ?_⟩
      rcases List.mem_cons.mp hy with rfl | hy
      · exact Nat.le_trans (all b List.mem_cons_self) (h1 c)
      · exact all y hy
    · rw [if_neg c] at e
      obtain ⟨m, hm, em, all⟩ := min_least r m0
      refine ⟨m, ?_, e.trans em, fun y hy => ?_⟩
      · rcases List.mem_cons.mp hm with rfl | hm
        · exact List.mem_cons_self
        · exact List.mem_cons_of_mem _ (List.mem_cons_of_mem _ hm)
      · rcases List.mem_cons.mp hy with rfl | hy
        · exact all y List.mem_cons_self
        · rcases List.mem_cons.mp hy with rfl | hy
          · have := all m0 List.mem_cons_self
            have : m0.w.length ≤ y.w.length := Nat.le_of_not_lt fun z => c (h2 z)
            omega
          · exact all y (List.mem_cons_of_mem _ hy)
theorem SoonR.least {ds : List (Nat × Nat)} {S : S2} {m : Meet} (h : SoonR ds S m) : ∀ y ∈ meetsF ds S S.1.length, m.w.length ≤ y.w.length := by
  obtain ⟨hm, m0, r, e1, e2⟩ := h
  obtain ⟨m', hm', em, all⟩ := min_least r m0
  have e3 : dMt m = dMt m' := e2.trans em
  have : m.w.length = m'.w.length := by
    unfold dMt at e3
    have e3 := PyData.tuple.inj e3
    simp only [List.cons.injEq, PyData.int.injEq] at e3
    omega
  rw [e1, this]
  exact all
/-- every pair that can meet is among the meetings -/
theorem meets_all {n : Nat} {ds : List (Nat × Nat)} (T : Tree n ds) {S : S2} (o : StOk n ds S) {i j r x y : Nat} {w : List Nat} (ij : i < j) (hx : S.1[i]? = some x) (hy : S.1[j]? = some y) (ri : Rg ds S i r) (rj : Rg ds S j r) (W : Walk ds x w y) (nd : w.Nodup) :
    ∃ m ∈ meetsF ds S S.1.length, m.w = w := by
  have key : ∃ k, k ≤ w.length ∧ (∀ e ∈ w.take k, S.2[e]? ≠ some i) ∧ ∀ e, w[k]? = some e → S.2[e]? = some i := by
    have gen : ∀ w : List Nat, ∃ k, k ≤ w.length ∧ (∀ e ∈ w.take k, S.2[e]? ≠ some i) ∧ ∀ e, w[k]? = some e → S.2[e]? = some i := by
      intro w
      induction w with
      | nil => exact ⟨0, Nat.le_refl _, fun e h => absurd h (by simp), fun e h => by simp at h⟩
      | cons a w ih =>
        by_cases c : S.2[a]? = some i
        · exact ⟨0, Nat.zero_le _, fun e h => absurd h (by simp), fun e h => by
            have : a = e := by simpa using h
            rw [← this]
            exact c⟩
        · obtain ⟨k, h1, h2, h3⟩ := ih
          refine ⟨k + 1, by simpa using h1, fun e he => ?_, fun e he => h3 e (by simpa using he)⟩
          rw [List.take_succ_cons] at he
          rcases List.mem_cons.mp he with rfl | he
          · exact c
          · exact h2 e he
    exact gen w
  obtain ⟨k, k1, k2, k3⟩ := key
  have ok := split_ok T (by omega) ri rj hx hy W nd k3
  have hm := meet_yes T hx hy W nd (split_len k1 k2 k3) ok
  refine ⟨⟨i, j, w, k⟩, ?_, rfl⟩
  have jl := get_lt hy
  unfold meetsF
  refine List.mem_flatMap.mpr ⟨i, List.mem_range.mpr (by omega), ?_⟩
  unfold rowF
  refine List.mem_filterMap.mpr ⟨j, ?_, hm⟩
  rw [List.mem_range'_1]
  omega
end K5

namespace K5
open PySem PySem.Spec PyProof.Rows L2
theorem walk_at {ds : List (Nat × Nat)} : ∀ {k a b : Nat} {w : List Nat}, Walk ds a w b → ∃ c, Walk ds a (w.take k) c ∧ Walk ds c (w.drop k) b
  | 0, a, b, w, h => ⟨a, by rw [List.take_zero]; exact .nil _, h⟩
  | k + 1, a, b, [], h => ⟨b, by rw [List.take_nil]; exact h, by rw [List.drop_nil]; exact .nil _⟩
  | k + 1, a, b, d :: w, h => by
    cases h with
    | cons j h =>
      obtain ⟨c, h1, h2⟩ := walk_at (k := k) h
      exact ⟨c, .cons j h1, h2⟩
theorem ref_nv {us : List Addr} {L : List Nat} (h : us.map V.ref = nv L) : us = [] := by
  cases us with
  | nil => rfl
  | cons u us =>
    cases L with
    | nil => cases h
    | cons a L =>
      have := (List.cons.inj h).1
      cases this
/-- lists of numbers, by their owners -/
structure Fam (B H : Hp) (us : List Addr) (f : Nat → List Nat) : Prop where
  nw : ∀ (i : Nat) (u : Addr), us[i]? = some u → B u = none
  at_ : ∀ (i : Nat) (u : Addr), us[i]? = some u → H u = some (.lst (nv (f i)))
theorem Fam.same {B H H' : Hp} {us f} (h : Fam B H us f) (s : Same H H') : Fam B H' us f := ⟨h.nw, fun i u e => s _ _ (h.at_ i u e)⟩
theorem Fam.add {B H : Hp} {us : List Addr} {f : Nat → List Nat} {p t : Addr} (h : Fam B H us f) (hp : H p = some (.lst (us.map V.ref))) (ht : H t = some (.lst (nv (f us.length)))) (ne : t ≠ p) (nt : B t = none) : Fam B (upd H p (.lst (us.map V.ref ++ [.ref t]))) (us ++ [t]) f := by
  refine ⟨fun i u e => ?_, fun i u e => ?_⟩
  · by_cases hi : i < us.length
    · rw [List.getElem?_append_left hi] at e
      exact h.nw i u e
    · have lt := get_lt e
      rw [List.length_append, List.length_singleton] at lt
      have ei : i = us.length := by omega
      subst ei
      rw [List.getElem?_append_right (Nat.le_refl _), Nat.sub_self] at e
      cases e
      exact nt
  by_cases hi : i < us.length
  · rw [List.getElem?_append_left hi] at e
    have hu := h.at_ i u e
    rw [upd_ne (fun z => ?_)]
    · exact hu
    · rw [z, hp] at hu
      have := ref_nv (HO.lst.inj (Option.some.inj hu))
      rw [this] at hi
      exact absurd hi (Nat.not_lt_zero _)
  · have lt := get_lt e
    rw [List.length_append, List.length_singleton] at lt
    have ei : i = us.length := by omega
    subst ei
    rw [List.getElem?_append_right (Nat.le_refl _), Nat.sub_self] at e
    cases e
    rw [upd_ne ne]
    exact ht
/-- how the two soonest meet, all determined -/
def MeetR (ds : List (Nat × Nat)) (S : S2) (i j x : Nat) (A : S2) (m : List Mv) : Prop := ∃ (mt : Meet) (u v c : Nat) (A1 : S2) (m1 m2 : List Mv), SoonR ds S mt ∧ mt.i = i ∧ mt.j = j ∧ S.1[i]? = some u ∧ S.1[j]? = some v ∧
  leadF ds S u [i] (mt.w.take mt.k) = (A1, c, m1) ∧ leadF ds A1 v [j] (mt.w.drop mt.k).reverse = (A, x, m2) ∧ m = m1 ++ m2
theorem MeetR.unique {ds : List (Nat × Nat)} {S : S2} {i j x i' j' x' : Nat} {A A' : S2} {m m' : List Mv} (h : MeetR ds S i j x A m) (h' : MeetR ds S i' j' x' A' m') : i = i' ∧ j = j' ∧ x = x' ∧ A = A' ∧ m = m' := by
  obtain ⟨mt, u, v, c, A1, m1, m2, a1, rfl, rfl, a4, a5, a6, a7, rfl⟩ := h
  obtain ⟨mt', u', v', c', A1', m1', m2', b1, rfl, rfl, b4, b5, b6, b7, rfl⟩ := h'
  have e := a1.unique b1
  subst e
  rw [a4] at b4
  cases b4
  rw [a5] at b5
  cases b5
  rw [a6] at b6
  cases b6
  rw [a7] at b7
  cases b7
  exact ⟨rfl, rfl, rfl, rfl, rfl⟩
def spMeet (K : PySem.W.Frag) (C : Addr) : Sp := fun vs H Q _ => ∃ (z : Pt) (a pq : Addr) (n : Nat) (ds : List (Nat × Nat)) (S : S2) (l : List Mv), vs = [.ref z.wk, .ref pq] ∧ WkAt K C H z a ds S l ∧ Tree n ds ∧ n ≤ 60 ∧ StOk n ds S ∧ H pq = some (.lst (nv (List.range S.1.length))) ∧ ¬ Apt ds S ∧ l.length ≤ 1000 ∧
  ∀ (H' : Hp) (q : Addr) (A : S2) (m : List Mv) (i j x u v : Nat) (wy : List Nat), Saves z.m H H' → q ∉ z.m → H' q = some (.lst (nv [i, j])) → i < j → j < S.1.length → Path ds S m A → A.1[i]? = some x → A.1[j]? = some x → WkAt K C H' z a ds A (l ++ m) →
    S.1[i]? = some u → S.1[j]? = some v → Walk ds u wy v → wy.Nodup → m.length = wy.length → (∃ mt, SoonR ds S mt ∧ mt.w = wy) → MeetR ds S i j x A m → Q (.ref q) H'
section
variable {P : Program} {w : World} {K : PySem.W.Frag} {mg : Str → Option Value} {base : Heap} {C_Walk : Addr}
theorem ok_meet_soonest (T : Bl mg) (cl_Walk : ClsD K mg "Walk" C_Walk wkN) (D : Def K mg "meet_soonest" s_meet_soonest) (C_doors_not_barring : Cal P w K mg base "doors_not_barring" ["walk", "person"] 1 (spBarNot K C_Walk)) (C_soonest_meeting : Cal P w K mg base "soonest_meeting" ["walk", "crowds", "opened"] 6 (spSoon K C_Walk))
    (C_Walk_lead : CalM P w K mg base C_Walk "lead" ["self", "crowd", "doors"] 3 (spLead K C_Walk)) : Cal P w K mg base "meet_soonest" ["walk", "people"] 7 (spMeet K C_Walk) := by
  refine D.ok sc_meet_soonest (fun _ _ _ _ _ _ us hl => match us, hl with | [_, _], _ => rfl) (fun vs H Q E h => ?_) (fun f cdv A outer s H vs Q E hr h => ?_)
  · obtain ⟨z, a, pq, n, ds, S, l, rfl, _⟩ := h
    rfl
  obtain ⟨z, a, pq, n, ds, S, l, rfl, W, tree, hn, ok, hpq, nap, ll, q⟩ := h
  have cls := cl_Walk.cl
  have no := cl_Walk.no
  have few := ok.few
  have hdn := tree.len
  obtain ⟨f_doors_not_barring, fd_doors_not_barring, g_doors_not_barring, k_doors_not_barring, b_doors_not_barring, G_doors_not_barring⟩ := C_doors_not_barring
  obtain ⟨f_soonest_meeting, fd_soonest_meeting, g_soonest_meeting, k_soonest_meeting, b_soonest_meeting, G_soonest_meeting⟩ := C_soonest_meeting
  obtain ⟨f_Walk_lead, fd_Walk_lead, M_Walk_lead, b_Walk_lead, G_Walk_lead⟩ := C_Walk_lead
  refine ⟨_, (pss_cons (ps_setLc (i := 2) (own := [("person", 3)]) (g := gName 3)  rfl sc_meet_soonest.nd rfl rfl (sw_true rfl rfl rfl (by decide +kernel)) (pi_list (pv 1)) (blkOk_by (N := N_meet_soonest) (sc := defScope s_meet_soonest) (own := [("person", 3)]) (by decide +kernel)) (fun _ _ _ _ _ => (pg_name (i := 3) sc_meet_soonest.nd rfl (.inl rfl) (.inr rfl))) (fun _ _ _ _ _ => pts_nil) (fun _ _ _ _ _ => (pe_lst (pa_cons (pv 3) pa_nil))))
    (pss_cons (ps_setLc (i := 4) (own := [("person", 3)]) (g := gName 3)  (te := (tCall (spBarNot K C_Walk) [] E0 (tCons (tVar 0) (tCons (tVar 3) tNil)))) rfl sc_meet_soonest.nd rfl rfl (sw_true rfl rfl rfl (by decide +kernel)) (pi_list (pv 1)) (blkOk_by (N := N_meet_soonest) (sc := defScope s_meet_soonest) (own := [("person", 3)]) (by decide +kernel)) (fun _ _ _ _ _ => (pg_name (i := 3) sc_meet_soonest.nd rfl (.inl rfl) (.inr rfl))) (fun _ _ _ _ _ => pts_nil) (fun _ _ _ _ _ => (pe_call G_doors_not_barring (hr.mono (by decide)) (by rfl) g_doors_not_barring k_doors_not_barring b_doors_not_barring .nil pass0 (pa_cons (pv 0) (pa_cons (pv 3) pa_nil)))))
    (pss_cons (ps_asg (pe_call G_soonest_meeting (hr.mono (by decide)) (by rfl) g_soonest_meeting k_soonest_meeting b_soonest_meeting .nil pass0 (pa_cons (pv 0) (pa_cons (pv 2) (pa_cons (pv 4) pa_nil)))) (pg_tup (n := 5) rfl (pgs_cons (pg_name (i := 5) sc_meet_soonest.nd rfl (.inl rfl)) (pgs_cons (pg_name (i := 6) sc_meet_soonest.nd rfl (.inl rfl)) (pgs_cons (pg_name (i := 7) sc_meet_soonest.nd rfl (.inl rfl)) (pgs_cons (pg_name (i := 8) sc_meet_soonest.nd rfl (.inl rfl)) (pgs_cons (pg_name (i := 9) sc_meet_soonest.nd rfl (.inl rfl)) pgs_nil)))))))
    (pss_cons (ps_expr (pe_meth (pv 0) cl_Walk.cl M_Walk_lead G_Walk_lead (hr.mono (by decide)) b_Walk_lead .nil pass0 (pa_cons (pe_ix ix_list (pv 2) (pv 6) (fun _ _ => rfl)) (pa_cons (pv 8) pa_nil))))
    (pss_cons (ps_expr (pe_meth (pv 0) cl_Walk.cl M_Walk_lead G_Walk_lead (hr.mono (by decide)) b_Walk_lead .nil pass0 (pa_cons (pe_ix ix_list (pv 2) (pv 7) (fun _ _ => rfl)) (pa_cons (pv 9) pa_nil))))
    (pss_one (ps_ret (pe_op op_cat (pe_ix ix_list (pv 2) (pv 6) (fun _ _ => rfl)) (pe_ix ix_list (pv 2) (pv 7) (fun _ _ => rfl)))))))))), ?_⟩
  refine ⟨_, rfl, pq, rfl, ⟨_, SqL.of hpq⟩, fun p1 np1 => ?_⟩
  refine lc_it (walk_list (K := K) (a := pq) (xs := nv (List.range S.1.length))) (fun i H2 => ∃ us : List Addr, Same H H2 ∧ H2 p1 = some (.lst (us.map V.ref)) ∧ us.length = i ∧ Fam H H2 us fun k => [k]) ⟨[], Same.upd np1, upd_same, rfl, ⟨fun i u e => by simp at e, fun i u e => by simp at e⟩⟩ (fun i H2 _ ⟨us, h, _⟩ => SqL.of (h _ _ hpq)) ?_ ?_
  · rintro i x' H2 H3 hi ⟨us, sm, hp, lu, fa⟩ ⟨rfl, ex⟩
    obtain ⟨v, hv, rfl⟩ := nv_some ex
    have iv : v = i := by
      have l1 := get_lt hv
      rw [List.length_range] at l1
      rw [List.getElem?_range l1] at hv
      exact (Option.some.inj hv).symm
    subst iv
    have l1 := get_lt hv
    rw [List.length_range] at l1
    refine ⟨rfl, lcYes ?_⟩
    refine ⟨_, rfl, by show 1 ≤ sizeLine; decide, fun t nt => ?_⟩
    have st := Same.upd (o := .lst [.int (v : Int)]) nt
    have ntp : t ≠ p1 := (ne_of_none hp nt).symm
    have fa2 := (fa.same st).add (st _ _ hp) (t := t) (by rw [upd_same, lu]; rfl) ntp (sm.free nt)
    exact ⟨_, st _ _ hp, by rw [List.length_map]; exact small1000 (by omega), us ++ [t], (sm.trans st).at np1, by rw [upd_same, List.map_append]; rfl, by rw [List.length_append, lu]; rfl, fa2⟩
  rintro H2 ⟨us, s2, hp1, lus, fa1⟩
  rw [nv_len, List.length_range] at lus
  refine ⟨_, rfl, pq, rfl, ⟨_, SqL.of (s2 _ _ hpq)⟩, fun p2 np2 => ?_⟩
  refine lc_it (walk_list (K := K) (a := pq) (xs := nv (List.range S.1.length))) (fun i H3 => ∃ us : List Addr, Same H2 H3 ∧ H3 p2 = some (.lst (us.map V.ref)) ∧ us.length = i ∧ Fam H H3 us (opn S)) ⟨[], Same.upd np2, upd_same, rfl, ⟨fun i u e => by simp at e, fun i u e => by simp at e⟩⟩ (fun i H3 _ ⟨us, h, _⟩ => SqL.of (h _ _ (s2 _ _ hpq))) ?_ ?_
  · rintro i x' H3 H4 hi ⟨us, sm, hp, lu, fa⟩ ⟨rfl, ex⟩
    obtain ⟨v, hv, rfl⟩ := nv_some ex
    have iv : v = i := by
      have l1 := get_lt hv
      rw [List.length_range] at l1
      rw [List.getElem?_range l1] at hv
      exact (Option.some.inj hv).symm
    subst iv
    have l1 := get_lt hv
    rw [List.length_range] at l1
    refine ⟨rfl, lcYes ?_⟩
    refine ⟨_, rfl, _, rfl, z, a, v, n, ds, S, l, rfl, (W.same s2).same sm, ok, hn, by omega, fun H5 t st nt ht => ?_⟩
    have ntp : t ≠ p2 := (ne_of_none hp nt).symm
    have fa2 := (fa.same st).add (st _ _ hp) (t := t) (by rw [lu]; exact ht) ntp ((s2.trans sm).free nt)
    exact ⟨_, st _ _ hp, by rw [List.length_map]; exact small1000 (by omega), us ++ [t], (sm.trans st).at np2, by rw [upd_same, List.map_append]; rfl, by rw [List.length_append, lu]; rfl, fa2⟩
  rintro H3 ⟨os, s3, hp2, los, fa2⟩
  rw [nv_len, List.length_range] at los
  have s13 := s2.trans s3
  have W3 := W.same s13
  have fa3 := fa1.same s3
  have hp13 := s3 _ _ hp1
  have np1m : p1 ∉ z.m := W.new np1
  refine ⟨_, rfl, _, rfl, _, rfl, z, a, p1, p2, n, ds, S, l, rfl, W3, tree, hn, ok, ⟨us, hp13, lus, fa3.at_⟩, ⟨os, hp2, los, fa2.at_⟩, nap, fun H4 t m s4 mo so ⟨u, v, ht, hu, hv, nu, nv'⟩ => ?_⟩
  refine ⟨t, _, rfl, SqT.of ht, rfl, _, _, rfl, _, _, rfl, _, _, rfl, _, _, rfl, _, _, rfl, rfl, ?_⟩
  obtain ⟨x, y, hx, hy, wk⟩ := mo.way
  have il : m.i < S.1.length := get_lt hx
  obtain ⟨ui, hui⟩ : ∃ ui, us[m.i]? = some ui := get_of lus il
  obtain ⟨uj, huj⟩ : ∃ uj, us[m.j]? = some uj := get_of lus mo.jl
  have gp : ∀ {i : Nat} {q : Addr}, us[i]? = some q → (us.map V.ref)[i]? = some (.ref q) := fun h => by rw [List.getElem?_map, h]; rfl
  have W4 := W3.same s4
  have s14 := s13.trans s4
  have hui4 := s4 _ _ (fa3.at_ _ _ hui)
  have huj4 := s4 _ _ (fa3.at_ _ _ huj)
  have fresh : ∀ {k : Nat} {q : Addr}, us[k]? = some q → q ∉ z.m := fun h => W.new (fa3.nw _ _ h)
  have nu0 := W3.new nu
  have nv0 := W3.new nv'
  obtain ⟨c, wk1, wk2⟩ := walk_at (k := m.k) wk
  have nij : m.i ≠ m.j := by have := mo.ij; omega
  have lw := walk_short wk mo.nd
  have ndt : (m.w.take m.k).Nodup := mo.nd.sublist (List.take_sublist _ _)
  have ndd : (m.w.drop m.k).Nodup := mo.nd.sublist (List.drop_sublist _ _)
  have lt1 : (m.w.take m.k).length ≤ 60 := by rw [List.length_take]; omega
  have lt2 : (m.w.drop m.k).reverse.length ≤ 60 := by rw [List.length_reverse, List.length_drop]; omega
  have hp14 := s4 _ _ hp13
  refine ⟨_, rfl, z.wk, z.dx, _, rfl, W4.ob, rfl, _, rfl, _, rfl, p1, _, _, _, rfl, rfl, SqL.of hp14, atI_nat (j := m.i) (gp hui), _, rfl, ?_⟩
  refine ⟨z, a, ui, u, x, c, n, [m.i], m.w.take m.k, ds, S, l, rfl, W4, tree, ok, hui4, fresh hui, hu, nu0, by simp, by simp, fun p hp => by rw [List.mem_singleton.mp hp]; exact hx, wk1, ndt, .inr fun p hp e he => by rw [List.mem_singleton.mp hp]; exact mo.fst e he, by simp only [List.length_singleton, Nat.mul_one]; omega, fun H5 A1 m1 s5 led1 W5 => ?_⟩
  have ok1 := led1.path.ok tree ok
  have hp15 := s5 _ _ hp14 np1m
  have huj5 := s5 _ _ huj4 (fresh huj)
  have hui5 := s5 _ _ hui4 (fresh hui)
  have hv5 := s5 _ _ hv nv0
  refine ⟨_, rfl, z.wk, z.dx, _, rfl, W5.ob, rfl, _, rfl, _, rfl, p1, _, _, _, rfl, rfl, SqL.of hp15, atI_nat (j := m.j) (gp huj), _, rfl, ?_⟩
  have l1 := led1.len
  simp only [List.length_singleton, Nat.mul_one] at l1
  refine ⟨z, a, uj, v, y, c, n, [m.j], (m.w.drop m.k).reverse, ds, A1, l ++ m1, rfl, W5, tree, ok1, huj5, fresh huj, hv5, nv0, by simp, by simp, fun p hp => ?_, wk2.rev, (List.reverse_perm _).nodup_iff.mpr ndd, .inr fun p hp e he => ?_, by simp only [List.length_singleton, Nat.mul_one, List.length_append]; omega, fun H6 A2 m2 s6 led2 W6 => ?_⟩
  · rw [List.mem_singleton.mp hp, led1.rest m.j (by simp; omega)]
    exact hy
  · rw [List.mem_singleton.mp hp]
    rw [List.mem_reverse] at he
    have nt : e ∉ m.w.take m.k := fun z1 => by
      have := mo.nd
      rw [← List.take_append_drop m.k m.w] at this
      exact (List.nodup_append.mp this).2.2 e z1 e he rfl
    rw [led1.bars e nt]
    exact mo.snd e he
  have l2 := led2.len
  simp only [List.length_singleton, Nat.mul_one, List.length_reverse] at l2
  have hp16 := s6 _ _ hp15 np1m
  have huj6 := s6 _ _ huj5 (fresh huj)
  have hui6 := s6 _ _ hui5 (fresh hui)
  refine ⟨_, rfl, _, rfl, p1, _, _, _, rfl, rfl, SqL.of hp16, atI_nat (j := m.i) (gp hui), _, rfl, _, rfl, p1, _, _, _, rfl, rfl, SqL.of hp16, atI_nat (j := m.j) (gp huj), ?_⟩
  refine ⟨ui, uj, _, _, rfl, rfl, hui6, huj6, by show 1 + 1 ≤ sizeLine; decide, fun r nr => ?_⟩
  have s7 := Same.upd (o := .lst (nv [m.i] ++ nv [m.j])) nr
  have sv := (((Saves.of s14).trans s5).trans s6).trans (Saves.of s7)
  rw [List.append_assoc] at W6
  refine q _ r A2 (m1 ++ m2) m.i m.j c x y m.w sv (fun hm => ?_) (by rw [upd_same]; rfl) mo.ij mo.jl (led1.path.append led2.path) ?_ (led2.done m.j (by simp)) (W6.same s7) hx hy wk mo.nd ?_ ⟨m, so, rfl⟩ ⟨m, x, y, c, A1, m1, m2, so, rfl, rfl, hx, hy, led1.fn, led2.fn, rfl⟩
  · exact W6.new nr hm
  · rw [led2.rest m.i (by simp; omega)]
    exact led1.done m.i (by simp)
  · rw [List.length_append]
    have : (m.w.take m.k).length + (m.w.drop m.k).length = m.w.length := by
      rw [← List.length_append, List.take_append_drop]
    omega
end
end K5

namespace K5
open PySem PySem.Spec PyProof.Rows L2
def spPplOf (K : PySem.W.Frag) : Sp := fun vs H Q _ => ∃ (s : Addr) (n : Nat) (ds : List (Nat × Nat)) (S : S2), vs = [.ref s] ∧ StateAt K H s S ∧ StOk n ds S ∧ ∀ (H' : Hp) (q : Addr), Same H H' → H q = none → H' q = some (.lst (nv (List.range S.1.length))) → Q (.ref q) H'
def spElse (K : PySem.W.Frag) : Sp := fun vs H Q _ => ∃ (s : Addr) (x n : Nat) (ds : List (Nat × Nat)) (S : S2), vs = [.ref s, .int (x : Int)] ∧ StateAt K H s S ∧ StOk n ds S ∧ (∀ H', Same H H' → (∀ v ∈ S.1, v = x) → Q .non H') ∧ ∀ (H' : Hp) (p v : Nat), Same H H' → S.1[p]? = some v → v ≠ x → (∀ u ∈ S.1.take p, u = x) → Q (.int (p : Int)) H'
noncomputable def gStep (ds : List (Nat × Nat)) (T : List Nat × S2 × Nat × List Mv) (p : Nat) : List Nat × S2 × Nat × List Mv := if p ∈ T.1 then T else
  (T.1 ++ [p], (leadF ds T.2.1 T.2.2.1 T.1 (wayF ds T.2.2.1 (T.2.1.1.getD p 0))).1, (leadF ds T.2.1 T.2.2.1 T.1 (wayF ds T.2.2.1 (T.2.1.1.getD p 0))).2.1, T.2.2.2 ++ (leadF ds T.2.1 T.2.2.1 T.1 (wayF ds T.2.2.1 (T.2.1.1.getD p 0))).2.2)
/-- how all are gathered, all determined -/
def GatherR (ds : List (Nat × Nat)) (S : S2) (x : Nat) (m : List Mv) : Prop := ∃ (i j x0 : Nat) (A0 : S2) (m0 : List Mv), MeetR ds S i j x0 A0 m0 ∧ ∃ T, (List.range S.1.length).foldl (gStep ds) ([i, j], A0, x0, m0) = T ∧ m = T.2.2.2 ++ (leadF ds T.2.1 T.2.2.1 T.1 (wayF ds T.2.2.1 x)).2.2
theorem GatherR.unique {ds : List (Nat × Nat)} {S : S2} {x : Nat} {m m' : List Mv} (h : GatherR ds S x m) (h' : GatherR ds S x m') : m = m' := by
  obtain ⟨i, j, x0, A0, m0, a, T, b, rfl⟩ := h
  obtain ⟨i', j', x0', A0', m0', a', T', b', rfl⟩ := h'
  obtain ⟨rfl, rfl, rfl, rfl, rfl⟩ := a.unique a'
  rw [b] at b'
  subst b'
  rfl
def spGatherIn (K : PySem.W.Frag) (C : Addr) : Sp := fun vs H Q _ => ∃ (z : Pt) (a pq : Addr) (n x : Nat) (ds : List (Nat × Nat)) (S : S2) (l : List Mv), vs = [.ref z.wk, .ref pq, .int (x : Int)] ∧ WkAt K C H z a ds S l ∧ Tree n ds ∧ n ≤ 60 ∧ StOk n ds S ∧ x < n ∧ H pq = some (.lst (nv (List.range S.1.length))) ∧ pq ∉ z.m ∧ ¬ Apt ds S ∧ l.length ≤ 1000 ∧
  ∀ (H' : Hp) (A : S2) (m : List Mv), Saves z.m H H' → Path ds S m A → (∀ p, p < S.1.length → A.1[p]? = some x) → WkAt K C H' z a ds A (l ++ m) → m.length ≤ n + n * S.1.length * (S.1.length + 1) → GatherR ds S x m → Q .non H'
section
variable {P : Program} {w : World} {K : PySem.W.Frag} {mg : Str → Option Value} {base : Heap} {C_Walk : Addr}
theorem ok_people_of (T : Bl mg) (D : Def K mg "people_of" s_people_of) : Cal P w K mg base "people_of" ["state"] 1 (spPplOf K) := by
  refine D.ok sc_people_of (fun _ _ _ _ _ _ us hl => match us, hl with | [_], _ => rfl) (fun vs H Q E h => ?_) (fun f cdv A outer s0 H vs Q E hr h => ?_)
  · obtain ⟨s, n, ds, S, rfl, _⟩ := h
    rfl
  obtain ⟨s, n, ds, S, rfl, ⟨r, b, h1, h2, h3⟩, ok, q⟩ := h
  have few := ok.few
  refine ⟨_, (pss_one (ps_ret (pe_listRg rfl (by rfl) T.list (prg_1 (by rfl) T.range (pe_callB call_len_seq (by rfl) T.len PySem.boot_len (pa_cons (pe_ix ix_tup (pv 0) pe_int (fun _ _ => rfl)) pa_nil)))))), ?_⟩
  refine ⟨_, rfl, s, _, _, _, rfl, rfl, h1, atI_nat (j := 0) rfl, _, _, rfl, .inr h2, _, rfl, ?_, fun pq np => ?_⟩
  · rw [nv_len]
    unfold RgOk
    omega
  rw [nv_len, rgV_nat]
  exact q _ pq (Same.upd np) np upd_same
theorem ok_first_elsewhere (T : Bl mg) (D : Def K mg "first_elsewhere" s_first_elsewhere) : Cal P w K mg base "first_elsewhere" ["state", "room"] 1 (spElse K) := by
  refine D.ok sc_first_elsewhere (fun _ _ _ _ _ _ us hl => match us, hl with | [_, _], _ => rfl) (fun vs H Q E h => ?_) (fun f cdv A outer s0 H vs Q E hr h => ?_)
  · obtain ⟨s, x, n, ds, S, rfl, _⟩ := h
    rfl
  obtain ⟨s, x, n, ds, S, rfl, ⟨r, b, h1, h2, h3⟩, ok, q1, q2⟩ := h
  have few := ok.few
  refine ⟨_, (pss_cons (ps_for PassesOwn.never rfl (pi_enumT (by rfl) T.enumerate (pa_cons (pe_ix ix_tup (pv 0) pe_int (fun _ _ => rfl)) pa_nil)) (pg_tup (n := 2) rfl (pgs_cons (pg_name (i := 2) sc_first_elsewhere.nd rfl (.inl rfl)) (pgs_cons (pg_name (i := 3) sc_first_elsewhere.nd rfl (.inl rfl)) pgs_nil)))
    (pss_one (ps_if (pt_cmpR op_ne (pv 3) (pv 1) (nomark _)) (pss_one (ps_ret (pv 2))) pss_nil)))
    (pss_one (ps_ret pe_non))), ?_⟩
  refine ⟨_, rfl, s, _, _, _, rfl, rfl, h1, atI_nat (j := 0) rfl, r, _, rfl, h2, ?_⟩
  refine for_it (walk_enumT (K := K) (a := r) (xs := nv S.1)) (fun i σ H2 => ∃ (y2 y3 : Option V), σ = [some (.ref s), some (.int (x : Int)), y2, y3] ∧ Same H H2 ∧ ∀ v ∈ S.1.take i, v = x)
    ⟨_, _, rfl, fun _ _ e => e, fun v hv => by rw [List.take_zero] at hv; exact absurd hv List.not_mem_nil⟩ (fun i σ H2 _ ⟨_, _, _, sm, _⟩ => sm.tup h2) ?_ ?_
  · rintro i x' σ H2 H3 hi ⟨y2, y3, rfl, sm, al⟩ ⟨t, x1, x2, rfl, nt, rfl, ex1, ex2⟩
    cases ex1
    obtain ⟨v, hv, rfl⟩ := nv_some ex2
    have smt : Same H2 (upd H2 t (.tup [.int (i : Nat), .int (v : Int)])) := Same.upd nt
    have sm4 := sm.trans smt
    refine ⟨t, _, rfl, SqT.of upd_same, rfl, _, _, rfl, _, _, rfl, rfl, ?_⟩
    refine ⟨_, rfl, _, rfl, rfl, _, rfl, ?_⟩
    by_cases c : v = x
    · refine iteF' (by rw [c]; simp) ⟨_, _, rfl, sm4, fun v' hv' => ?_⟩
      rw [List.take_add_one, hv] at hv'
      rcases List.mem_append.mp hv' with h | h
      · exact al v' h
      · rw [List.mem_singleton.mp h]
        exact c
    · refine iteT' (by simp; omega) ?_
      exact ⟨_, rfl, q2 _ i v sm4 hv c al⟩
  · rintro σ H2 ⟨y2, y3, rfl, sm, al⟩
    rw [nv_len, List.take_length] at al
    exact q1 H2 sm al
theorem ok_gather_in (T : Bl mg) (cl_Walk : ClsD K mg "Walk" C_Walk wkN) (D : Def K mg "gather_in" s_gather_in) (C_meet_soonest : Cal P w K mg base "meet_soonest" ["walk", "people"] 7 (spMeet K C_Walk)) (C_Walk_lead : CalM P w K mg base C_Walk "lead" ["self", "crowd", "doors"] 3 (spLead K C_Walk))
    (C_Walk_doors_to : CalM P w K mg base C_Walk "doors_to" ["self", "person", "room"] 5 (spDoorsTo K C_Walk)) : Cal P w K mg base "gather_in" ["walk", "people", "room"] 8 (spGatherIn K C_Walk) := by
  refine D.ok sc_gather_in (fun _ _ _ _ _ _ us hl => match us, hl with | [_, _, _], _ => rfl) (fun vs H Q E h => ?_) (fun f cdv A outer s0 H vs Q E hr h => ?_)
  · obtain ⟨z, a, pq, n, x, ds, S, l, rfl, _⟩ := h
    rfl
  obtain ⟨z, a, pq, n, x, ds, S, l, rfl, W, tree, hn, ok, hx, hpq, npq, nap, ll, q⟩ := h
  have cls := cl_Walk.cl
  have no := cl_Walk.no
  have few := ok.few
  have hdn := tree.len
  obtain ⟨f_meet_soonest, fd_meet_soonest, g_meet_soonest, k_meet_soonest, b_meet_soonest, G_meet_soonest⟩ := C_meet_soonest
  obtain ⟨f_Walk_lead, fd_Walk_lead, M_Walk_lead, b_Walk_lead, G_Walk_lead⟩ := C_Walk_lead
  obtain ⟨f_Walk_doors_to, fd_Walk_doors_to, M_Walk_doors_to, b_Walk_doors_to, G_Walk_doors_to⟩ := C_Walk_doors_to
  refine ⟨_, (pss_cons (ps_set (i := 3) sc_gather_in.nd rfl (.inl rfl) (pe_call G_meet_soonest (hr.mono (by decide)) (by rfl) g_meet_soonest k_meet_soonest b_meet_soonest .nil pass0 (pa_cons (pv 0) (pa_cons (pv 1) pa_nil))))
    (pss_cons (ps_for PassesOwn.never rfl (pi_list (pv 1)) (pg_name (i := 4) sc_gather_in.nd rfl (.inl rfl))
    (pss_one (ps_if (pt_cmpR op_notIn_seq (pv 4) (pv 3) (by rfl)) (pss_cons (ps_expr (pe_meth (pv 0) cl_Walk.cl M_Walk_lead G_Walk_lead (hr.mono (by decide)) b_Walk_lead .nil pass0 (pa_cons (pv 3) (pa_cons (pe_meth (pv 0) cl_Walk.cl M_Walk_doors_to G_Walk_doors_to (hr.mono (by decide)) b_Walk_doors_to .nil pass0 (pa_cons (pe_ix ix_list (pv 3) pe_int (fun _ _ => rfl)) (pa_cons (pe_ix ix_list (pe_fld (pv 0) rfl) (pv 4) (fun _ _ => rfl)) pa_nil))) pa_nil))))
    (pss_one (ps_set (i := 3) sc_gather_in.nd rfl (.inl rfl) (pe_op op_cat (pv 3) (pe_lst (pa_cons (pv 4) pa_nil)))))) pss_nil)))
    (pss_one (ps_expr (pe_meth (pv 0) cl_Walk.cl M_Walk_lead G_Walk_lead (hr.mono (by decide)) b_Walk_lead .nil pass0 (pa_cons (pv 3) (pa_cons (pe_meth (pv 0) cl_Walk.cl M_Walk_doors_to G_Walk_doors_to (hr.mono (by decide)) b_Walk_doors_to .nil pass0 (pa_cons (pe_ix ix_list (pv 3) pe_int (fun _ _ => rfl)) (pa_cons (pv 2) pa_nil))) pa_nil))))))), ?_⟩
  refine ⟨_, rfl, _, rfl, z, a, pq, n, ds, S, l, rfl, W, tree, hn, ok, hpq, nap, ll, fun H1 cr A0 m0 i j xi u v wy s1 ncr hcr ij jl pa0 ai aj W1 su sv wk nd lm so mr => ?_⟩
  have lw := walk_short wk nd
  have hpq1 := s1 _ _ hpq npq
  refine ⟨_, rfl, pq, rfl, ⟨_, SqL.of hpq1⟩, ?_⟩
  refine for_it (walk_list (K := K) (a := pq) (xs := nv (List.range S.1.length))) (fun k σ H2 => ∃ (cr c0 : Addr) (x0 : Nat) (Lr : List Nat) (B : S2) (m : List Mv) (y4 : Option V), σ = [some (.ref z.wk), some (.ref pq), some (.int (x : Int)), some (.ref cr), y4] ∧ Saves z.m H H2 ∧ cr ∉ z.m ∧ H2 cr = some (.lst (nv (i :: Lr))) ∧
      (i :: Lr).Nodup ∧ j ∈ Lr ∧ (∀ p ∈ i :: Lr, B.1[p]? = some x0) ∧ (∀ p, p < k → p ∈ i :: Lr) ∧ Path ds S m B ∧ WkAt K C_Walk H2 z a ds B (l ++ m) ∧ m.length ≤ n + n * S.1.length * k ∧ (List.range k).foldl (gStep ds) ([i, j], A0, xi, m0) = (i :: Lr, B, x0, m))
    ⟨cr, cr, xi, [j], A0, m0, _, rfl, s1, ncr, hcr, by simp; omega, by simp, fun p hp => ?_, fun p hp => absurd hp (Nat.not_lt_zero _), pa0, W1, by rw [Nat.mul_zero]; omega, rfl⟩ (fun k σ H2 _ ⟨_, _, _, _, _, _, _, _, sm, _⟩ => SqL.of (sm _ _ hpq npq)) ?_ ?_
  · rcases List.mem_cons.mp hp with rfl | hp
    · exact ai
    · rw [List.mem_singleton.mp hp]
      exact aj
  · rintro k x' σ H2 H3 hk ⟨cr, c0, x0, Lr, B, m, y4, rfl, sm, ncr, hcr, nd, jm, at_, cov, pa, WB, lm, fo⟩ ⟨rfl, ex⟩
    obtain ⟨v', hv, rfl⟩ := nv_some ex
    have iv : v' = k := by
      have l1 := get_lt hv
      rw [List.length_range] at l1
      rw [List.getElem?_range l1] at hv
      exact (Option.some.inj hv).symm
    subst iv
    have l1 := get_lt hv
    rw [List.length_range] at l1
    refine ⟨_, rfl, _, rfl, cr, _, rfl, .inl (SqL.of hcr), rfl, flat_nv _, _, rfl, ?_⟩
    have okB := pa.ok tree ok
    have lB := pa.len
    have sub : ∀ p ∈ i :: Lr, p < S.1.length := fun p hp => by
      have := get_lt (at_ p hp)
      rw [lB] at this
      exact this
    have lL := nodup_le S.1.length (i :: Lr) nd sub
    have bi := at_ i List.mem_cons_self
    have hc : n * S.1.length ≤ 60 * 10 := Nat.mul_le_mul hn few
    by_cases inn : v' ∈ i :: Lr
    · refine iteF' (by rw [if_pos rfl, inV_nv, decide_eq_true inn]; rfl) ?_
      refine ⟨cr, c0, x0, Lr, B, m, _, rfl, sm, ncr, hcr, nd, jm, at_, fun p hp => ?_, pa, WB, by rw [Nat.mul_succ]; omega, by rw [List.range_succ, List.foldl_append, fo]; show gStep ds (i :: Lr, B, x0, m) v' = _; unfold gStep; rw [if_pos inn]⟩
      by_cases e : p = v'
      · rw [e]; exact inn
      · exact cov p (by omega)
    · refine iteT' (by rw [if_pos rfl, inV_nv, decide_eq_false inn]; rfl) ?_
      obtain ⟨xv, hxv⟩ : ∃ xv, B.1[v']? = some xv := get_of rfl (by rw [lB]; exact l1)
      have x0n := okB.rooms x0 (List.mem_of_getElem? bi)
      have xvn := okB.rooms xv (List.mem_of_getElem? hxv)
      refine ⟨_, rfl, z.wk, z.dx, _, rfl, WB.ob, rfl, _, rfl, _, rfl, z.wk, z.dx, _, rfl, WB.ob, rfl, _, rfl, cr, _, _, _, rfl, rfl, SqL.of hcr, atI_nat (j := 0) rfl, ?_⟩
      refine ⟨_, rfl, z.wk, C_Walk, z.dx, _, .ref z.r, rfl, WB.ob, cls, no _ (by decide), rfl, _, rfl, z.r, _, _, _, rfl, rfl, SqL.of WB.rm, atI_nat (nv_get hxv), ?_⟩
      refine ⟨z, a, i, x0, xv, n, ds, B, l ++ m, rfl, WB, tree, by omega, x0n, xvn, bi, fun H4 wq w4 s4 nwq hwq wk4 nd4 => ?_⟩
      have lw4 := walk_short wk4 nd4
      have W4 := WB.same s4
      have lLr : 1 ≤ Lr.length := List.length_pos_of_mem jm
      have mul : w4.length * (i :: Lr).length ≤ n * S.1.length := Nat.mul_le_mul (by omega) lL
      have hck : n * S.1.length * v' ≤ (60 * 10) * 10 := Nat.mul_le_mul hc (by omega)
      refine ⟨z, a, cr, wq, x0, xv, n, i :: Lr, w4, ds, B, l ++ m, rfl, W4, tree, okB, s4 _ _ hcr, ncr, hwq, WB.new nwq, nd, by simp, at_, wk4, nd4, .inl (by rw [List.length_cons]; omega), by rw [List.length_append]; omega, fun H5 A5 m5 s5 led W5 => ?_⟩
      have hcr5 := s5 _ _ (s4 _ _ hcr) ncr
      refine ⟨_, rfl, _, rfl, by show 1 ≤ sizeLine; decide, fun t1 nt1 => ?_⟩
      have st1 := Same.upd (o := .lst [.int (v' : Int)]) nt1
      refine ⟨cr, t1, _, _, rfl, rfl, st1 _ _ hcr5, upd_same, ?_, fun r nr => ?_⟩
      · rw [nv_len]
        exact Nat.le_of_lt (small1000 (by rw [List.length_singleton]; omega))
      have s6 := st1.trans (Same.upd (o := .lst (nv (i :: Lr) ++ [.int (v' : Int)])) nr)
      have lm5 := led.len
      rw [List.append_assoc] at W5
      refine ⟨r, r, xv, Lr ++ [v'], A5, m ++ m5, _, rfl, ((sm.trans (Saves.of s4)).trans s5).trans (Saves.of s6), fun hm => ?_, ?_, ?_, List.mem_append_left _ jm, fun p hp => ?_, fun p hp => ?_, pa.append led.path, W5.same s6, by rw [List.length_append, Nat.mul_succ]; omega, ?_⟩
      rotate_right
      · rw [List.range_succ, List.foldl_append, fo]
        show gStep ds (i :: Lr, B, x0, m) v' = _
        unfold gStep
        rw [if_neg inn]
        simp only [getD_of hxv, way_is tree wk4 nd4, led.fn, List.cons_append]
      · exact (W5.same st1).new nr hm
      · rw [upd_same, ← nv_snoc]
        rfl
      · rw [← List.cons_append]
        exact List.nodup_append.mpr ⟨nd, by simp, fun p hp q' hq e => inn (by rw [List.mem_singleton.mp hq] at e; rw [← e]; exact hp)⟩
      · rw [← List.cons_append] at hp
        rcases List.mem_append.mp hp with hp | hp
        · exact led.done p hp
        · rw [List.mem_singleton.mp hp, led.rest v' inn]
          exact hxv
      · rw [← List.cons_append]
        by_cases e : p = v'
        · exact List.mem_append_right _ (by rw [e]; exact List.mem_singleton.mpr rfl)
        · exact List.mem_append_left _ (cov p (by omega))
  · rintro σ H2 ⟨cr, c0, x0, Lr, B, m, y4, rfl, sm, ncr, hcr, nd, jm, at_, cov, pa, WB, lm, fo⟩
    rw [nv_len, List.length_range] at cov lm fo
    have okB := pa.ok tree ok
    have lB := pa.len
    have sub : ∀ p ∈ i :: Lr, p < S.1.length := fun p hp => by
      have := get_lt (at_ p hp)
      rw [lB] at this
      exact this
    have lL := nodup_le S.1.length (i :: Lr) nd sub
    have bi := at_ i List.mem_cons_self
    have hc : n * S.1.length ≤ 60 * 10 := Nat.mul_le_mul hn few
    have x0n := okB.rooms x0 (List.mem_of_getElem? bi)
    refine ⟨_, rfl, z.wk, z.dx, _, rfl, WB.ob, rfl, _, rfl, _, rfl, z.wk, z.dx, _, rfl, WB.ob, rfl, _, rfl, cr, _, _, _, rfl, rfl, SqL.of hcr, atI_nat (j := 0) rfl, _, rfl, ?_⟩
    refine ⟨z, a, i, x0, x, n, ds, B, l ++ m, rfl, WB, tree, by omega, x0n, hx, bi, fun H4 wq w4 s4 nwq hwq wk4 nd4 => ?_⟩
    have lw4 := walk_short wk4 nd4
    have W4 := WB.same s4
    have lLr : 1 ≤ Lr.length := List.length_pos_of_mem jm
    have mul : w4.length * (i :: Lr).length ≤ n * S.1.length := Nat.mul_le_mul (by omega) lL
    have hck : n * S.1.length * S.1.length ≤ (60 * 10) * 10 := Nat.mul_le_mul hc few
    refine ⟨z, a, cr, wq, x0, x, n, i :: Lr, w4, ds, B, l ++ m, rfl, W4, tree, okB, s4 _ _ hcr, ncr, hwq, WB.new nwq, nd, by simp, at_, wk4, nd4, .inl (by rw [List.length_cons]; omega), by rw [List.length_append]; omega, fun H5 A5 m5 s5 led W5 => ?_⟩
    have lm5 := led.len
    rw [List.append_assoc] at W5
    exact q H5 A5 (m ++ m5) ((sm.trans (Saves.of s4)).trans s5) (pa.append led.path) (fun p hp => led.done p (cov p hp)) W5 (by rw [List.length_append, Nat.mul_succ]; omega) ⟨i, j, xi, A0, m0, mr, _, fo, by simp only [way_is tree wk4 nd4, led.fn]⟩
end
end K5

namespace K5
open PySem PySem.Spec PyProof.Rows L2
theorem Saves.base {M : List Addr} {B H H' : Hp} (b : Same B H) (s : Saves M H H') (n : ∀ y ∈ M, B y = none) : Same B H' := fun x o e => s x o (b x o e) fun h => by
  have := n x h
  rw [e] at this
  cases this
/-- the plan that gathers, all determined -/
def PlanF (ds : List (Nat × Nat)) (S : S2) (x : Nat) (m : List Mv) : Prop := ((∀ v ∈ S.1, v = x) ∧ m = []) ∨ ((¬ ∀ v ∈ S.1, v = x) ∧ GatherR ds S x m)
theorem PlanF.unique {ds : List (Nat × Nat)} {S : S2} {x : Nat} {m m' : List Mv} (h : PlanF ds S x m) (h' : PlanF ds S x m') : m = m' := by
  rcases h with ⟨a, b⟩ | ⟨a, b⟩ <;> rcases h' with ⟨c, d⟩ | ⟨c, d⟩
  · rw [b, d]
  · exact absurd a c
  · exact absurd c a
  · exact b.unique d
def Asc (Ls : List (List Nat)) : Prop := ∀ L ∈ Ls, L.Pairwise (· ≤ ·)
theorem RegsL.unique {ds : List (Nat × Nat)} {S : S2} {k : Nat} {Ls Ms : List (List Nat)} (a : RegsL ds S k Ls) (b : RegsL ds S k Ms) (sa : Asc Ls) (sb : Asc Ms) : Ls = Ms := by
  apply List.ext_getElem?
  intro p
  by_cases c : p < k
  · obtain ⟨L, hL⟩ : ∃ L, Ls[p]? = some L := get_of rfl (by rw [a.len]; exact c)
    obtain ⟨M, hM⟩ : ∃ M, Ms[p]? = some M := get_of rfl (by rw [b.len]; exact c)
    rw [hL, hM, le_unique L M ((a.at_ p L hL).perm (b.at_ p M hM)) (sa L (List.mem_of_getElem? hL)) (sb M (List.mem_of_getElem? hM))]
  · rw [List.getElem?_eq_none (by rw [a.len]; omega), List.getElem?_eq_none (by rw [b.len]; omega)]
def spGather (K : PySem.W.Frag) : Sp := fun vs H Q _ => ∃ (a s : Addr) (n x : Nat) (ds : List (Nat × Nat)) (S : S2), vs = [.ref a, .ref s, .int (x : Int)] ∧ HouseAt K H a ds ∧ Tree n ds ∧ n ≤ 60 ∧ StateAt K H s S ∧ StOk n ds S ∧ x < n ∧
  (∀ (H' : Hp) (t pl : Addr) (A : S2) (m : List Mv), (¬ Apt ds S ∨ ∀ v ∈ S.1, v = x) → H pl = none → Same H H' → H' t = some (.tup [.str "plan", .ref pl]) → TrisAt H' pl m → Path ds S m A → (∀ p, p < S.1.length → A.1[p]? = some x) → m.length ≤ n + n * S.1.length * (S.1.length + 1) → PlanF ds S x m → Q (.ref t) H') ∧
  ∀ (H' : Hp) (t q : Addr) (Ls : List (List Nat)), Apt ds S → (¬ ∀ v ∈ S.1, v = x) → H q = none → Same H H' → H' t = some (.tup [.str "apart", .ref q]) → ListsAt H' q Ls → RegsL ds S S.1.length Ls → Asc Ls → FrL H H' q → Q (.ref t) H'
def spAllReg (K : PySem.W.Frag) : Sp := fun vs H Q _ => ∃ (a s : Addr) (n : Nat) (ds : List (Nat × Nat)) (S : S2), vs = [.ref a, .ref s] ∧ HouseAt K H a ds ∧ Tree n ds ∧ n ≤ 60 ∧ StateAt K H s S ∧ StOk n ds S ∧
  ∀ (H' : Hp) (q : Addr) (Ls : List (List Nat)), Same H H' → H q = none → ListsAt H' q Ls → RegsL ds S S.1.length Ls → Asc Ls → FrL H H' q → Q (.ref q) H'
section
variable {P : Program} {w : World} {K : PySem.W.Frag} {mg : Str → Option Value} {base : Heap} {C_Walk : Addr}
theorem ok_all_regions (T : Bl mg) (D : Def K mg "all_regions" s_all_regions) (C_people_of : Cal P w K mg base "people_of" ["state"] 1 (spPplOf K)) (C_region : Cal P w K mg base "region" ["house", "state", "person"] 8 (spRegion K)) : Cal P w K mg base "all_regions" ["house", "state"] 9 (spAllReg K) := by
  refine D.ok sc_all_regions (fun _ _ _ _ _ _ us hl => match us, hl with | [_, _], _ => rfl) (fun vs H Q E h => ?_) (fun f cdv A outer s0 H vs Q E hr h => ?_)
  · obtain ⟨a, s, n, ds, S, rfl, _⟩ := h
    rfl
  obtain ⟨a, s, n, ds, S, rfl, hH, tree, hn, st, ok, q⟩ := h
  have few := ok.few
  obtain ⟨f_people_of, fd_people_of, g_people_of, k_people_of, b_people_of, G_people_of⟩ := C_people_of
  obtain ⟨f_region, fd_region, g_region, k_region, b_region, G_region⟩ := C_region
  refine ⟨_, (pss_one (ps_ret (pe_lc (own := [("person", 2)]) (g := gName 2)  (te := (tCall (spRegion K) [] E0 (tCons (tVar 0) (tCons (tVar 1) (tCons (tVar 2) tNil))))) rfl sc_all_regions.nd (pi_list (pe_call G_people_of (hr.mono (by decide)) (by rfl) g_people_of k_people_of b_people_of .nil pass0 (pa_cons (pv 1) pa_nil))) (blkOk_by (N := N_all_regions) (sc := defScope s_all_regions) (own := [("person", 2)]) (by decide +kernel)) (fun _ _ _ _ _ => (pg_name (i := 2) sc_all_regions.nd rfl (.inl rfl) (.inr rfl))) (fun _ _ _ _ _ => pts_nil) (fun _ _ _ _ _ => (pe_call G_region (hr.mono (by decide)) (by rfl) g_region k_region b_region .nil pass0 (pa_cons (pv 0) (pa_cons (pv 1) (pa_cons (pv 2) pa_nil)))))))), ?_⟩
  refine ⟨_, rfl, s, n, ds, S, rfl, st, ok, fun H1 pq s1 npq hpq => ⟨pq, rfl, ⟨_, SqL.of hpq⟩, fun pd npd => ?_⟩⟩
  refine lc_it (walk_list (K := K) (a := pq) (xs := nv (List.range S.1.length))) (fun i H2 => ∃ Ls, Same H1 H2 ∧ ListsAt H2 pd Ls ∧ RegsL ds S i Ls ∧ Asc Ls ∧ FrL H H2 pd) ⟨[], Same.upd npd, ⟨[], upd_same, rfl, fun i r L h => by simp at h⟩, ⟨rfl, fun p L h => by simp at h⟩, (fun L h => absurd h List.not_mem_nil), ⟨[], upd_same, fun _ h => nomatch h⟩⟩ (fun i H2 _ ⟨_, h, _⟩ => SqL.of (h _ _ hpq)) ?_ ?_
  · rintro i x' H2 H3 hi ⟨Ls, sm, ⟨rs, f1, f2, f3⟩, rg, asc, fr⟩ ⟨rfl, ex⟩
    obtain ⟨v, hv, rfl⟩ := nv_some ex
    have iv : v = i := by
      have l1 := get_lt hv
      rw [List.length_range] at l1
      rw [List.getElem?_range l1] at hv
      exact (Option.some.inj hv).symm
    subst iv
    have l1 := get_lt hv
    rw [List.length_range] at l1
    refine ⟨rfl, lcYes ?_⟩
    have s12 := s1.trans sm
    refine ⟨_, rfl, _, rfl, _, rfl, a, s, v, n, ds, S, rfl, hH.same s12, tree, hn, st.same s12, ok, l1, fun H4 q3 L ks s3 nq3 hq3 r3 pm as3 => ?_⟩
    have rs3 := r3.set.of_perm pm
    have f13 := s3 _ _ f1
    have nqd : q3 ≠ pd := (ne_of_none f1 nq3).symm
    refine ⟨_, f13, by rw [List.length_map, f2, rg.len]; exact small1000 (by omega), Ls ++ [L], (sm.trans s3).at npd, ⟨rs ++ [q3], by rw [upd_same, List.map_append]; rfl, by simp [f2], fun j r' M e1 e2 => ?_⟩, rg.snoc rs3, (fun M hM => (List.mem_append.mp hM).elim (asc M) fun h => by rw [List.mem_singleton.mp h]; exact as3), fr.snoc f1 (s12.free nq3)⟩
    by_cases c : j < rs.length
    · rw [List.getElem?_append_left c] at e1
      rw [List.getElem?_append_left (by rw [← f2]; exact c)] at e2
      obtain ⟨g1, g2⟩ := f3 j r' M e1 e2
      exact ⟨g1, by rw [upd_ne g1]; exact s3 _ _ g2⟩
    · have hlt := get_lt e1
      rw [List.length_append, List.length_singleton] at hlt
      have ej : j = rs.length := by omega
      subst ej
      rw [List.getElem?_append_right (Nat.le_refl _), Nat.sub_self] at e1
      rw [f2, List.getElem?_append_right (Nat.le_refl _), Nat.sub_self] at e2
      cases e1
      cases e2
      exact ⟨nqd, by rw [upd_ne nqd]; exact hq3⟩
  · rintro H2 ⟨Ls, sm, la, rg, asc, fr⟩
    rw [nv_len, List.length_range] at rg
    exact q H2 pd Ls (s1.trans sm) (s1.free npd) la rg asc fr
theorem ok_gather (T : Bl mg) (cl_Walk : ClsD K mg "Walk" C_Walk wkN) (D : Def K mg "gather" s_gather) (C_need_state : Cal P w K mg base "need_state" ["house", "state"] 7 (spSt K)) (C_need_room : Cal P w K mg base "need_room" ["house", "room"] 3 (spNeedRoom K)) (C_first_elsewhere : Cal P w K mg base "first_elsewhere" ["state", "room"] 1 (spElse K)) (C_is_apart : Cal P w K mg base "is_apart" ["house", "state"] 8 (spApart K)) (C_all_regions : Cal P w K mg base "all_regions" ["house", "state"] 9 (spAllReg K))
    (C_Walk_init : CalI P w K mg base C_Walk ["self", "house", "state"] 1 (spWkI K C_Walk)) (C_gather_in : Cal P w K mg base "gather_in" ["walk", "people", "room"] 8 (spGatherIn K C_Walk)) (C_people_of : Cal P w K mg base "people_of" ["state"] 1 (spPplOf K)) : CalK P w K mg base "gather" ["house", "state", "room"] 10 (spGather K) ["room", "state", "house"] rev3 rev3 := by
  refine D.okK sc_gather (fun _ _ _ _ _ _ us ws hl => match us, ws, hl with | [], [_, _, _], _ => rfl) rev3_vals (fun _ _ _ _ _ _ us hl => match us, hl with | [_, _, _], _ => rfl) (fun vs H Q E h => ?_) (fun f cdv A outer s0 H vs Q E hr h => ?_)
  · obtain ⟨a, s, n, x, ds, S, rfl, _⟩ := h
    rfl
  obtain ⟨a, s, n, x, ds, S, rfl, hH, tree, hn, st, ok, hx, q1, q2⟩ := h
  have cls := cl_Walk.cl
  have no := cl_Walk.no
  have hdn := tree.len
  obtain ⟨f_Walk_init, fd_Walk_init, M_Walk_init, b_Walk_init, G_Walk_init⟩ := C_Walk_init
  obtain ⟨f_need_state, fd_need_state, g_need_state, k_need_state, b_need_state, G_need_state⟩ := C_need_state
  obtain ⟨f_need_room, fd_need_room, g_need_room, k_need_room, b_need_room, G_need_room⟩ := C_need_room
  obtain ⟨f_first_elsewhere, fd_first_elsewhere, g_first_elsewhere, k_first_elsewhere, b_first_elsewhere, G_first_elsewhere⟩ := C_first_elsewhere
  obtain ⟨f_is_apart, fd_is_apart, g_is_apart, k_is_apart, b_is_apart, G_is_apart⟩ := C_is_apart
  obtain ⟨f_all_regions, fd_all_regions, g_all_regions, k_all_regions, b_all_regions, G_all_regions⟩ := C_all_regions
  obtain ⟨f_gather_in, fd_gather_in, g_gather_in, k_gather_in, b_gather_in, G_gather_in⟩ := C_gather_in
  obtain ⟨f_people_of, fd_people_of, g_people_of, k_people_of, b_people_of, G_people_of⟩ := C_people_of
  refine ⟨_, (pss_cons (ps_expr (pe_call G_need_state (hr.mono (by decide)) (by rfl) g_need_state k_need_state b_need_state .nil pass0 (pa_cons (pv 0) (pa_cons (pv 1) pa_nil))))
    (pss_cons (ps_expr (pe_call G_need_room (hr.mono (by decide)) (by rfl) g_need_room k_need_room b_need_room .nil pass0 (pa_cons (pv 0) (pa_cons (pv 2) pa_nil))))
    (pss_cons (ps_if (pt_cmpR op_isN (pe_call G_first_elsewhere (hr.mono (by decide)) (by rfl) g_first_elsewhere k_first_elsewhere b_first_elsewhere .nil pass0 (pa_cons (pv 1) (pa_cons (pv 2) pa_nil))) pe_non (nomark _)) (pss_one (ps_ret (pe_tup (pa_cons pe_str (pa_cons (pe_lst pa_nil) pa_nil))))) pss_nil)
    (pss_cons (ps_if (pt_val (pe_call G_is_apart (hr.mono (by decide)) (by rfl) g_is_apart k_is_apart b_is_apart .nil pass0 (pa_cons (pv 0) (pa_cons (pv 1) pa_nil)))) (pss_one (ps_ret (pe_tup (pa_cons pe_str (pa_cons (pe_call G_all_regions (hr.mono (by decide)) (by rfl) g_all_regions k_all_regions b_all_regions .nil pass0 (pa_cons (pv 0) (pa_cons (pv 1) pa_nil))) pa_nil))))) pss_nil)
    (pss_cons (ps_set (i := 3) sc_gather.nd rfl (.inl rfl) (pe_make M_Walk_init G_Walk_init (hr.mono (by decide)) (by rfl) cl_Walk.g b_Walk_init .nil pass0 (pa_cons (pv 0) (pa_cons (pv 1) pa_nil))))
    (pss_cons (ps_expr (pe_call G_gather_in (hr.mono (by decide)) (by rfl) g_gather_in k_gather_in b_gather_in .nil pass0 (pa_cons (pv 3) (pa_cons (pe_call G_people_of (hr.mono (by decide)) (by rfl) g_people_of k_people_of b_people_of .nil pass0 (pa_cons (pv 1) pa_nil)) (pa_cons (pv 2) pa_nil)))))
    (pss_one (ps_ret (pe_tup (pa_cons pe_str (pa_cons (pe_fld (pv 3) rfl) pa_nil))))))))))), ?_⟩
  refine ⟨_, rfl, _, rfl, a, s, ds, n, S, rfl, hH, tree, by omega, st, ok, fun H1 s1 => ?_⟩
  refine ⟨_, rfl, _, rfl, a, ds, x, rfl, hH.same s1, by omega, by omega, ?_⟩
  refine ⟨_, rfl, _, rfl, s, x, n, ds, S, rfl, st.same s1, ok, fun H2 s2 all => ?_, fun H2 p v0 s2 hv0 nv0 _ => ?_⟩
  · refine ⟨rfl, _, rfl, ?_⟩
    refine iteT' (by simp) ?_
    have s12 := s1.trans s2
    refine ⟨Nat.zero_le _, fun pl np => ⟨by show 2 ≤ sizeLine; decide, fun t nt => ?_⟩⟩
    have s3 := Same.upd (o := .lst []) np
    have s4 := Same.upd (o := .tup [.str "plan", .ref pl]) nt
    exact q1 _ t pl S [] (.inr all) (s12.free np) ((s12.trans s3).trans s4) upd_same ⟨[], s4 _ _ upd_same, TL.nil⟩ rfl (fun p hp => by
      obtain ⟨v, hv⟩ : ∃ v, S.1[p]? = some v := get_of rfl hp
      rw [hv, all v (List.mem_of_getElem? hv)]) (Nat.zero_le _) (.inl ⟨all, rfl⟩)
  · have some_ : ¬ ∀ v ∈ S.1, v = x := fun z => nv0 (z v0 (List.mem_of_getElem? hv0))
    refine ⟨rfl, _, rfl, ?_⟩
    refine iteF' (by simp) ?_
    have s12 := s1.trans s2
    refine ⟨_, rfl, _, rfl, a, s, n, ds, S, rfl, hH.same s12, tree, hn, st.same s12, ok, fun H3 Ls s3 rg => ?_⟩
    have ap := rg.toL.apt
    have s13 := s12.trans s3
    refine ⟨_, rfl, ?_⟩
    by_cases nap : Apt ds S
    · refine iteT' (decide_eq_true (ap.mpr nap)) ?_
      refine ⟨_, rfl, _, rfl, a, s, n, ds, S, rfl, hH.same s13, tree, hn, st.same s13, ok, fun H4 q4 Ls s4 nq4 la rg4 asc fr => ⟨by show 2 ≤ sizeLine; decide, fun t nt => ?_⟩⟩
      have s5 := Same.upd (o := .tup [.str "apart", .ref q4]) nt
      exact q2 _ t q4 Ls nap some_ (s13.free nq4) ((s13.trans s4).trans s5) upd_same (la.same s5) rg4 asc ((fr.base s13).same s5)
    refine iteF' (decide_eq_false fun z => nap (ap.mp z)) ?_
    refine ⟨_, rfl, _, rfl, fun y dx nx nd ne => ?_⟩
    have sB : Same H3 (upd (upd H3 dx (.own y)) y (.ins C_Walk dx [])) := (Same.upd nd).at nx
    refine ⟨y, a, s, dx, n, ds, S, H3, rfl, upd_same, sB, nx, hH.same s13, st.same s13, ok, hn, by omega, fun H4 z s4 ez W nz => ⟨rfl, ?_⟩⟩
    subst ez
    have s14 := s13.trans s4
    refine ⟨_, rfl, _, rfl, s, n, ds, S, rfl, st.same s14, ok, fun H5 pq s5 npq hpq => ?_⟩
    have W5 := W.same s5
    refine ⟨_, rfl, z, a, pq, n, x, ds, S, [], rfl, W5, tree, hn, ok, hx, hpq, W.new npq, nap, by decide, fun H6 A6 m s6 pa all W6 lm gr => ?_⟩
    rw [List.nil_append] at W6
    have sB6 : Same H3 H6 := Saves.base (s4.trans s5) s6 nz
    refine ⟨_, rfl, z.wk, C_Walk, z.dx, _, .ref z.pl, rfl, W6.ob, cls, no _ (by decide), rfl, by show 2 ≤ sizeLine; decide, fun t nt => ?_⟩
    have s7 := Same.upd (o := .tup [.str "plan", .ref z.pl]) nt
    exact q1 _ t z.pl A6 m (.inl nap) (s13.free (nz _ (by simp))) ((s13.trans sB6).trans s7) upd_same (W6.pl.same s7) pa all lm (.inr ⟨some_, gr⟩)
end
end K5

namespace K5
open PySem PySem.Spec PyProof.Rows L2
/-- the first meeting's answer: how many moves, and which -/
structure FirstM (ds : List (Nat × Nat)) (S : S2) (m : List Mv) : Prop where
  ex : ∃ (A : S2) (i j x u v : Nat) (wy : List Nat), Path ds S m A ∧ i < j ∧ j < S.1.length ∧ A.1[i]? = some x ∧ A.1[j]? = some x ∧ S.1[i]? = some u ∧ S.1[j]? = some v ∧ Walk ds u wy v ∧ wy.Nodup ∧ m.length = wy.length ∧ (∃ mt, SoonR ds S mt ∧ mt.w = wy) ∧ MeetR ds S i j x A m
theorem FirstM.unique {ds : List (Nat × Nat)} {S : S2} {m m' : List Mv} (h : FirstM ds S m) (h' : FirstM ds S m') : m = m' := by
  obtain ⟨A, i, j, x, u, v, wy, _, _, _, _, _, _, _, _, _, _, _, a⟩ := h.ex
  obtain ⟨A', i', j', x', u', v', wy', _, _, _, _, _, _, _, _, _, _, _, b⟩ := h'.ex
  exact (a.unique b).2.2.2.2
def spFirst (K : PySem.W.Frag) : Sp := fun vs H Q _ => ∃ (a s : Addr) (n : Nat) (ds : List (Nat × Nat)) (S : S2), vs = [.ref a, .ref s] ∧ HouseAt K H a ds ∧ Tree n ds ∧ n ≤ 60 ∧ StateAt K H s S ∧ StOk n ds S ∧ (Apt ds S → ∀ H', Same H H' → Q .non H') ∧
  ∀ (H' : Hp) (t pl : Addr) (m : List Mv), ¬ Apt ds S → Same H H' → H pl = none → H' t = some (.tup [.int (m.length : Int), .ref pl]) → TrisAt H' pl m → FirstM ds S m → Q (.ref t) H'
section
variable {P : Program} {w : World} {K : PySem.W.Frag} {mg : Str → Option Value} {base : Heap} {C_Walk : Addr}
theorem ok_first_meeting (T : Bl mg) (cl_Walk : ClsD K mg "Walk" C_Walk wkN) (D : Def K mg "first_meeting" s_first_meeting) (C_need_state : Cal P w K mg base "need_state" ["house", "state"] 7 (spSt K)) (C_is_apart : Cal P w K mg base "is_apart" ["house", "state"] 8 (spApart K))
    (C_Walk_init : CalI P w K mg base C_Walk ["self", "house", "state"] 1 (spWkI K C_Walk)) (C_meet_soonest : Cal P w K mg base "meet_soonest" ["walk", "people"] 7 (spMeet K C_Walk)) (C_people_of : Cal P w K mg base "people_of" ["state"] 1 (spPplOf K)) :
    CalK P w K mg base "first_meeting" ["house", "state"] 9 (spFirst K) ["state", "house"] rev2 rev2 := by
  refine D.okK sc_first_meeting (fun _ _ _ _ _ _ us ws hl => match us, ws, hl with | [], [_, _], _ => rfl) rev2_vals (fun _ _ _ _ _ _ us hl => match us, hl with | [_, _], _ => rfl) (fun vs H Q E h => ?_) (fun f cdv A outer s0 H vs Q E hr h => ?_)
  · obtain ⟨a, s, n, ds, S, rfl, _⟩ := h
    rfl
  obtain ⟨a, s, n, ds, S, rfl, hH, tree, hn, st, ok, q1, q2⟩ := h
  have cls := cl_Walk.cl
  have no := cl_Walk.no
  have hdn := tree.len
  obtain ⟨f_Walk_init, fd_Walk_init, M_Walk_init, b_Walk_init, G_Walk_init⟩ := C_Walk_init
  obtain ⟨f_need_state, fd_need_state, g_need_state, k_need_state, b_need_state, G_need_state⟩ := C_need_state
  obtain ⟨f_is_apart, fd_is_apart, g_is_apart, k_is_apart, b_is_apart, G_is_apart⟩ := C_is_apart
  obtain ⟨f_meet_soonest, fd_meet_soonest, g_meet_soonest, k_meet_soonest, b_meet_soonest, G_meet_soonest⟩ := C_meet_soonest
  obtain ⟨f_people_of, fd_people_of, g_people_of, k_people_of, b_people_of, G_people_of⟩ := C_people_of
  refine ⟨_, (pss_cons (ps_expr (pe_call G_need_state (hr.mono (by decide)) (by rfl) g_need_state k_need_state b_need_state .nil pass0 (pa_cons (pv 0) (pa_cons (pv 1) pa_nil))))
    (pss_cons (ps_if (pt_val (pe_call G_is_apart (hr.mono (by decide)) (by rfl) g_is_apart k_is_apart b_is_apart .nil pass0 (pa_cons (pv 0) (pa_cons (pv 1) pa_nil)))) (pss_one (ps_ret pe_non)) pss_nil)
    (pss_cons (ps_set (i := 2) sc_first_meeting.nd rfl (.inl rfl) (pe_make M_Walk_init G_Walk_init (hr.mono (by decide)) (by rfl) cl_Walk.g b_Walk_init .nil pass0 (pa_cons (pv 0) (pa_cons (pv 1) pa_nil))))
    (pss_cons (ps_expr (pe_call G_meet_soonest (hr.mono (by decide)) (by rfl) g_meet_soonest k_meet_soonest b_meet_soonest .nil pass0 (pa_cons (pv 2) (pa_cons (pe_call G_people_of (hr.mono (by decide)) (by rfl) g_people_of k_people_of b_people_of .nil pass0 (pa_cons (pv 1) pa_nil)) pa_nil))))
    (pss_one (ps_ret (pe_tup (pa_cons (pe_callB call_len_seq (by rfl) T.len PySem.boot_len (pa_cons (pe_fld (pv 2) rfl) pa_nil)) (pa_cons (pe_fld (pv 2) rfl) pa_nil))))))))), ?_⟩
  refine ⟨_, rfl, _, rfl, a, s, ds, n, S, rfl, hH, tree, by omega, st, ok, fun H1 s1 => ?_⟩
  refine ⟨_, rfl, _, rfl, a, s, n, ds, S, rfl, hH.same s1, tree, hn, st.same s1, ok, fun H2 Ls s2 rg => ?_⟩
  have ap := rg.toL.apt
  have s12 := s1.trans s2
  refine ⟨_, rfl, ?_⟩
  by_cases c : Apt ds S
  · refine iteT' (decide_eq_true (ap.mpr c)) ?_
    exact q1 c H2 s12
  refine iteF' (decide_eq_false fun z => c (ap.mp z)) ?_
  refine ⟨_, rfl, _, rfl, fun x dx nx nd ne => ?_⟩
  have sB : Same H2 (upd (upd H2 dx (.own x)) x (.ins C_Walk dx [])) := (Same.upd nd).at nx
  refine ⟨x, a, s, dx, n, ds, S, H2, rfl, upd_same, sB, nx, hH.same s12, st.same s12, ok, hn, by omega, fun H3 z s3 ez W nz => ⟨rfl, ?_⟩⟩
  subst ez
  have s13 := s12.trans s3
  refine ⟨_, rfl, _, rfl, s, n, ds, S, rfl, st.same s13, ok, fun H4 pq s4 npq hpq => ?_⟩
  have W4 := W.same s4
  refine ⟨z, a, pq, n, ds, S, [], rfl, W4, tree, hn, ok, hpq, c, by decide, fun H5 q5 A5 m i j x0 u v wy s5 nq5 hq5 ij jl pa ai aj W5 su sv wk ndw lm so mr => ?_⟩
  rw [List.nil_append] at W5
  obtain ⟨ts, hts, tl⟩ := id W5.pl
  have sB5 : Same H2 H5 := Saves.base (s3.trans s4) s5 nz
  refine ⟨_, rfl, z.wk, C_Walk, z.dx, _, .ref z.pl, rfl, W5.ob, cls, no _ (by decide), rfl, _, _, rfl, .inl (SqL.of hts), ?_⟩
  refine ⟨_, rfl, z.wk, C_Walk, z.dx, _, .ref z.pl, rfl, W5.ob, cls, no _ (by decide), rfl, by show 2 ≤ sizeLine; decide, fun t nt => ?_⟩
  rw [List.length_map, tl.1]
  have s6 := Same.upd (o := .tup [.int (m.length : Int), .ref z.pl]) nt
  exact q2 _ t z.pl m c ((s12.trans sB5).trans s6) (s12.free (nz _ (by simp))) upd_same (W5.pl.same s6) ⟨⟨A5, i, j, x0, u, v, wy, pa, ij, jl, ai, aj, su, sv, wk, ndw, lm, so, mr⟩⟩
end
end K5

namespace L2
open PySem PySem.Spec PyProof.Rows
/-! own rule: max(l, default=d) of a list of whole numbers -/
section
variable {prog : Program} {w : World} {A : Around} {R : Result → Shared → Prop} {I : Addr}
      {fp wr : List Addr} {n : Nat} {P : Nat → Value → Prop} {St : Nat → Heap → Prop}
theorem maxD_loop (walk : Walks prog w A.in1 I fp wr n P St) (beats : Nat → Nat → Bool) (above : CmpOf prog w A.in1 .Gt P beats) (S : Addr) (offF : S ∉ fp) (d : Value) :
    ∀ (k j : Nat) (s : Shared) (top : Value) (c : Nat), n - (j + 1) = k → j + 1 ≤ n → St (j + 1) s.heap → P (argBest beats j) top →
    s.heap.get? S = some { cls := .type "list", dict := none, data := .seq #[top, top] c, slots := #[] } →
    (∀ v hp1 tk1, P (argBest beats (n - 1)) v → (∀ b o, b ∉ wr → b ≠ S → s.heap.get? b = some o → hp1.get? b = some o) → R (.ok (.ret v)) { s with heap := hp1, toks := tk1 }) →
    codeAny (model prog w) A (.builtin "max.loop" ⟨[.ref I, .none, .ref S], [(Str.ofString "default", d)]⟩) R s := by
  have offW : S ∉ wr := fun h => offF (walk.sub _ h)
  have nm : toString "max" ++ toString ".loop" = "max.loop" := by decide
  intro k
  induction k with
  | zero =>
    intro j s top c left within stand best cell out
    have fin1 : j + 1 = n := by omega
    refine codeAny_builtin F.entry_max_loop ?_
    rw [Around.under_plainId F.plain_max_loop _]
    show wpAny _ A.in1 (seqItems?
          (.ref S) >>= _) _ _ s
    refine wpAny_bind (wpAny_seqItems cell rfl ?_)
    show wpAny _ A.in1 (tryCatch (pyNext
          (.ref I)) _ >>= _) _ _ s
    refine wpAny_bind (wpAny_tryCatch (walk.done s _ _ (fin1 ▸ stand) fun hp1 tk1 still => ?_))
    have cell1 := still S _ offW cell
    show wpAny _ A.in1 (updateSeq
          S (fun _ => #[]) >>= _) _ _ _
    refine wpAny_bind ?_
    refine wpAny_updateSeq cell1 rfl (wpAny_bind (wpAny_letGo (wpAny_pure ?_)))
    refine out top _ tk1 (by rw [← fin1]; exact best) fun b o nb1 nb2 e => (Heap.get?_update_other _ _ (Ne.symm nb2)).trans (still b o nb1 e)
  | succ k again =>
    intro j s top c left within stand best cell out
    have more : j + 1 < n := by omega
    refine codeAny_builtin F.entry_max_loop ?_
    rw [Around.under_plainId F.plain_max_loop _]
    show wpAny _ A.in1 (seqItems?
          (.ref S) >>= _) _ _ s
    refine wpAny_bind (wpAny_seqItems cell rfl ?_)
    show wpAny _ A.in1 (tryCatch (pyNext
          (.ref I)) _ >>= _) _ _ s
    refine wpAny_bind (wpAny_tryCatch (walk.item (j + 1) s _ _ more stand fun v hp1 tk1 val stand1 still => ?_))
    have cell1 := still S _ offW cell
    show wpAny _ A.in1 (tryCatch (holding [v, v] (richCompare .Gt v top >>= _)) _ >>= _) _ _ _
    refine wpAny_bind (wpAny_tryCatch (wpAny_holding (wpAny_bind (above (j + 1) (argBest beats j) v top _ _ _ val best ?_))))
    refine wpAny_bind (wpAny_holding
          (wpAny_truthy_bool ?_))
    refine wpAny_bind (wpAny_letGo
          (wpAny_pure ?_))
    cases wins : beats (j + 1) (argBest beats j) with
    | true =>
      simp only [if_true]
      refine wpAny_bind ?_
      refine wpAny_updateSeq cell1 rfl (wpAny_bind (wpAny_letGo ?_))
      rw [nm]
      refine wpAny_pure ⟨plainId_quiet F.plain_max_loop _, again (j + 1) _ v _ (by omega) more (walk.frame _ _ _ stand1 fun b nb3 o e => ?_) (by simp only [argBest, wins, if_true]; exact val) (Heap.get?_update_self _ cell1 rfl)
        fun v1 hp2 tk2 val1 still2 => ?_⟩
      · exact (Heap.get?_update_other _ _ (fun h : S = b => offF (by rw [h]; exact nb3))).trans e
      · exact out v1 hp2 tk2 val1 fun b o nb1 nb2 e => still2 b o nb1 nb2 ((Heap.get?_update_other _ _ (Ne.symm nb2)).trans (still b o nb1 e))
    | false =>
      simp only [Bool.false_eq_true, if_false]
      refine wpAny_bind (wpAny_letGo ?_)
      rw [nm]
      refine wpAny_pure ⟨plainId_quiet F.plain_max_loop _, again (j + 1) _ top c (by omega) more stand1 (by simp only [argBest, wins, Bool.false_eq_true, if_false]; exact best) cell1 fun v1 hp2 tk2 val1 still2 => ?_⟩
      exact out v1 hp2 tk2 val1 fun b o nb1 nb2 e => still2 b o nb1 nb2 (still b o nb1 e)

theorem maxD_loop_first (walk : Walks prog w A.in1 I fp wr n P St) (beats : Nat → Nat → Bool) (above : CmpOf prog w A.in1 .Gt P beats) (S : Addr) (offF : S ∉ fp) (d : Value) (some1 : 0 < n) {s : Shared} {c : Nat} (stand : St 0 s.heap)
    (cell : s.heap.get? S = some { cls := .type "list", dict := none, data := .seq #[] c, slots := #[] })
    (out : ∀ v hp1 tk1, P (argBest beats (n - 1)) v → (∀ b o, b ∉ wr → b ≠ S → s.heap.get? b = some o → hp1.get? b = some o) → R (.ok (.ret v)) { s with heap := hp1, toks := tk1 }) :
    codeAny (model prog w) A (.builtin "max.loop" ⟨[.ref I, .none, .ref S], [(Str.ofString "default", d)]⟩) R s := by
  have offW : S ∉ wr := fun h => offF (walk.sub _ h)
  have nm : toString "max" ++ toString ".loop" = "max.loop" := by decide
  refine codeAny_builtin F.entry_max_loop ?_
  rw [Around.under_plainId F.plain_max_loop _]
  show wpAny _ A.in1 (seqItems?
        (.ref S) >>= _) _ _ s
  refine wpAny_bind (wpAny_seqItems cell rfl ?_)
  show wpAny _ A.in1 (tryCatch (pyNext
        (.ref I)) _ >>= _) _ _ s
  refine wpAny_bind (wpAny_tryCatch (walk.item 0 s _ _ some1 stand fun v hp1 tk1 val stand1 still => ?_))
  have cell1 := still S _ offW cell
  show wpAny _ A.in1 (updateSeq S
        (fun _ => #[v, v]) >>= _) _ _ _
  refine wpAny_bind ?_
  refine wpAny_updateSeq cell1 rfl ?_
  rw [nm]
  refine wpAny_pure ⟨plainId_quiet F.plain_max_loop _, maxD_loop walk beats above S offF d _ 0 _ v _ rfl some1 (walk.frame _ _ _ stand1 fun b nb3 o e => ?_) val (Heap.get?_update_self _ cell1 rfl) fun v1 hp2 tk2 val1 still2 => ?_⟩
  · exact (Heap.get?_update_other _ _ (fun h : S = b => offF (by rw [h]; exact nb3))).trans e
  · exact out v1 hp2 tk2 val1 fun b o nb1 nb2 e => still2 b o nb1 nb2 ((Heap.get?_update_other _ _ (Ne.symm nb2)).trans (still b o nb1 e))

theorem maxD_none (walk : Walks prog w A.in1 I fp wr 0 P St) (S : Addr) (offF : S ∉ fp) (d : Value) {s : Shared} {c : Nat} (stand : St 0 s.heap)
    (cell : s.heap.get? S = some { cls := .type "list", dict := none, data := .seq #[] c, slots := #[] })
    (out : ∀ hp1 tk1, (∀ b o, b ∉ wr → b ≠ S → s.heap.get? b = some o → hp1.get? b = some o) → R (.ok (.ret d)) { s with heap := hp1, toks := tk1 }) :
    codeAny (model prog w) A (.builtin "max.loop" ⟨[.ref I, .none, .ref S], [(Str.ofString "default", d)]⟩) R s := by
  have offW : S ∉ wr := fun h => offF (walk.sub _ h)
  have nm : toString "max" ++ toString ".loop" = "max.loop" := by decide
  refine codeAny_builtin F.entry_max_loop ?_
  rw [Around.under_plainId F.plain_max_loop _]
  show wpAny _ A.in1 (seqItems?
        (.ref S) >>= _) _ _ s
  refine wpAny_bind (wpAny_seqItems cell rfl ?_)
  show wpAny _ A.in1 (tryCatch (pyNext
        (.ref I)) _ >>= _) _ _ s
  refine wpAny_bind (wpAny_tryCatch (walk.done s _ _ stand fun hp1 tk1 still => ?_))
  refine wpAny_bind (wpAny_rule
        (wpAny_pure ?_))
  exact out hp1 tk1 fun b o h1 _ e => still b o h1 e
end
section
variable {P : Program} {w : World} {A : Around}
      {E : Value → Shared → Prop} {s : Shared}
theorem max_tree_kw {args : List Value} {kw : List (Str × Value)} {Q : Value → Shared → Prop} (fits : argsOk "max" ⟨args, kw⟩)
    (does : wpAny (model P w) A.in1 (Builtin.«max» ⟨args, kw⟩) (fun fin s' => match fin with
      | .done fl => (match (Except.ok fl : Result) with | .ok (.ret u) => Q u s' | .ok _ => False | .error er => E er s')
      | .again c' => c'.quiet = true ∧ codeAny (model P w) A c' (fun r s' => match r with | .ok (.ret v) => Q v s' | .ok _ => False | .error e => E e s') s') E s) :
    wpAny (model P w) A (call (.builtin "max") args kw) Q E s := by
  refine wpAny_call (codeAny_call_builtin F.plain_max F.entry_max ?_)
  simp only [checkBuiltinCall, F.kind_max]
  cases sg : Manifest.signature? "max" with
  | none => exact wpAny_pure does
  | some sig =>
    simp only [argsOk, sg] at fits
    have chk : Bind.checkArgs "max" sig ⟨args, kw⟩ = pure () := fits
    show wpAny _ A.in1 (Bind.checkArgs "max" sig ⟨args, kw⟩) _ _ s
    rw [chk]; exact wpAny_pure does
theorem maxD_walk {x d : Value} {Q : Value → Shared → Prop}
    (h : wpAny (model P w) A.in1 (pyIter x) (fun it s₂ => ∃ I fp wr n Pv St beats, it = .ref I ∧ Walks P w A.in1 I fp wr n Pv St ∧ St 0 s₂.heap ∧ (∀ b ∈ fp, b < s₂.heap.objs.size) ∧ CmpOf P w A.in1 .Gt Pv beats ∧
      (0 < n → ∀ v hp1 tk1, Pv (argBest beats (n - 1)) v → (∀ b o, b ∉ wr → s₂.heap.get? b = some o → hp1.get? b = some o) → Q v { s₂ with heap := hp1, toks := tk1 }) ∧
      (n = 0 → ∀ hp1 tk1, (∀ b o, b ∉ wr → s₂.heap.get? b = some o → hp1.get? b = some o) → Q d { s₂ with heap := hp1, toks := tk1 })) E s) :
    wpAny (model P w) A (call (.builtin "max") [x] [(Str.ofString "default", d)]) Q E s := by
  have nm : toString "max" ++ toString ".loop" = "max.loop" := by decide
  refine max_tree_kw (by unfold argsOk; kernel_rfl) ?_
  show wpAny _ A.in1 (Builtin.Builtins.bindParams "max" ["key",
        "default"] 0 ⟨[], [(Str.ofString "default", d)]⟩ >>= _) _ _ s
  have given : Builtin.Builtins.bindParams "max" ["key", "default"] 0 ⟨[], [(Str.ofString "default", d)]⟩ = pure [none, some d] := rfl
  refine wpAny_bind (wpAny_of_eq given ?_)
  refine wpAny_bind (wpAny_pure ?_)
  refine wpAny_bind (wpAny_mono h (fun
        it s₂ h₂ => ?_) fun _ _ e => e)
  obtain ⟨I, fp, wr, n, Pv, St, beats, rfl, walk, stand, inside, above, one, none1⟩ := h₂
  refine wpAny_bind (wpAny_newObj_type ?_)
  have offF : s₂.heap.objs.size ∉ fp := fun isIn => Nat.lt_irrefl _ (inside _ isIn)
  rw [nm]
  have stand2 := walk.frame _ _ _ stand fun b (_ : b ∈ fp) o e => Heap.get?_push_of_some { cls := .type "list", dict := none, data := .seq #[] : Obj } e
  by_cases some1 : 0 < n
  · refine wpAny_pure ⟨plainId_quiet F.plain_max_loop _, maxD_loop_first walk beats above s₂.heap.objs.size offF d some1 stand2 (Heap.get?_push_size _ rfl) fun v hp1 tk1 val left => ?_⟩
    exact one some1 v hp1 tk1 val fun b o nb1 e => left b o nb1 (Nat.ne_of_lt (Heap.lt_size e)) (Heap.get?_push_of_some _ e)
  · have e0 : n = 0 := by omega
    subst e0
    refine wpAny_pure ⟨plainId_quiet F.plain_max_loop _, maxD_none walk s₂.heap.objs.size offF d stand2 (Heap.get?_push_size _ rfl) fun hp1 tk1 left => ?_⟩
    exact none1 rfl hp1 tk1 fun b o nb1 e => left b o nb1 (Nat.ne_of_lt (Heap.lt_size e)) (Heap.get?_push_of_some _ e)
theorem maxD_ints {l : Addr} {its : List Value} {ns : List Int} {d : Value} {Q : Value → Shared → Prop} (hh : A.handled = none) (hl : s.heap.IsList l its.toArray) (hi : IntsAre its ns)
    (h1 : ∀ hp1 tk1 M t', (∀ b o, s.heap.get? b = some o → hp1.get? b = some o) → M ∈ ns → (∀ a, a ∈ ns → a ≤ M) → Q (.int M t') { s with heap := hp1, toks := tk1 })
    (chk : ns = [] → ∀ hp1 tk1, (∀ b o, s.heap.get? b = some o → hp1.get? b = some o) → Q d { s with heap := hp1, toks := tk1 }) :
    wpAny (model P w) A (call (.builtin "max") [.ref l] [(Str.ofString "default", d)]) Q E s := by
  obtain ⟨xs, e⟩ := hi.allInts.items
  have some1 : numsOf (intItems xs).toList = ns := by rw [← e]; exact hi.numsOf
  rw [nums_intItems] at some1
  subst some1
  rw [e] at hl
  refine maxD_walk (iter_intList hl fun s₂ e st inside hlI => ?_)
  subst e
  refine ⟨_, _, _, _, _, _, _, rfl, Walks.list (A := A.in1) hh _ l hlI (intItems xs), st, inside, CmpOf.ints_gt (numAt xs) (fun _ _ => intItems_at), fun hpos v hp1 tk1 val left => ?_, fun hz hp1 tk1 left => ?_⟩
  · have hsz : 0 < xs.size := by simpa [intItems] using hpos
    have hv : (intItems xs)[argBest (fun i j => decide (numAt xs i > numAt xs j)) (xs.size - 1)]? = some v := by simpa [intItems] using val
    obtain ⟨t, rfl⟩ := intItems_at hv
    obtain ⟨g1, g2⟩ := argBest_gt (numAt xs) (xs.size - 1)
    refine h1 hp1 tk1 _ t (old_kept left) ?_ fun a fits => ?_
    · rw [numAt_eq]; exact PySem.getD_mem (by rw [List.length_map, Array.length_toList]; omega)
    · obtain ⟨j, within, rfl⟩ := mem_getD fits
      rw [List.length_map, Array.length_toList] at within
      rw [← numAt_eq]
      exact g2 j (by omega)
  · refine chk ?_ hp1 tk1 (old_kept left)
    have hsz : xs.size = 0 := by simpa [intItems] using hz
    rw [← Array.length_toList, List.length_eq_zero_iff] at hsz
    rw [hsz]
    rfl
end
def rMaxDf (K : PySem.W.Frag) : List V → List V → Hp → VK → Prop := fun vs zs H Q => ∃ (a : Addr) (ns : List Int) (d : V), vs = [V.ref a] ∧ zs = [d] ∧ SqL K H a (ns.map V.int) ∧ (∀ m, m ∈ ns → (∀ y, y ∈ ns → y ≤ m) → Q (.int m) H) ∧ (ns = [] → Q d H)
theorem cr_maxDf {X : Cx} (does : X.calm = true) : CallRK X (.builtin "max") [Str.ofString "default"] (rMaxDf X.K) := by
  rintro pins s σ H xs zs us ws Q I r rz ⟨a, ns, d, rfl, rfl, hs, q1, q2⟩
  obtain ⟨its, rv, hl, _⟩ := I.list hs
  obtain ⟨u, rfl, ru⟩ : ∃ u, ws = [u] ∧ RelV d u := by
    cases rz with
    | cons h t => cases t; exact ⟨_, rfl, h⟩
  rw [Vals.ref1 r]
  exact maxD_ints (I.ok.hd does) hl.isList rv.ints (fun hp1 tk1 m t' left h1 chk => ⟨.int _, H, I.kept left, ⟨_, rfl⟩, q1 m h1 chk⟩) (fun e hp1 tk1 left => ⟨d, H, I.kept left, ru, q2 e⟩)
end L2

namespace L2
open PySem PySem.Spec PyProof.Rows PySem.W
/-! own rule: min(l, default=d) of a list of whole numbers -/
theorem dp_ns {K : PySem.W.Frag} {H : Hp} : ∀ ns : List Int, DpAll K H (ns.map V.int) (ns.map PyData.int)
  | [] => .nil
  | n :: r => .cons (.int n) (dp_ns r)
theorem fold_min : ∀ (ns : List Int) (n : Int), ns.foldl min n ∈ n :: ns ∧ ∀ y ∈ n :: ns, ns.foldl min n ≤ y
  | [], n => ⟨List.mem_cons_self, fun y hy => by rw [List.mem_singleton.mp hy]; exact Int.le_refl _⟩
  | a :: r, n => by
    obtain ⟨h1, h2⟩ := fold_min r (min n a)
    rw [List.foldl_cons]
    refine ⟨?_, fun y hy => ?_⟩
    · rcases List.mem_cons.mp h1 with e | e
      · rw [e]
        by_cases c : n ≤ a
        · rw [Int.min_eq_left c]; exact List.mem_cons_self
        · rw [Int.min_eq_right (by omega)]; exact List.mem_cons_of_mem _ List.mem_cons_self
      · exact List.mem_cons_of_mem _ (List.mem_cons_of_mem _ e)
    · have m := h2 (min n a) List.mem_cons_self
      rcases List.mem_cons.mp hy with e | e
      · rw [e]; omega
      · rcases List.mem_cons.mp e with e | e
        · rw [e]; omega
        · exact h2 y (List.mem_cons_of_mem _ e)
theorem alike_ns (ns : List Int) : AlikeAll (ns.map PyData.int) := by
  refine ⟨fun x hx y hy => ?_, fun x hx => ?_⟩
  · obtain ⟨a, _, rfl⟩ := List.mem_map.mp hx
    obtain ⟨b, _, rfl⟩ := List.mem_map.mp hy
    simp [alike]
  · obtain ⟨a, _, rfl⟩ := List.mem_map.mp hx
    exact fun e => by cases e
theorem dep_ns : ∀ ns : List Int, PyData.depthAll (ns.map .int) = 0
  | [] => rfl
  | n :: r => by
    rw [List.map_cons, PyData.depthAll, dep_ns r]
    rfl
def rMinDf (K : PySem.W.Frag) : List V → List V → Hp → VK → Prop := fun vs zs H Q => ∃ (a : Addr) (ns : List Int) (d : V), vs = [V.ref a] ∧ zs = [d] ∧ SqL K H a (ns.map V.int) ∧ (∀ m, m ∈ ns → (∀ y, y ∈ ns → m ≤ y) → Q (.int m) H) ∧ (ns = [] → Q d H)
theorem cr_minDf {X : Cx} (does : X.calm = true) (hu : X.A.units + 64 < cLine) : CallRK X (.builtin "min") [Str.ofString "default"] (rMinDf X.K) := by
  rintro pins s σ H xs zs us ws Q I r rz ⟨a, ns, d, rfl, rfl, hs, q1, q2⟩
  obtain ⟨its, rv, hl, _⟩ := I.list hs
  obtain ⟨u, rfl, ru⟩ : ∃ u, ws = [u] ∧ RelV d u := by
    cases rz with
    | cons h t => cases t; exact ⟨_, rfl, h⟩
  rw [Vals.ref1 r]
  obtain ⟨as, ra⟩ := Dp.readsAll I (ns.map PyData.int) (ns.map V.int) its (dp_ns ns) rv
  refine min_list_default (I.ok.hd does) hl.isList ra (alike_ns ns) (by rw [dep_ns]; omega) (fun e h' tk k => ⟨d, H, I.kept k, ru, q2 (List.map_eq_nil_iff.mp e)⟩) fun y ys i v h' tk bs e hv rd k => ?_
  cases ns with
  | nil => cases e
  | cons n rest =>
    rw [List.map_cons] at e
    obtain ⟨e1, e2⟩ := List.cons.inj e
    subst e1
    subst e2
    rw [minD_ints] at rd
    obtain ⟨f1, f2⟩ := fold_min rest n
    have hi := rv.ints
    have hv' : its[i]? = some
          v := by simpa using hv
    obtain ⟨t, rfl⟩ := PyProof.Rows.IntsAre.int_at hi i v hv'
    have eq : ((n :: rest).getD i 0) = rest.foldl min n := by
      generalize (n :: rest).getD i 0 = p at rd ⊢
      generalize rest.foldl min n = q at rd ⊢
      cases rd
      rfl
    rw [eq]
    exact ⟨.int _, H, I.kept k, ⟨_, rfl⟩, q1 _ f1 f2⟩
end L2

namespace K5
open PySem PySem.Spec PyProof.Rows L2
/-- two who can meet, and how far apart they are -/
def PairD (ds : List (Nat × Nat)) (S : S2) (i j d : Nat) : Prop := ∃ (r x y : Nat) (w : List Nat), Rg ds S i r ∧ Rg ds S j r ∧ S.1[i]? = some x ∧ S.1[j]? = some y ∧ Walk ds x w y ∧ w.Nodup ∧ d = w.length
/-- the distances found, for the pairs before (one, k) -/
structure Found (ds : List (Nat × Nat)) (S : S2) (one k : Nat) (D : List Nat) : Prop where
  all : ∀ i j d, i < j → (j < one ∨ (j = one ∧ i < k)) → PairD ds S i j d → d ∈ D
  are : ∀ d ∈ D, ∃ i j, i < j ∧ PairD ds S i j d
  len : D.length ≤ 10 * one + k
def spSmall (K : PySem.W.Frag) : Sp := fun vs H Q _ => ∃ (a s : Addr) (n : Nat) (ds : List (Nat × Nat)) (S : S2), vs = [.ref a, .ref s] ∧ HouseAt K H a ds ∧ Tree n ds ∧ n ≤ 60 ∧ StateAt K H s S ∧ StOk n ds S ∧ (Apt ds S → ∀ H', Same H H' → Q .non H') ∧
  ∀ (H' : Hp) (d : Nat), Same H H' → (∃ i j, i < j ∧ PairD ds S i j d) → (∀ i j e, i < j → PairD ds S i j e → d ≤ e) → Q (.int (d : Int)) H'
theorem eqv_ints_nil (l : List Nat) : PyData.eqv (.list (dIs l)) (.list []) = decide (l = []) := by
  cases l with
  | nil => simp [dIs, PyData.eqv, PyData.eqvAll]
  | cons a r =>
    rw [decide_eq_false (by simp)]
    simp [dIs, PyData.eqv, PyData.eqvAll]
theorem dInts_shaped (x : List Nat) : SeqAt.shaped (.list (dIs x)) = true := by
  refine shaped_mk ?_ ?_
  · simp only [PyData.canLay0]
    exact dIs_lay x
  · have := dIs_depth x
    simp only [PyData.depth]
    omega
theorem reg_len {n : Nat} {ds : List (Nat × Nat)} (T : Tree n ds) {S : S2} (o : StOk n ds S) {Ls : List (List Nat)} (h : RegsL ds S S.1.length Ls) : ∀ L ∈ Ls, L.length ≤ n := by
  intro L hL
  obtain ⟨p, hp⟩ := List.mem_iff_getElem?.mp hL
  have r := h.at_ p L hp
  have lp : p < S.1.length := by have := get_lt hp; rw [h.len] at this; exact this
  obtain ⟨v, hv⟩ : ∃ v, S.1[p]? = some v := get_of rfl lp
  have vn := o.rooms v (List.mem_of_getElem? hv)
  refine nodup_le n L r.nd fun x hx => ?_
  obtain ⟨w, W, _⟩ := (r.mem x).mp hx
  rw [getD_of hv] at W
  exact walk_in T W vn
section
variable {P : Program} {w : World} {K : PySem.W.Frag}
      {mg : Str → Option Value} {base : Heap}
end
end K5

/-! own error classes with __init__(self, ..=None), of any one or two fields; defs that raise them -/
namespace L2
open PySem PySem.Spec PyProof.Rows
/-- what the top holds of an error's class -/
structure ErrK (K : PySem.W.Frag) (mg : Str → Option Value) (x : Str) (C fI : Addr) (flds : List Str) : Prop where
  g : mg x = some (.ref C)
  o : OexC K C
  f : XfC K C
  i : PySem.W.findIn K (.ref C) "__init__" = some (some (.ref fI))
  t : PySem.W.typeIn K (.ref fI) = some (.type "function")
  r : ∀ q ∈ flds, PySem.W.findIn K (.ref C) q = some none
  xm : PySem.W.exmOne K (.ref C) (.ref C) = some true
/-- one field: the value is stored -/
def spE1 (C : Addr) (q : Str) : Sp := fun vs H Q _ => ∃ (a : Addr) (y : V), vs = [.ref a, y] ∧ H a = some (exo a C none) ∧ ∀ d, H d = none → d ≠ a → Q .non (upd (upd H d (exd d [(q, y)])) a (exo a C (some d)))
/-- two fields -/
def spE2 (C : Addr) (q1 q2 : Str) : Sp := fun vs H Q _ => ∃ (a : Addr) (x y : V), vs = [.ref a, x, y] ∧ H a = some (exo a C none) ∧
  ∀ d, H d = none → d ≠ a → Q .non (upd (upd (upd H d (exd d [(q1, x)])) a (exo a C (some d))) d (exd d [(q2, y), (q1, x)]))
def ErrOkK (P : Program) (w : World) (K : PySem.W.Frag) (mg : Str → Option Value) (base : Heap) (x : Str) (C : Addr) (ps flds : List Str) (sp : Sp) : Prop :=
  ∃ (fI : Addr) (fd : FuncData), ErrK K mg x C fI flds ∧ FnOk P w K mg base CX0 1 fI fd ps sp ∧ Binds K fd ps []
/-- the heap behind a raise: the error's dict is new, the error itself flies -/
theorem Same.err {H G : Hp} {b d : Addr} {y : HO} (nb : H b = none) (nd : H d = none) (h : ∀ c, c ≠ b → c ≠ d → G c = H c) : Same H (L2.upd (L2.del G b) d y) := fun c o e => by
  have h1 := ne_of_none e nb
  have h2 := ne_of_none e nd
  rw [L2.upd_ne h2, L2.del_ne h1, h c h1 h2]
  exact e
/-- a def that may raise -/
def CalX (P : Program) (w : World) (K : PySem.W.Frag) (mg : Str → Option Value) (base : Heap) (x : Str) (ps : List Str) (k : Nat) (sp : Sp) : Prop :=
  ∃ (f : Addr) (fd : FuncData), mg x = some (.ref f) ∧ PySem.W.keepIn K (.ref f) = true ∧ Binds K fd ps [] ∧ FnOk P w K mg base (L2.CX P w) k f fd ps sp
theorem Def.okX {P : Program} {w : World} {K : PySem.W.Frag} {mg : Str → Option Value} {base : Heap} {x : Str} {st : Stmt} {N ps : List Str} {k : Nat} {sp : Sp} (D : Def K mg x st) (S : FnScope N ps (defScope st))
    (hb : ∀ (kV doc pm : Value) (an : Option Addr) (cdv ct : Value) (us : List Value), us.length = ps.length → bindArgs (PySem.W.fnOf x x (defArgs st) (defBody st) (defScope st) .none kV doc pm an cdv ct) ⟨us, []⟩ = pure (ps.zip us))
    (ar : ∀ vs H Q E, sp vs H Q E → vs.length = ps.length)
    (hbody : ∀ (f : Addr) (cdv : Value) (A : Around) (outer : List Env) (s : Shared) (H : Hp) (vs : List V) (Q : VK) (E : XK), Room k (A.deeper (envOfC x (defScope st) s.heap.objs.size f cdv)) → sp vs H Q E →
      ∃ t, PSs (cxOf (L2.CX P w) P w K mg base N x (defScope st) f cdv A outer s H E) (defBody st) t ∧ t { nx := fun _ H' => Q .non H', rt := Q } (start N vs) H) : CalX P w K mg base x ps (k + 1) sp := by
  obtain ⟨f, fd, F, m⟩ := D
  exact ⟨f, fd, m, F.kp, F.binds hb, F.okX S ar fun cdv A outer s H vs Q E hr h => hbody f cdv A outer s H vs Q E hr h⟩
/-- values that are no whole numbers -/
inductive Odd (K : PySem.W.Frag) (H : Hp) : V → Prop
  | bl (b : Bool) : Odd K H (.bl b)
  | non : Odd K H .non
  | str (z : Str) : Odd K H (.str z)
  | tup {a : Addr} {xs : List V} (h : SqT K H a xs) : Odd K H (.ref a)
  | lst {a : Addr} {xs : List V} (h : H a = some (.lst xs)) : Odd K H (.ref a)
theorem Odd.same {K : PySem.W.Frag} {H H' : Hp} {x : V} (h : Odd K H x) (s : Same H H') : Odd K H' x := by
  cases h with
  | bl b => exact .bl b
  | non => exact .non
  | str z => exact .str z
  | tup h => exact .tup (s.tup h)
  | lst h => exact .lst (s _ _ h)
end L2

namespace K5
open PySem PySem.Spec PyProof.Rows L2
def mem0 (s : Stmt) : Stmt := match s with
  | .ClassDef _ _ _ (b :: _) _ _ _ _ _ _ _ => b
  | _ => .Pass ⟨0, 0, 0, 0⟩
abbrev s_mb : Stmt := mem0 (top 8)
abbrev N_mb : List Str := ["self", "index", "reason"]
theorem sc_mb : FnScope N_mb ["self", "index", "reason"] (defScope s_mb) := ⟨rfl, rfl, rfl, by decide +kernel, rfl, by decide +kernel, by decide +kernel⟩
abbrev s_it : Stmt := mem0 (top 9)
abbrev N_it : List Str := ["self", "count"]
theorem sc_it : FnScope N_it ["self", "count"] (defScope s_it) := ⟨rfl, rfl, rfl, by decide +kernel, rfl, by decide +kernel, by decide +kernel⟩
section
variable {P : Program} {w : World} {K : PySem.W.Frag}
      {mg : Str → Option Value} {base : Heap}
theorem e_ok_mb {C f : Addr} {fd : FuncData} (T : ErrK K mg "MoveBlocked" C f ["index", "reason"]) (F : FunD K "__init__" "MoveBlocked.__init__" (defArgs s_mb) (defBody s_mb) (defScope s_mb) [.non, .non] [] f fd) : FnOk P w K mg base CX0 1 f fd ["self", "index", "reason"] (spE2 C "index" "reason") := by
  refine F.ok (CX := CX0) sc_mb (fun vs H Q E h => ?_) (fun cdv A outer s H vs Q E hr h => ?_)
  · obtain ⟨a, x, y, rfl, _⟩ := h
    rfl
  obtain ⟨a, x, y, rfl, ha, q⟩ := h
  refine ⟨_, (pss_cons (ps_ost (pv 0) (pv 1)) (pss_one (ps_ost (pv 0) (pv 2)))), ?_⟩
  refine ⟨_, rfl, _, rfl, a, C, rfl, T.o, T.r _ (by decide +kernel), .inl ⟨ha, fun d nd ne => ?_⟩⟩
  refine ⟨_, rfl, _, rfl, a, C, rfl, T.o, T.r _ (by decide +kernel), .inr ⟨d, _, upd_same, by rw [upd_ne ne, upd_same], by show 1 ≤ 900; decide, q d nd ne⟩⟩
theorem e_b_mb {f : Addr} {fd : FuncData} (F : FunD K "__init__" "MoveBlocked.__init__" (defArgs s_mb) (defBody s_mb) (defScope s_mb) [.non, .non] [] f fd) : Binds K fd ["self", "index", "reason"] [] := by
  obtain ⟨ds, v, b⟩ := F.binds1 (ps := ["self", "index", "reason"]) 3 2 (by simp) rfl (fun T kV doc pm an cdv ct us its hl hl2 => match us, hl, its, hl2 with | [_, _, _], _, [_, _], _ => ⟨_, rfl, rfl⟩)
  cases v
  exact b
theorem e_ok_it {C f : Addr} {fd : FuncData} (T : ErrK K mg "IndexTooLarge" C f ["count"]) (F : FunD K "__init__" "IndexTooLarge.__init__" (defArgs s_it) (defBody s_it) (defScope s_it) [.non] [] f fd) : FnOk P w K mg base CX0 1 f fd ["self", "count"] (spE1 C "count") := by
  refine F.ok (CX := CX0) sc_it (fun vs H Q E h => ?_) (fun cdv A outer s H vs Q E hr h => ?_)
  · obtain ⟨a, y, rfl, _⟩ := h
    rfl
  obtain ⟨a, y, rfl, ha, q⟩ := h
  refine ⟨_, (pss_one (ps_ost (pv 0) (pv 1))), ?_⟩
  exact ⟨_, rfl, _, rfl, a, C, rfl, T.o, T.r _ (by decide +kernel), .inl ⟨ha, fun d nd ne => q d nd ne⟩⟩
theorem e_b_it {f : Addr} {fd : FuncData} (F : FunD K "__init__" "IndexTooLarge.__init__" (defArgs s_it) (defBody s_it) (defScope s_it) [.non] [] f fd) : Binds K fd ["self", "count"] [] := by
  obtain ⟨ds, v, b⟩ := F.binds1 (ps := ["self", "count"]) 2 1 (by simp) rfl (fun T kV doc pm an cdv ct us its hl hl2 => match us, hl, its, hl2 with | [_, _], _, [_], _ => ⟨_, rfl, rfl⟩)
  cases v
  exact b
end
end K5

namespace K5
open PySem PySem.Spec PyProof.Rows L2
/-- a move is blocked: what flies -/
def spPlayX (K : PySem.W.Frag) (CM : Addr) : Sp := fun vs H Q E => ∃ (a s pl : Addr) (n : Nat) (ds : List (Nat × Nat)) (S : S2) (l : List Mv), vs = [.ref a, .ref s, .ref pl] ∧ HouseAt K H a ds ∧ Tree n ds ∧ n ≤ 1000 ∧ StateAt K H s S ∧ StOk n ds S ∧ PlanAt H pl l false ∧ (∀ m ∈ l, VM ds S.1.length m) ∧
  (∀ S', runs ds 0 S l = .inr S' → ∀ (H' : Hp) (q : Addr), Same H H' → StateAt K H' q S' → Q (.ref q) H') ∧
  (∀ i w, runs ds 0 S l = .inl (i, w) → ∀ (H' : Hp) (t d : Addr), Same H H' → H' t = some (.tup [.str (Str.ofString w)]) → H' d = some (.xd [("reason", .ref t), ("index", .int (i : Int))]) → E (.ref CM) (some d) H')
/-- the doors given -/
def spPlayedX (K : PySem.W.Frag) (CM : Addr) : Sp := fun vs H Q E => ∃ (pd s pl : Addr) (n : Nat) (ds : List (Nat × Nat)) (kvs : List (List Key × V)) (S : S2) (l : List Mv), vs = [.ref pd, .ref s, .ref pl] ∧ H pd = some (.dT kvs) ∧ DrD ds ds.length kvs ∧ Tree n ds ∧ n ≤ 1000 ∧ StateAt K H s S ∧ StOk n ds S ∧ PlanAt H pl l false ∧ (∀ m ∈ l, VM ds S.1.length m) ∧
  (∀ S', runs ds 0 S l = .inr S' → ∀ (H' : Hp) (q : Addr), Same H H' → StateAt K H' q S' → Q (.ref q) H') ∧
  (∀ i w, runs ds 0 S l = .inl (i, w) → ∀ (H' : Hp) (t d : Addr), Same H H' → H' t = some (.tup [.str (Str.ofString w)]) → H' d = some (.xd [("reason", .ref t), ("index", .int (i : Int))]) → E (.ref CM) (some d) H')
section
variable {P : Program} {w : World} {K : PySem.W.Frag}
      {mg : Str → Option Value} {base : Heap}
theorem ok_played {CM : Addr} (T : Bl mg) (E_mb : ErrOkK P w K mg base "MoveBlocked" CM ["self", "index", "reason"] ["index", "reason"] (spE2 CM "index" "reason")) (D : Def K mg "played" s_played) : CalX P w K mg base "played" ["doors", "state", "plan"] 3 (spPlayedX K CM) := by
  obtain ⟨f_mb, fd_mb, e_mb, F_mb, B_mb⟩ := E_mb
  refine D.okX sc_played (fun _ _ _ _ _ _ us hl => match us, hl with | [_, _, _], _ => rfl) (fun vs H Q E h => ?_) (fun f cdv A outer s0 H vs Q E hr h => ?_)
  · obtain ⟨pd, s, pl, n, ds, kvs, S, l, rfl, _⟩ := h
    rfl
  obtain ⟨pd, s, pl, n, ds, kvs, S, l, rfl, hpd, dr, tree, hn, st, ok, hpl, vm, q0, q2⟩ := h
  obtain ⟨r, b, h1, h2, h3⟩ := id st
  have hdn := tree.len
  have one := ok.one
  skip
  refine ⟨_, (pss_cons (ps_set (i := 3) sc_played.nd rfl (.inl rfl) (pe_callTy call_list_of (by rfl) T.list (by decide +kernel) (pa_cons (pe_ix ix_tup (pv 1) pe_int (fun _ _ => rfl)) pa_nil)))
    (pss_cons (ps_set (i := 4) sc_played.nd rfl (.inl rfl) (pe_callTy call_list_of (by rfl) T.list (by decide +kernel) (pa_cons (pe_ix ix_tup (pv 1) pe_int (fun _ _ => rfl)) pa_nil)))
    (pss_cons (ps_for (passes_of rfl) rfl (pi_enum (by rfl) T.enumerate (pa_cons (pv 2) pa_nil)) (pg_tup (n := 2) rfl (pgs_cons (pg_name (i := 5) sc_played.nd rfl (.inl rfl)) (pgs_cons (pg_tup (n := 3) rfl (pgs_cons (pg_name (i := 6) sc_played.nd rfl (.inl rfl)) (pgs_cons (pg_name (i := 7) sc_played.nd rfl (.inl rfl)) (pgs_cons (pg_name (i := 8) sc_played.nd rfl (.inl rfl)) pgs_nil)))) pgs_nil)))
    (pss_cons (ps_set (i := 9) sc_played.nd rfl (.inl rfl) (pe_dget (hu_of hr) (pv 0) (pe_tup (pa_cons (pv 7) (pa_cons (pv 8) pa_nil))) (fun _ _ => rfl)))
    (pss_cons (ps_if (pt_cmpR op_ne (pe_ix ix_list (pv 3) (pv 6) (fun _ _ => rfl)) (pv 7) (nomark _)) (pss_one (ps_raise rfl (takes_of rfl rfl rfl rfl) (by exact (pmk_oex e_mb.o e_mb.i e_mb.t F_mb (hr.mono (by decide)) B_mb .nil pass0 (by rfl) e_mb.g (pa_cons (pv 5) (pa_cons (pe_tup (pa_cons pe_str pa_nil)) pa_nil)))))) pss_nil)
    (pss_cons (ps_if (pt_cmpR op_eq (pe_ix ix_list (pv 4) (pv 9) (fun _ _ => rfl)) (pv 6) (nomark _)) (pss_one (ps_raise rfl (takes_of rfl rfl rfl rfl) (by exact (pmk_oex e_mb.o e_mb.i e_mb.t F_mb (hr.mono (by decide)) B_mb .nil pass0 (by rfl) e_mb.g (pa_cons (pv 5) (pa_cons (pe_tup (pa_cons pe_str pa_nil)) pa_nil)))))) pss_nil)
    (pss_cons (ps_asg (pv 8) (pg_sub (pv 3) (pv 6) set_list))
    (pss_one (ps_asg (pv 6) (pg_sub (pv 4) (pv 9) set_list))))))))
    (pss_one (ps_ret (pe_tup (pa_cons (pe_callTy call_tuple_of (by rfl) T.tuple (by decide +kernel) (pa_cons (pv 3) pa_nil)) (pa_cons (pe_callTy call_tuple_of (by rfl) T.tuple (by decide +kernel) (pa_cons (pv 4) pa_nil)) pa_nil)))))))), ?_⟩
  obtain ⟨ts, hts, tl⟩ := hpl
  rw [if_neg (by simp), List.append_nil] at hts
  refine ⟨_, rfl, s, _, _, _, rfl, rfl, h1, atI_nat (j := 0) rfl, r, _, rfl, .inr h2, fun pr npr => ?_⟩
  have s14 := Same.upd (o := .lst (nv S.1)) npr
  have hpd4 : (upd H pr (.lst (nv S.1))) pd = some (.dT kvs) := by rw [upd_ne (ne_of_none hpd npr)]; exact hpd
  have hpr4 : (upd H pr (.lst (nv S.1))) pr = some (.lst (nv S.1)) := upd_same
  have npr0 := npr
  generalize upd H pr (.lst (nv S.1)) = H4 at s14 hpd4 hpr4
  refine ⟨_, rfl, s, _, _, _, rfl, rfl, s14.tup h1, atI_nat (j := 1) rfl, b, _, rfl, .inr (s14.tup h3), fun pb npb => ?_⟩
  have s15 := s14.trans (Same.upd (o := .lst (nv S.2)) npb)
  have hpd5 : (upd H4 pb (.lst (nv S.2))) pd = some (.dT kvs) := by rw [upd_ne (ne_of_none hpd4 npb)]; exact hpd4
  have nrb : pr ≠ pb := ne_of_none hpr4 npb
  have hpr5 : (upd H4 pb (.lst (nv S.2))) pr = some (.lst (nv S.1)) := by rw [upd_ne nrb]; exact hpr4
  have hpb5 : (upd H4 pb (.lst (nv S.2))) pb = some (.lst (nv S.2)) := upd_same
  have npb0 := s14.free npb
  generalize upd H4 pb (.lst (nv S.2)) = H5 at s15 hpd5 hpr5 hpb5
  have ndr : pd ≠ pr := ne_of hpd5 hpr5 (by intro z; cases z)
  have ndb : pd ≠ pb := ne_of hpd5 hpb5 (by intro z; cases z)
  refine ⟨_, rfl, pl, _, rfl, SqL.of (s15 _ _ hts), ?_⟩
  refine for_it (walk_enum (K := K) (a := pl) (xs := ts.map V.ref)) (fun k σ H6 => ∃ Sk y6 y7 y8 y9 y10, σ = [some (.ref pd), some (.ref s), some (.ref pl), some (.ref pr), some (.ref pb), y6, y7, y8, y9, y10] ∧ Same H H6 ∧
      H6 pd = some (.dT kvs) ∧ H6 pr = some (.lst (nv Sk.1)) ∧ H6 pb = some (.lst (nv Sk.2)) ∧ StOk n ds Sk ∧ Sk.1.length = S.1.length ∧ runs ds 0 S l = runs ds k Sk (l.drop k))
    ⟨S, _, _, _, _, _, rfl, s15, hpd5, hpr5, hpb5, ok, rfl, rfl⟩ (fun i σ H6 _ ⟨_, _, _, _, _, _, _, sm, _⟩ => SqL.of (sm _ _ hts)) ?_ ?_
  · rintro k x σ H6 H7 hk ⟨Sk, y6, y7, y8, y9, y10, rfl, sm, g1, g2, g3, okk, lk, er⟩ ⟨t, x1, x2, rfl, nt, rfl, ex1, ex2⟩
    cases ex1
    have hk' : k < l.length := by
      rw [List.length_map, tl.1] at hk
      exact hk
    obtain ⟨t1, ht1⟩ : ∃ t1, ts[k]? = some t1 := get_of tl.1 hk'
    obtain ⟨m, hm⟩ : ∃ m, l[k]? = some m := get_of rfl hk'
    have ex2' : V.ref t1 = x2 := by
      have ex2 : (ts.map V.ref)[k]? = some x2 := ex2
      rw [List.getElem?_map, ht1] at ex2
      exact Option.some.inj ex2
    subst ex2'
    obtain ⟨v1, d, j⟩ := vm m (List.mem_of_getElem? hm)
    have smt : Same H6 (upd H6 t (.tup [.int (k : Nat), .ref t1])) := Same.upd nt
    have sm7 := sm.trans smt
    have htm := sm7 _ _ (tl.2 k t1 m ht1 hm)
    have g17 := smt _ _ g1
    have g27 := smt _ _ g2
    have g37 := smt _ _ g3
    refine ⟨t, _, rfl, SqT.of upd_same, rfl, _, _, rfl, _, _, rfl, ⟨t1, _, rfl, SqT.of htm, rfl, _, _, rfl, _, _, rfl, _, _, rfl, rfl, rfl, ?_⟩⟩
    generalize upd H6 t (.tup [.int (k : Nat), .ref t1]) = H8 at smt sm7 htm g17 g27 g37
    refine ⟨_, rfl, _, rfl, _, rfl, by show 2 ≤ sizeLine; decide, fun t2 nt2 => ?_⟩
    have sm9 := sm7.trans (Same.upd (o := .tup [.int (m.2.1 : Int), .int (m.2.2 : Int)]) nt2)
    have g19 := (Same.upd (o := .tup [.int (m.2.1 : Int), .int (m.2.2 : Int)]) nt2) _ _ g17
    have g29 := (Same.upd (o := .tup [.int (m.2.1 : Int), .int (m.2.2 : Int)]) nt2) _ _ g27
    have g39 := (Same.upd (o := .tup [.int (m.2.1 : Int), .int (m.2.2 : Int)]) nt2) _ _ g37
    refine ⟨pd, .int (d : Int), rfl, ?_, ?_⟩
    · have := DGet.t (k := kD m.2.1 m.2.2) g19 upd_same
      rw [dr.at_ d _ _ (joins_lt j) j] at this
      exact this
    generalize upd H8 t2 (.tup [.int (m.2.1 : Int), .int (m.2.2 : Int)]) = H9 at sm9 g19 g29 g39
    have v1' : m.1 < Sk.1.length := by rw [lk]; exact v1
    obtain ⟨v, hv⟩ : ∃ v, Sk.1[m.1]? = some v := get_of rfl v1'
    have hd : d < Sk.2.length := by rw [okk.doors]; exact joins_lt j
    obtain ⟨bd, hbd⟩ : ∃ bd, Sk.2[d]? = some bd := get_of rfl hd
    have ed := dix_is tree j
    have rd := runs_drop (ds := ds) (S := Sk) hm
    refine ⟨_, rfl, _, rfl, pr, _, _, _, rfl, rfl, SqL.of g29, nv_at hv, _, rfl, rfl, _, rfl, ?_⟩
    have flies : ∀ (wd : String) (H10 : Hp) (tt : Addr), why ds Sk m = some wd → Same H9 H10 → H10 tt = some (.tup [.str (Str.ofString wd)]) → tMkO CM (spE2 CM "index" "reason") [] (fun σ H Q => Q [.int (k : Int), .ref tt] H) ([] : L2.St) H10 (fun cls d H' => E cls d H') := by
      intro wd H10 tt hw s10 htt
      refine ⟨by show 2 ≤ 1000; decide, fun bb nb => ⟨bb, _, _, rfl, upd_same, fun dd nd ne => ?_⟩⟩
      rw [upd_ne ne] at nd
      rw [hw] at rd
      have sm3 := Same.err (G := upd (upd (upd (upd H10 bb (exo bb CM none)) dd (exd dd [("index", .int (k : Int))])) bb (exo bb CM (some dd))) dd (exd dd [("reason", .ref tt), ("index", .int (k : Int))])) (y := .xd [("reason", .ref tt), ("index", .int (k : Int))]) nb nd
        fun c h1 h2 => by rw [upd_ne h2, upd_ne h1, upd_ne h2, upd_ne h1]
      exact ⟨rfl, dd, _, by rw [upd_ne ne.symm, upd_same], upd_same, nd, q2 k wd (er.trans rd) _ tt dd ((sm9.trans s10).trans sm3) (sm3 _ _ htt) upd_same⟩
    by_cases cv : v = m.2.1
    · rw [decide_eq_true (show V.int (v : Int) = V.int (m.2.1 : Int) by rw [cv])]
      refine iteF ?_
      refine ⟨_, rfl, _, rfl, pb, _, _, _, rfl, rfl, SqL.of g39, nv_at hbd, _, rfl, rfl, _, rfl, ?_⟩
      by_cases cb : bd = m.1
      · rw [decide_eq_true (show V.int (bd : Int) = V.int (m.1 : Int) by rw [cb])]
        have hw : why ds Sk m = some "barred" := by
          unfold why
          rw [if_neg (by rw [getD_of hv, cv]; simp), ed, if_pos (by rw [getD_of hbd, cb])]
        exact iteT ⟨_, rfl, by show 1 ≤ sizeLine; decide, fun tt ntt => flies "barred" _ tt hw (Same.upd ntt) upd_same⟩
      · rw [decide_eq_false (show ¬ V.int (bd : Int) = V.int (m.1 : Int) from fun z => cb (by have := V.int.inj z; omega))]
        have hw : why ds Sk m = none := by
          unfold why
          rw [if_neg (by rw [getD_of hv, cv]; simp), ed, if_neg (by rw [getD_of hbd]; exact cb)]
        rw [hw] at rd
        refine iteF ?_
        refine ⟨_, rfl, _, rfl, _, rfl, pr, _, _, m.1, rfl, rfl, g29, ixN_nat (by rw [nv_len]; exact v1'), ?_⟩
        refine ⟨_, rfl, _, rfl, _, rfl, pb, _, _, d, rfl, rfl, by rw [upd_ne nrb.symm]; exact g39, ixN_nat (by rw [nv_len]; exact hd), ?_⟩
        rw [nv_set, nv_set]
        refine ⟨nxt ds Sk m, _, _, _, _, _, rfl, (sm9.at npr0).at npb0, by rw [upd_ne ndb, upd_ne ndr]; exact g19, by rw [upd_ne nrb, upd_same]; rfl, by rw [upd_same, ← ed]; rfl, okk.nxt tree ⟨v1', d, j⟩, by rw [nxt_len]; exact lk, er.trans rd⟩
    · rw [decide_eq_false (show ¬ V.int (v : Int) = V.int (m.2.1 : Int) from fun z => cv (by have := V.int.inj z; omega))]
      have hw : why ds Sk m = some "away" := by
        unfold why
        rw [if_pos (by rw [getD_of hv]; exact cv)]
      exact iteT ⟨_, rfl, by show 1 ≤ sizeLine; decide, fun tt ntt => flies "away" _ tt hw (Same.upd ntt) upd_same⟩
  · rintro σ H6 ⟨Sk, y6, y7, y8, y9, y10, rfl, sm, g1, g2, g3, okk, lk, er⟩
    rw [List.length_map, tl.1, List.drop_length] at er
    refine ⟨_, rfl, pr, _, rfl, .inl ⟨SqL.of g2, fun u1 nu1 => ?_⟩⟩
    have sA := Same.upd (o := .tup (nv Sk.1)) nu1
    refine ⟨_, rfl, pb, _, rfl, .inl ⟨SqL.of (sA _ _ g3), fun u2 nu2 => ?_⟩⟩
    have sB := Same.upd (o := .tup (nv Sk.2)) nu2
    refine ⟨by show 2 ≤ sizeLine; decide, fun u3 nu3 => ?_⟩
    have sC := Same.upd (o := .tup [.ref u1, .ref u2]) nu3
    exact q0 Sk er _ u3 (((sm.trans sA).trans sB).trans sC) ⟨u1, u2, SqT.of upd_same, SqT.of (sC _ _ (sB _ _ upd_same)), SqT.of (sC _ _ upd_same)⟩
theorem ok_play {CM : Addr} (T : Bl mg) (D : Def K mg "play" s_play) (C_need_state : Cal P w K mg base "need_state" ["house", "state"] 7 (spSt K))
    (C_need_plan : Cal P w K mg base "need_plan" ["house", "people", "plan"] 7 (spNP K)) (C_doors_by_ends : Cal P w K mg base "doors_by_ends" ["house"] 1 (spDoors K)) (C_played : CalX P w K mg base "played" ["doors", "state", "plan"] 3 (spPlayedX K CM)) : CalX P w K mg base "play" ["house", "state", "plan"] 8 (spPlayX K CM) := by
  refine D.okX sc_play (fun _ _ _ _ _ _ us hl => match us, hl with | [_, _, _], _ => rfl) (fun vs H Q E h => ?_) (fun f cdv A outer s H vs Q E hr h => ?_)
  · obtain ⟨a, s, pl, n, ds, S, l, rfl, _⟩ := h
    rfl
  obtain ⟨a, s, pl, n, ds, S, l, rfl, hH, tree, hn, st, ok, hpl, vm, q0, q2⟩ := h
  obtain ⟨r, b, h1, h2, h3⟩ := id st
  have hdn := tree.len
  have one := ok.one
  obtain ⟨f_need_state, fd_need_state, g_need_state, k_need_state, b_need_state, G_need_state⟩ := C_need_state
  obtain ⟨f_need_plan, fd_need_plan, g_need_plan, k_need_plan, b_need_plan, G_need_plan⟩ := C_need_plan
  obtain ⟨f_played, fd_played, g_played, k_played, b_played, G_played⟩ := C_played
  obtain ⟨f_doors_by_ends, fd_doors_by_ends, g_doors_by_ends, k_doors_by_ends, b_doors_by_ends, G_doors_by_ends⟩ := C_doors_by_ends
  refine ⟨_, (pss_cons (ps_expr (pe_call G_need_state (hr.mono (by decide)) (by rfl) g_need_state k_need_state b_need_state .nil pass0 (pa_cons (pv 0) (pa_cons (pv 1) pa_nil))))
    (pss_cons (ps_expr (pe_call G_need_plan (hr.mono (by decide)) (by rfl) g_need_plan k_need_plan b_need_plan .nil pass0 (pa_cons (pv 0) (pa_cons (pe_callB call_len_seq (by rfl) T.len PySem.boot_len (pa_cons (pe_ix ix_tup (pv 1) pe_int (fun _ _ => rfl)) pa_nil)) (pa_cons (pv 2) pa_nil)))))
    (pss_one (ps_ret (pe_call G_played (hr.mono (by decide)) (by rfl) g_played k_played b_played .nil (passes_call (takes_of rfl rfl rfl rfl) (fun _ _ _ _ h => h)) (pa_cons (pe_call G_doors_by_ends (hr.mono (by decide)) (by rfl) g_doors_by_ends k_doors_by_ends b_doors_by_ends .nil pass0 (pa_cons (pv 0) pa_nil)) (pa_cons (pv 1) (pa_cons (pv 2) pa_nil)))))))), ?_⟩
  refine ⟨_, rfl, _, rfl, a, s, ds, n, S, rfl, hH, tree, hn, st, ok, fun H1 s1 => ?_⟩
  refine ⟨_, rfl, _, rfl, s, _, _, _, rfl, rfl, s1.tup h1, atI_nat (j := 0) rfl, _, _, rfl, .inr (s1.tup h2), _, rfl, ?_⟩
  refine ⟨a, pl, S.1.length, n, ds, l, by rw [nv_len]; rfl, hH.same s1, tree, hn, one, hpl.same s1, vm, fun H2 s2 => ?_⟩
  have s12 := s1.trans s2
  refine ⟨_, rfl, a, ds, n, rfl, hH.same s12, tree, hn, fun H3 pd kvs s3 npd hpd dr => ?_⟩
  have s13 := s12.trans s3
  refine ⟨_, rfl, _, rfl, pd, s, pl, n, ds, kvs, S, l, rfl, hpd, dr, tree, hn, st.same s13, ok, hpl.same s13, vm, fun S' e H4 q s4 hq => ?_, fun i w e H4 t d s4 ht hd => ?_⟩
  · exact q0 S' e _ q (s13.trans s4) hq
  · exact q2 i w e _ t d (s13.trans s4) ht hd
end
end K5

namespace L2
open PySem PySem.Spec PyProof.Rows
theorem sub_len : ∀ (k ns : List Int), k.Nodup → (∀ x ∈ k, x ∈ ns) → k.length ≤ ns.length
  | [], _, _, _ => Nat.zero_le _
  | a :: k, ns, nd, h => by
    obtain ⟨n1, n2⟩ := List.nodup_cons.mp nd
    have ha := h a List.mem_cons_self
    have := sub_len k (ns.erase a) n2 fun x hx => (List.mem_erase_of_ne (fun e : x = a => n1 (by rw [← e]; exact hx))).mpr (h x (List.mem_cons_of_mem _ hx))
    rw [List.length_erase_of_mem ha] at this
    have := List.length_pos_of_mem ha
    rw [List.length_cons]
    omega
theorem dup_lt : ∀ (ns k : List Int), k.Nodup → (∀ x ∈ k, x ∈ ns) → ¬ ns.Nodup → k.length < ns.length
  | [], _, _, _, h => absurd List.nodup_nil h
  | a :: ns, k, nd, h, nn => by
    by_cases c : a ∈ ns
    · have := sub_len k ns nd fun x hx => by
        rcases List.mem_cons.mp (h x hx) with e | e
        · rw [e]; exact c
        · exact e
      rw [List.length_cons]
      omega
    · have n2 : ¬ ns.Nodup := fun z => nn (List.nodup_cons.mpr ⟨c, z⟩)
      have := dup_lt ns (k.erase a) (nd.erase a) (fun x hx => by
        obtain ⟨e, m⟩ := (List.Nodup.mem_erase_iff nd).mp hx
        exact (List.mem_cons.mp (h x m)).resolve_left e) n2
      have : k.length ≤ (k.erase a).length + 1 := by
        rw [List.length_erase]
        split <;> omega
      rw [List.length_cons]
      omega
/-- len(set(xs)), xs a tuple of whole numbers -/
def tLenSetT (K : PySem.W.Frag) (ta : TE) : TE := fun σ H Q => ta σ H fun x H1 => ∃ (l : Addr) (ns : List Int), x = V.ref l ∧ SqT K H1 l (ns.map V.int) ∧ ns.length + 1 < scanBound ∧ ∀ n : Nat, (ns.Nodup → n = ns.length) → (¬ ns.Nodup → n < ns.length) → Q (.int (n : Int)) H1
theorem pe_lenSetT {X : Cx} {a : Expr} {ta : TE} {p p2 q pos : Pos} (hc : X.calm = true) (gl : Gl X "len") (ml : X.mg "len" = none) (gs : Gl X "set") (ms : X.mg "set" = none) (ha : PE X a ta)
    (one : starEach [a] X.env = (false, eval a X.env) :: starEach [] X.env := by rfl) : PE X (.Call (.Name "len" p) [.Call (.Name "set" p2) [a] [] q] [] pos) (tLenSetT X.K ta) := by
  constructor
  intro pins s σ H Q I h
  refine Call_ (ld_blt I gl ml PySem.boot_len (PyProof.Rows.callWith_builtin1 (PyProof.Rows.args_cons ?_ rfl) rfl rfl))
  refine Call_ (ld_blt I gs ms PyProof.Rows.boot_set (PyProof.Rows.callWith_type1 (PyProof.Rows.args_cons (thn (ha.run pins s σ H _ I h) ?_) one) one rfl))
  rintro v s1 ⟨x, H1, I1, rx, l, ns, rfl, seq, few, z⟩
  obtain rfl : v = Value.ref l := rx
  refine PyProof.Rows.args_nil ?_
  obtain ⟨its, rv, at_l, _⟩ := I1.tuple seq
  refine call_set_tupI ns (I1.ok.hd hc) at_l (by simpa using rv.ints) few fun h' tk c made le keep => ?_
  refine PyProof.Rows.args_nil ?_
  obtain ⟨o, es, ep, t, ho, ex, hd, _, nd, mem, hf, hfit, hn, _⟩ := made
  have small : scanBound ≤ 2 ^ 62 := by decide
  have I2 : Inv X pins σ H1 { s1 with heap := h', toks := tk } := I1.kept keep
  have lk : (es.toList.map keyOf).length = c := by rw [List.length_map, Array.length_toList, hn]
  have m1 : ns.Nodup → c = ns.length := fun z1 => by
    have := sub_len ns (es.toList.map keyOf) z1 fun x hx => (mem x).mp (decide_eq_true hx)
    omega
  have m2 : ¬ ns.Nodup → c < ns.length := fun z1 => by
    rw [← lk]
    exact dup_lt ns _ nd (fun x hx => of_decide_eq_true ((mem x).mpr hx)) z1
  exact call_len_set ho ex hd hfit (by rw [hn]; omega) ⟨.int _, H1, I2.tok _, ⟨_, by rw [hn]⟩, z _ m1 m2⟩
end L2

namespace L2
open PySem PySem.Spec PyProof.Rows
/-! own rule: t * 1 is t itself; t * n as TupMul has it -/
theorem tuple_mul1 (l : Addr) (items : Array Value) (n : Nat) (dd : Option Addr) (sl : Array (Option Value)) (u : Tok) :
    Meets (Builtin.«tuple.__mul__» ⟨[.ref l, .int 1 u], []⟩) (fun _ R s => s.heap.get? l = some { cls := .type "tuple", dict := dd, data := .seq items n, slots := sl } ∧ R (.ok (.ret (Value.ref l))) s) :=
  .of_wp fun prog w A R s h => by
    obtain ⟨hp, g, d, tk, os⟩ := s
    obtain ⟨hl, h⟩ := h
    have f1 := AutoSeq1.idx_int
    have c1 : (items.isEmpty || (1 : Int) == 1) = true := by rw [show ((1 : Int) == 1) = true from rfl, Bool.or_true]
    wp_walk using wpAny_loadPart' hl
    repeat (first
      | (refine wpAny_ite_false (by decide) ?_; wp_walk using wpAny_loadPart' hl)
      | (refine wpAny_ite_true (by rw [c1]) ?_; wp_walk using wpAny_loadPart' hl)
      | (refine wpAny_ite_true (decide_eq_true c1) ?_; wp_walk using wpAny_loadPart' hl))
    exact ⟨_, rfl, h⟩
def rRepA (K : PySem.W.Frag) : R2 := fun x y H Q => ∃ l k xs, x = .ref l ∧ y = .int k ∧ SqT K H l xs ∧ xs ≠ [] ∧ 1 ≤ k ∧ k ≤ 1000 ∧ xs.length ≤ 1000 ∧ (k = 1 → Q (.ref l) H) ∧ (2 ≤ k → ∀ p, H p = none → Q (.ref p) (upd H p (.tup (List.replicate k.toNat xs).flatten)))
theorem op_repA {X : Cx} : OpR X (binaryOp .Mult) (rRepA X.K) := by
  intro pins s σ H x y v u Q I rx ry h
  obtain ⟨l, k, xs, rfl, rfl, hT, hne, h1, h2, hz, q1, q2⟩ := h
  by_cases c : k = 1
  · subst c
    cases rx
    obtain ⟨t, rfl⟩ := ry
    obtain ⟨its, r, ⟨⟨cls, dd, data, sl⟩,
          ho, hc, n, hd⟩, hs⟩ := I.tuple hT
    simp only at hc hd
    subst hc hd
    exact wpAny_binaryOp_repeat_ref (T := "tuple") (U := "int") (by decide) ⟨_, ho, rfl⟩ (fun s' => typeIs_int s' 1 t) noFill_tuple_mul F.fills_int_mul F.slot_int_rmul repeat_tuple F.slot_int_index.lookup
      (call_meets F.slot_int_rmul (typeIs_int s 1 t) F.entry_int_rmul (F.args_int_rmul_2 _ _) (int_rmul_tuple 1 t l its.toArray n dd sl)
        ⟨ho, rfl, ⟨_, ho, rfl⟩, call_meets F.slot_tuple_mul ⟨_, ho, rfl⟩ F.entry_tuple_mul (F.args_tuple_mul_2 _ _) (tuple_mul1 l its.toArray n dd sl t) ⟨ho, ⟨.ref l, H, I, rfl, q1 rfl⟩⟩⟩)
  · exact op_repT pins s σ H _ _ v u Q I rx ry ⟨l, k, xs, rfl, rfl, hT, hne, by omega, h2, hz, q2 (by omega)⟩
end L2

/-! own rule: in a try, a call of a def that a local name holds, and that may raise -/
namespace L2
open PySem PySem.Spec PyProof.Rows
def tCallLS (i : Nat) (f : Addr) (sp : Sp) (E : St → XK) (t : TA) : TE := fun σ H Q => σ[i]? = some (some (.ref f)) ∧ t σ H fun vs H1 => sp vs H1 Q (E σ)
section
variable {X : Cx} {CX : CXT} {k i : Nat} {f : Addr} {fd : FuncData} {ps : List Str} {sp : Sp} {E : St → XK} {x : Str} {p pos : Pos} {e : Expr} {es : List Expr} {t : TA}
theorem pe_callLS (F : FnOk X.prog X.w X.K X.mg X.base CX k f fd ps sp) (hr : Room k X.A) (hN : X.N[i]? = some x) (hv : Vis X.env.scope x) (hk : PySem.W.keepIn X.K (.ref f) = true) (hb : Binds X.K fd ps []) (hx : ∀ σ, PassesAt CX X σ (E σ)) (ha : PA X (e :: es) t)
    (hdb : (x == ("__debug__" : Str)) = false := by decide) (hcd
          : (x == ("__classdict__" : Str)) = false := by decide)
    (he : starEach (e :: es) X.env = (false, eval e X.env) :: starEach es X.env := by rfl) (hpl : (backTo pos (starEach es X.env)).any (·.1) = false := by rfl) : PE X (.Call (.Name x p) (e :: es) [] pos) (tCallLS i f sp E t) := by
  refine ⟨fun pins s σ H Q I ⟨hs, ht⟩ => ?_⟩
  have look := (pe_var (pos := p) hN hv hdb hcd).run pins s σ H (fun v H1 => v = .ref f ∧ H1 = H) I ⟨.ref f, hs, rfl, rfl⟩
  refine wpAny_Call_Name_kw (thn look fun u s1 ⟨v, H1, I1, r1, eq1, eq2⟩ => ?_)
  subst eq1 eq2
  cases r1
  have step := ha.run pos pins s1 σ _ _ I1 ht
  exact PySem.W.callWith_K (h₀ := X.base) I.ok.mod.kin hk (thn step fun us s2 ⟨vs, H2, I2, r, q⟩ => ⟨I2.kIn, run_fnS F hr hb (hx σ) I2 r q⟩) he hpl
end
end L2

namespace K5
open PySem PySem.Spec PyProof.Rows L2
theorem PlanAt.ofM {H : Hp} {pl : Addr} {l : List Mv} (h : TrisAt H pl l) : PlanAt H pl l false := by
  obtain ⟨ts, h1, h2⟩ := h
  exact ⟨ts, by rw [if_neg (by simp), List.append_nil]; exact h1, h2⟩
/-- a def held by a value -/
def HeldF (P : Program) (w : World) (K : PySem.W.Frag) (mg : Str → Option Value) (base : Heap) (k : Nat) (f : Addr) (ps : List Str) (sp : Sp) : Prop := ∃ fd : FuncData, FnOk P w K mg base CX0 k f fd ps sp ∧ PySem.W.keepIn K (.ref f) = true ∧ Binds K fd ps []
/-- .. that may raise -/
def HeldX (P : Program) (w : World) (K : PySem.W.Frag) (mg : Str → Option Value) (base : Heap) (k : Nat) (f : Addr) (ps : List Str) (sp : Sp) : Prop := ∃ fd : FuncData, FnOk P w K mg base (L2.CX P w) k f fd ps sp ∧ PySem.W.keepIn K (.ref f) = true ∧ Binds K fd ps []
theorem take_split {S : S2} {i : Nat} : ∀ w : List Nat, ∀ e ∈ w.take (splitF S i w), S.2[e]? ≠ some i
  | [], e, h => absurd h (by simp)
  | a :: w, e, h => by
    unfold splitF at h
    by_cases c : S.2[a]? = some i
    · rw [List.takeWhile_cons_of_neg (by rw [c]; simp)] at h
      exact absurd h (by simp)
    · rw [List.takeWhile_cons_of_pos (by simpa using c), List.length_cons, List.take_succ_cons] at h
      rcases List.mem_cons.mp h with rfl | h
      · exact c
      · exact take_split w e h
/-- the least distance of two who can meet -/
def LsM (ds : List (Nat × Nat)) (S : S2) (d : Nat) : Prop := (∃ i j, i < j ∧ PairD ds S i j d) ∧ ∀ i j e, i < j → PairD ds S i j e → d ≤ e
theorem LsM.unique {ds : List (Nat × Nat)} {S : S2} {d e : Nat} (h : LsM ds S d) (k : LsM ds S e) : d = e := by
  obtain ⟨⟨i, j, ij, p⟩, le⟩ := h
  obtain ⟨⟨i', j', ij', p'⟩, le'⟩ := k
  have := le i' j' e ij' p'
  have := le' i j d ij p
  omega
theorem FirstM.lst {n : Nat} {ds : List (Nat × Nat)} (T : Tree n ds) {S : S2} (o : StOk n ds S) {m : List Mv} (h : FirstM ds S m) : LsM ds S m.length := by
  obtain ⟨A, i, j, x, u, v, wy, pa, ij, jl, ai, aj, su, sv, wk, nd, lm, ⟨mt, so, rfl⟩, mr⟩ := h.ex
  obtain ⟨mt', u', v', c', A1, m1', m2', so', rfl, rfl, _⟩ := mr
  have em := so'.unique so
  subst em
  have hm := mem_meets so'.1
  have ok : ∀ e ∈ mt'.w.drop (splitF S mt'.i mt'.w), S.2[e]? ≠ some mt'.j := Classical.byContradiction fun bad => by
    rw [meet_no T su sv wk nd rfl bad] at hm
    cases hm
  obtain ⟨c, w1', w2'⟩ := walk_at (k := splitF S mt'.i mt'.w) wk
  refine ⟨⟨mt'.i, mt'.j, ij, ⟨c, u, v, mt'.w, ⟨u, _, su, w1', take_split _⟩, ⟨v, _, sv, w2'.rev, fun e he => ok e (List.mem_reverse.mp he)⟩, su, sv, wk, nd, lm⟩⟩, fun i1 j1 e ij1 p => ?_⟩
  obtain ⟨r, x1, y1, w1, ri, rj, hx, hy, W, nd1, rfl⟩ := p
  obtain ⟨m1, hm1, e1⟩ := meets_all T o ij1 hx hy ri rj W nd1
  have h1 := so.least m1 hm1
  rw [e1] at h1
  omega
abbrev ClmM := Option (Nat × List Mv)
/-- a claim, as a value -/
def ClMt (H : Hp) (v : V) (c : ClmM) : Prop := (v = .non ∧ c = none) ∨ ∃ (t pl : Addr) (k : Nat) (l : List Mv), v = .ref t ∧ c = some (k, l) ∧ H t = some (.tup [.int (k : Int), .ref pl]) ∧ TrisAt H pl l
theorem ClMt.same {H H' : Hp} {v : V} {c : ClmM} (h : ClMt H v c) (s : Same H H') : ClMt H' v c := by
  rcases h with h | ⟨t, pl, k, l, a, b, d, e⟩
  · exact .inl h
  · exact .inr ⟨t, pl, k, l, a, b, s _ _ d, e.same s⟩
def dAp1 : PyData := .tuple [.str "apart"]
def dBm1 (i : Nat) : PyData := .tuple [.str "blocked", .int (i : Int)]
def dMe1 : PyData := .tuple [.str "meeting"]
def dNu1 : PyData := .tuple [.str "number"]
/-- what is to be said of a claim -/
def VerdM (ds : List (Nat × Nat)) (S : S2) (c : ClmM) (d : PyData) : Prop := match c with
  | none => (Apt ds S ∧ d = .none) ∨ (¬ Apt ds S ∧ d = dAp1)
  | some (k, l) => (Apt ds S ∧ d = dAp1) ∨ (¬ Apt ds S ∧ ((∃ i w, runs ds 0 S l = .inl (i, w) ∧ d = dBm1 i) ∨ ∃ A, runs ds 0 S l = .inr A ∧ ((A.1.Nodup ∧ d = dMe1) ∨ (¬ A.1.Nodup ∧
      ((k = l.length ∧ LsM ds S k ∧ d = .none) ∨ (¬ (k = l.length ∧ LsM ds S k) ∧ d = dNu1))))))
theorem VerdM.unique {ds : List (Nat × Nat)} {S : S2} {c : ClmM} {d d' : PyData} (h : VerdM ds S c d) (h' : VerdM ds S c d') : d = d' := by
  cases c with
  | none =>
    rcases h with ⟨a, e⟩ | ⟨a, e⟩ <;> rcases h' with ⟨b, f⟩ | ⟨b, f⟩
    · rw [e, f]
    · exact absurd a b
    · exact absurd b a
    · rw [e, f]
  | some kl =>
    obtain ⟨k, l⟩ := kl
    rcases h with ⟨a, e⟩ | ⟨a, h⟩ <;> rcases h' with ⟨b, f⟩ | ⟨b, h'⟩
    · rw [e, f]
    · exact absurd a b
    · exact absurd b a
    · rcases h with ⟨i, w, r, e⟩ | ⟨A, r, h⟩ <;> rcases h' with ⟨i', w', r', f⟩ | ⟨A', r', h'⟩
      · rw [r] at r'
        cases r'
        rw [e, f]
      · rw [r] at r'
        cases r'
      · rw [r] at r'
        cases r'
      · rw [r] at r'
        cases r'
        rcases h with ⟨x, e⟩ | ⟨x, h⟩ <;> rcases h' with ⟨y, f⟩ | ⟨y, h'⟩
        · rw [e, f]
        · exact absurd x y
        · exact absurd y x
        · rcases h with ⟨p, q, e⟩ | ⟨p, e⟩ <;> rcases h' with ⟨p', q', f⟩ | ⟨p', f⟩
          · rw [e, f]
          · exact absurd ⟨p, q⟩ p'
          · exact absurd ⟨p', q'⟩ p
          · rw [e, f]
def spNum (K : PySem.W.Frag) : Sp := fun vs H Q _ => ∃ (t : Addr) (k : Nat) (y : V), vs = [.ref t] ∧ H t = some (.tup [.int (k : Int), y]) ∧ Q (.bl true) H
theorem runs_lenM {ds : List (Nat × Nat)} : ∀ {l : List Mv} {i : Nat} {S A : S2}, runs ds i S l = .inr A → A.1.length = S.1.length
  | [], i, S, A, h => by
    have h : (Sum.inr S : (Nat × String) ⊕ S2) = .inr A := h
    cases h
    rfl
  | m :: r, i, S, A, h => by
    rw [runs] at h
    split at h
    · cases h
    · rw [runs_lenM h, nxt_len]
def ClMk (ds : List (Nat × Nat)) (S : S2) (c : ClmM) : Prop := ∀ k l, c = some (k, l) → ∀ m ∈ l, VM ds S.1.length m
def spFF (P : Program) (w : World) (K : PySem.W.Frag) (mg : Str → Option Value) (base : Heap) (CM : Addr) : Sp := fun vs H Q _ => ∃ (a s f1 f2 f3 : Addr) (v : V) (n : Nat) (ds : List (Nat × Nat)) (S : S2) (c : ClmM), vs = [.ref a, .ref s, v, .ref f1, .ref f2, .ref f3] ∧
  HeldF P w K mg base 6 f1 ["house", "people", "value"] (spPlan K) ∧ HeldX P w K mg base 8 f2 ["house", "state", "plan"] (spPlayX K CM) ∧ HeldF P w K mg base 9 f3 ["house", "state"] (spFirst K) ∧ HouseAt K H a ds ∧ Tree n ds ∧ n ≤ 60 ∧ StateAt K H s S ∧ StOk n ds S ∧ ClMt H v c ∧ ClMk ds S c ∧
  ∀ (H' : Hp) (v' : V) (d : PyData), Same H H' → VerdM ds S c d → Dp K H' v' d → Q v' H'
def spCheckF (K : PySem.W.Frag) : Sp := fun vs H Q _ => ∃ (a s : Addr) (v : V) (n : Nat) (ds : List (Nat × Nat)) (S : S2) (c : ClmM), vs = [.ref a, .ref s, v] ∧ HouseAt K H a ds ∧ Tree n ds ∧ n ≤ 60 ∧ StateAt K H s S ∧ StOk n ds S ∧ ClMt H v c ∧ ClMk ds S c ∧
  ∀ (H' : Hp) (v' : V) (d : PyData), Same H H' → VerdM ds S c d → Dp K H' v' d → Q v' H'
section
variable {P : Program} {w : World} {K : PySem.W.Frag}
      {mg : Str → Option Value} {base : Heap}
theorem ok_is_numbered (T : Bl mg) (D : Def K mg "is_numbered" s_is_numbered) (C_is_whole : Cal P w K mg base "is_whole" ["value"] 1 spWhole) : Cal P w K mg base "is_numbered" ["value"] 2 (spNum K) := by
  refine D.ok sc_is_numbered (fun _ _ _ _ _ _ us hl => match us, hl with | [_], _ => rfl) (fun vs H Q E h => ?_) (fun f cdv A outer s0 H vs Q E hr h => ?_)
  · obtain ⟨t, k, y, rfl, _⟩ := h
    rfl
  obtain ⟨t, k, y, rfl, ht, qn⟩ := h
  obtain ⟨f_is_whole, fd_is_whole, g_is_whole, k_is_whole, b_is_whole, G_is_whole⟩ := C_is_whole
  refine ⟨_, (pss_one (ps_ret (pe_and (pe_callB call_isi (by rfl) T.isinstance (by decide +kernel) (pa_cons (pv 0) (pa_cons (pe_bltn (v := .ty "tuple") (u := .type "tuple") (by rfl) T.tuple (by decide +kernel) rfl) pa_nil))) (pe_and (pe_cmpR op_eq (pe_callB call_len_seq (by rfl) T.len PySem.boot_len (pa_cons (pv 0) pa_nil)) pe_int (nomark _)) (pe_and (pe_call G_is_whole (hr.mono (by decide)) (by rfl) g_is_whole k_is_whole b_is_whole .nil pass0 (pa_cons (pe_ix ix_tup (pv 0) pe_int (fun _ _ => rfl)) pa_nil)) (pe_one (pe_cmpR op_ge (pe_ix ix_tup (pv 0) pe_int (fun _ _ => rfl)) pe_int (nomark _)))))))), ?_⟩
  refine ⟨_, rfl, _, _, _, _, _, rfl, .ty _, ty_tup (SqT.of ht), kit_ty (r := true) (by decide +kernel), _, rfl, iteT ?_⟩
  refine ⟨_, rfl, _, _, rfl, .inr (SqT.of ht), rfl, _, rfl, iteT' rfl ?_⟩
  refine ⟨_, rfl, t, _, _, _, rfl, rfl, SqT.of ht, atI_nat (j := 0) rfl, _, rfl, _, rfl, iteT ?_⟩
  refine ⟨_, rfl, t, _, _, _, rfl, rfl, SqT.of ht, atI_nat (j := 0) rfl, _, _, rfl, rfl, ?_⟩
  show Q (.bl (decide ((0 : Int) ≤ (k : Int)))) H
  rw [decide_eq_true (by omega : (0 : Int) ≤ (k : Int))]
  exact qn
theorem ok_first_meeting_fault {CM : Addr} (T : Bl mg) (E_mb : ErrOkK P w K mg base "MoveBlocked" CM ["self", "index", "reason"] ["index", "reason"] (spE2 CM "index" "reason")) (D : Def K mg "first_meeting_fault" s_first_meeting_fault) (C_is_numbered : Cal P w K mg base "is_numbered" ["value"] 2 (spNum K)) (C_is_apart : Cal P w K mg base "is_apart" ["house", "state"] 8 (spApart K)) :
    Cal P w K mg base "first_meeting_fault" ["house", "state", "claim", "check_moves", "play_moves", "answer"] 10 (spFF P w K mg base CM) := by
  obtain ⟨f_mb, fd_mb, e_mb, F_mb, B_mb⟩ := E_mb
  refine D.ok sc_first_meeting_fault (fun _ _ _ _ _ _ us hl => match us, hl with | [_, _, _, _, _, _], _ => rfl) (fun vs H Q E h => ?_) (fun f cdv A outer s0 H vs Q E hr h => ?_)
  · obtain ⟨a, s, f1, f2, f3, v, n, ds, S, c, rfl, _⟩ := h
    rfl
  obtain ⟨a, s, f_check_plan, f_play, f_first_meeting, v, n, ds, S, c, rfl, ⟨fd_check_plan, G_check_plan, k_check_plan, b_check_plan⟩, ⟨fd_play, G_play, k_play, b_play⟩, ⟨fd_first_meeting, G_first_meeting, k_first_meeting, b_first_meeting⟩, hH, tree, hn, st, ok, ca, co, qn⟩ := h
  obtain ⟨f_is_numbered, fd_is_numbered, g_is_numbered, k_is_numbered, b_is_numbered, G_is_numbered⟩ := C_is_numbered
  obtain ⟨f_is_apart, fd_is_apart, g_is_apart, k_is_apart, b_is_apart, G_is_apart⟩ := C_is_apart
  obtain ⟨r, bb, h1, h2, h3⟩ := id st
  have one1 : (1 : Nat) ≤ sizeLine := by decide
  refine ⟨_, (pss_cons (ps_if (PW.pt (pw_and (pt_cmpR op_notN (pv 2) pe_non (nomark _)) (pw_and1 (pt_not (PW.pt (pw_and (pt_val (pe_call G_is_numbered (hr.mono (by decide)) (by rfl) g_is_numbered k_is_numbered b_is_numbered .nil pass0 (pa_cons (pv 2) pa_nil))) (pw_and1 (pt_cmpR op_isN (pe_callL (i := 3) G_check_plan (hr.mono (by decide)) (by rfl) (.inl rfl) k_check_plan b_check_plan .nil pass0 (pa_cons (pv 0) (pa_cons (pe_callB call_len_seq (by rfl) T.len PySem.boot_len (pa_cons (pe_ix ix_tup (pv 1) pe_int (fun _ _ => rfl)) pa_nil)) (pa_cons (pe_ix ix_tup (pv 2) pe_int (fun _ _ => rfl)) pa_nil)))) pe_non (nomark _))))))))) (pss_one (ps_ret (pe_tup (pa_cons pe_str pa_nil)))) pss_nil)
    (pss_cons (ps_if (pt_cmpR op_ne (pe_call G_is_apart (hr.mono (by decide)) (by rfl) g_is_apart k_is_apart b_is_apart .nil pass0 (pa_cons (pv 0) (pa_cons (pv 1) pa_nil))) (pe_cmpR op_isN (pv 2) pe_non (nomark _)) (nomark _)) (pss_one (ps_ret (pe_tup (pa_cons pe_str pa_nil)))) pss_nil)
    (pss_cons (ps_if (pt_cmpR op_isN (pv 2) pe_non (nomark _)) (pss_one (ps_ret pe_non)) pss_nil)
    (pss_cons (ps_asg (pv 2) (pg_tup (n := 2) rfl (pgs_cons (pg_name (i := 6) sc_first_meeting_fault.nd rfl (.inl rfl)) (pgs_cons (pg_name (i := 7) sc_first_meeting_fault.nd rfl (.inl rfl)) pgs_nil))))
    (pss_cons (ps_try_as (i := 10) (tb := fun W => tAsg (tCallLS 4 f_play (spPlayX K CM) (WE W) (tCons (tVar 0) (tCons (tVar 1) (tCons (tVar 7) tNil)))) (gTup K 2 (gCons (gName 8) (gCons (gName 9) gNil)))) (ts := fun a cls d => tRet (tTup (tCons (tC (.str "blocked")) (tCons (tXf a cls d CM "index" (tVar 10)) tNil)))) (Wout := fun _ _ _ _ => False) rfl rfl sc_first_meeting_fault.nd rfl rfl ⟨rfl, by decide, .inl e_mb.g⟩ takes0 (fun W pn xe tk _ => (pss_one (ps_asg (g := gTup K 2 (gCons (gName 8) (gCons (gName 9) gNil))) (pe_callLS (i := 4) G_play (hr.mono (by decide)) (by rfl) (.inl rfl) k_play b_play (fun σ => passAt tk σ) (by exact (pa_cons (pv 0) (pa_cons (pv 1) (pa_cons (pv 7) pa_nil))))) (pg_tup (n := 2) rfl (pgs_cons (pg_name (i := 8) sc_first_meeting_fault.nd rfl (.inl rfl) (.inl rfl)) (pgs_cons (pg_name (i := 9) sc_first_meeting_fault.nd rfl (.inl rfl) (.inl rfl)) pgs_nil)))))) (fun a oe cls d pn hz hf => (pss_one (ps_ret (pe_tup (pa_cons pe_str (pa_cons (pe_xf e_mb.f (e_mb.r "index" (by simp)) hz hf (pv 10)) pa_nil)))))))
    (pss_cons (ps_if (pt_cmpR op_eq (pe_lenSetT rfl (by rfl) T.len (by rfl) T.set (pv 8)) (pe_callB call_len_seq (by rfl) T.len PySem.boot_len (pa_cons (pv 8) pa_nil)) (nomark _)) (pss_one (ps_ret (pe_tup (pa_cons pe_str pa_nil)))) pss_nil)
    (pss_cons (ps_if (PW.pt (pw_or (pt_cmpR op_ne (pv 6) (pe_callB call_len_seq (by rfl) T.len PySem.boot_len (pa_cons (pv 7) pa_nil)) (nomark _)) (pw_or1 (pt_cmpR op_ne (pv 6) (pe_ix ix_tup (pe_callL (i := 5) G_first_meeting (hr.mono (by decide)) (by rfl) (.inl rfl) k_first_meeting b_first_meeting .nil pass0 (pa_cons (pv 0) (pa_cons (pv 1) pa_nil))) pe_int (fun _ _ => rfl)) (nomark _))))) (pss_one (ps_ret (pe_tup (pa_cons pe_str pa_nil)))) pss_nil)
    (pss_one (ps_ret pe_non))))))))), ?_⟩
  rcases ca with ⟨rfl, rfl⟩ | ⟨t, pl, k, m, rfl, rfl, ht, tr⟩
  · refine ⟨_, rfl, rfl, _, rfl, iteF' (by simp) ?_⟩
    refine iteF ?_
    refine ⟨_, rfl, _, rfl, a, s, n, ds, S, rfl, hH, tree, hn, st, ok, fun H1 Ls s1 rg => ?_⟩
    have ap := rg.toL.apt
    refine ⟨_, rfl, rfl, rfl, _, rfl, ?_⟩
    by_cases apt : Apt ds S
    · refine iteF' (by rw [decide_eq_true (ap.mpr apt)]; simp) ?_
      refine ⟨_, rfl, rfl, _, rfl, iteT' (by simp) ?_⟩
      exact qn H1 .non .none s1 (.inl ⟨apt, rfl⟩) .non
    · refine iteT' (by rw [decide_eq_false fun z => apt (ap.mp z)]; simp) ?_
      refine ⟨one1, fun p np => ?_⟩
      exact qn _ _ dAp1 (s1.trans (Same.upd np)) (.inr ⟨apt, rfl⟩) (.tup (SqT.of upd_same) (.cons (.str _) .nil))
  · have vm := co k m rfl
    refine ⟨_, rfl, rfl, _, rfl, iteT' (by simp) ?_⟩
    refine ⟨_, rfl, t, k, _, rfl, ht, _, rfl, iteT ?_⟩
    refine ⟨rfl, _, rfl, _, rfl, s, _, _, _, rfl, rfl, h1, atI_nat (j := 0) rfl, _, _, rfl, .inr h2, _, rfl, t, _, _, _, rfl, rfl, SqT.of ht, atI_nat (j := 1) rfl, ?_⟩
    refine ⟨a, pl, S.1.length, n, ds, m, false, by rw [nv_len]; rfl, hH, tree, by omega, ok.one, PlanAt.ofM tr, vm, fun _ H1 s1 => ⟨rfl, _, rfl, ?_⟩, fun z => by cases z⟩
    refine iteF' (by simp) ?_
    refine ⟨_, rfl, _, rfl, a, s, n, ds, S, rfl, hH.same s1, tree, hn, st.same s1, ok, fun H2 Ls s2 rg => ?_⟩
    have ap := rg.toL.apt
    have s12 := s1.trans s2
    refine ⟨_, rfl, rfl, rfl, _, rfl, ?_⟩
    by_cases apt : Apt ds S
    · refine iteT' (by rw [decide_eq_true (ap.mpr apt)]; simp) ?_
      refine ⟨one1, fun p np => ?_⟩
      exact qn _ _ dAp1 (s12.trans (Same.upd np)) (.inl ⟨apt, rfl⟩) (.tup (SqT.of upd_same) (.cons (.str _) .nil))
    refine iteF' (by rw [decide_eq_false fun z => apt (ap.mp z)]; simp) ?_
    refine ⟨_, rfl, rfl, _, rfl, iteF' (by simp) ?_⟩
    have ht2 := s12 _ _ ht
    refine ⟨_, rfl, t, _, rfl, SqT.of ht2, rfl, _, _, rfl, _, _, rfl, rfl, ?_⟩
    refine ⟨rfl, _, rfl, _, rfl, _, rfl, a, s, pl, n, ds, S, m, rfl, hH.same s12, tree, by omega, st.same s12, ok, PlanAt.ofM (tr.same s12), vm, fun B er H3 fs s3 st3 => ?_, fun i wd er H3 t3 d3 s3 ht3 hd3 => ?_⟩
    · obtain ⟨r3, b3, e1, e2, e3⟩ := id st3
      have s13 := s12.trans s3
      obtain ⟨ts, hpl, tl⟩ := tr.same s13
      have few := ok.few
      have lB : B.1.length = S.1.length := runs_lenM er
      refine ⟨fs, _, rfl, e1, rfl, _, _, rfl, _, _, rfl, rfl, ?_⟩
      refine ⟨_, rfl, r3, B.1.map (fun x : Nat => (x : Int)), rfl, by rw [← nv_int]; exact e2, ?_, fun c c1 c2 => ?_⟩
      · rw [List.length_map]
        exact Nat.lt_of_le_of_lt (by omega : _ ≤ 1000) (by decide)
      refine ⟨_, rfl, _, _, rfl, .inr e2, rfl, _, rfl, ?_⟩
      have ni : (B.1.map fun x : Nat => (x : Int)).Nodup ↔ B.1.Nodup := by
        unfold List.Nodup
        rw [List.pairwise_map]
        exact ⟨fun h => h.imp fun z e => z (by rw [e]), fun h => h.imp fun z e => z (by omega)⟩
      by_cases nnd : B.1.Nodup
      · have c3 := c1 (ni.mpr nnd)
        rw [List.length_map] at c3
        refine iteT' (by rw [nv_len, c3]; exact decide_eq_true rfl) ?_
        refine ⟨one1, fun p np => ?_⟩
        exact qn _ _ dMe1 (s13.trans (Same.upd np)) (.inr ⟨apt, .inr ⟨B, er, .inl ⟨nnd, rfl⟩⟩⟩) (.tup (SqT.of upd_same) (.cons (.str _) .nil))
      have c3 := c2 fun z => nnd (ni.mp z)
      rw [List.length_map] at c3
      refine iteF' (by rw [nv_len]; exact decide_eq_false fun z => by have := V.int.inj z; omega) ?_
      refine ⟨_, rfl, _, rfl, _, _, rfl, .inl (SqL.of hpl), rfl, _, rfl, ?_⟩
      rw [List.length_map, tl.1]
      by_cases ck : k = m.length
      rotate_left
      · refine iteT' (by rw [decide_eq_false fun z => ck (by have := V.int.inj z; omega)]; rfl) ?_
        refine ⟨one1, fun p np => ?_⟩
        exact qn _ _ dNu1 (s13.trans (Same.upd np)) (.inr ⟨apt, .inr ⟨B, er, .inr ⟨nnd, .inr ⟨fun z => ck z.1, rfl⟩⟩⟩⟩) (.tup (SqT.of upd_same) (.cons (.str _) .nil))
      refine iteF' (by rw [ck]; simp) ?_
      refine ⟨_, rfl, rfl, _, rfl, _, rfl, a, s, n, ds, S, rfl, hH.same s13, tree, hn, st.same s13, ok, fun z => absurd z apt, fun H4 t4 pl4 m4 _ s4 npl4 ht4 tr4 fm4 => ?_⟩
      have s14 := s13.trans s4
      refine ⟨t4, _, _, _, rfl, rfl, SqT.of ht4, atI_nat (j := 0) rfl, rfl, _, rfl, ?_⟩
      by_cases cm : m4.length = k
      · refine iteF' (by rw [cm]; simp) ?_
        exact qn H4 .non .none s14 (.inr ⟨apt, .inr ⟨B, er, .inr ⟨nnd, .inl ⟨ck, cm ▸ fm4.lst tree ok, rfl⟩⟩⟩⟩) .non
      · refine iteT' (by rw [decide_eq_false fun z => cm (by have := V.int.inj z; omega)]; rfl) ?_
        refine ⟨one1, fun p np => ?_⟩
        exact qn _ _ dNu1 (s14.trans (Same.upd np)) (.inr ⟨apt, .inr ⟨B, er, .inr ⟨nnd, .inr ⟨fun ⟨_, L5⟩ => cm ((fm4.lst tree ok).unique L5), rfl⟩⟩⟩⟩) (.tup (SqT.of upd_same) (.cons (.str _) .nil))
    · refine ⟨true, e_mb.xm, fun _ ea nea => ?_, fun z => by cases z⟩
      refine ⟨_, rfl, rfl, rfl, d3, _, _, rfl, hd3, rfl, by show 2 ≤ sizeLine; decide, fun p np => ?_⟩
      exact qn _ _ (dBm1 i) ((s12.trans s3).trans (Same.upd np)) (.inr ⟨apt, .inl ⟨i, wd, er, rfl⟩⟩) (.tup (SqT.of upd_same) (.cons (.str _) (.cons (.int _) .nil)))
theorem ok_check_first_meeting {CM : Addr} (T : Bl mg) (D : Def K mg "check_first_meeting" s_check_first_meeting) (C_need_state : Cal P w K mg base "need_state" ["house", "state"] 7 (spSt K)) (C_first_meeting_fault : Cal P w K mg base "first_meeting_fault" ["house", "state", "claim", "check_moves", "play_moves", "answer"] 10 (spFF P w K mg base CM))
    (C_check_plan : Cal P w K mg base "check_plan" ["house", "people", "value"] 6 (spPlan K)) (C_play : CalX P w K mg base "play" ["house", "state", "plan"] 8 (spPlayX K CM)) (C_first_meeting : Cal P w K mg base "first_meeting" ["house", "state"] 9 (spFirst K)) :
    Cal P w K mg base "check_first_meeting" ["house", "state", "claim"] 11 (spCheckF K) := by
  refine D.ok sc_check_first_meeting (fun _ _ _ _ _ _ us hl => match us, hl with | [_, _, _], _ => rfl) (fun vs H Q E h => ?_) (fun f cdv A outer s0 H vs Q E hr h => ?_)
  · obtain ⟨a, s, v, n, ds, S, c, rfl, _⟩ := h
    rfl
  obtain ⟨a, s, v, n, ds, S, c, rfl, hH, tree, hn, st, ok, ca, co, qn⟩ := h
  obtain ⟨f_need_state, fd_need_state, g_need_state, k_need_state, b_need_state, G_need_state⟩ := C_need_state
  obtain ⟨f_first_meeting_fault, fd_first_meeting_fault, g_first_meeting_fault, k_first_meeting_fault, b_first_meeting_fault, G_first_meeting_fault⟩ := C_first_meeting_fault
  obtain ⟨f_first_meeting, fd_first_meeting, g_first_meeting, k_first_meeting, b_first_meeting, G_first_meeting⟩ := C_first_meeting
  obtain ⟨f_play, fd_play, g_play, k_play, b_play, G_play⟩ := C_play
  obtain ⟨f_check_plan, fd_check_plan, g_check_plan, k_check_plan, b_check_plan, G_check_plan⟩ := C_check_plan
  refine ⟨_, (pss_cons (ps_expr (pe_call G_need_state (hr.mono (by decide)) (by rfl) g_need_state k_need_state b_need_state .nil pass0 (pa_cons (pv 0) (pa_cons (pv 1) pa_nil))))
    (pss_one (ps_ret (pe_call G_first_meeting_fault (hr.mono (by decide)) (by rfl) g_first_meeting_fault k_first_meeting_fault b_first_meeting_fault .nil pass0 (pa_cons (pv 0) (pa_cons (pv 1) (pa_cons (pv 2) (pa_cons (pe_glob (v := .ref f_check_plan) (by rfl) g_check_plan rfl) (pa_cons (pe_glob (v := .ref f_play) (by rfl) g_play rfl) (pa_cons (pe_glob (v := .ref f_first_meeting) (by rfl) g_first_meeting rfl) pa_nil)))))))))), ?_⟩
  refine ⟨_, rfl, _, rfl, a, s, ds, n, S, rfl, hH, tree, by omega, st, ok, fun H1 s1 => ?_⟩
  exact ⟨_, rfl, _, rfl, _, rfl, a, s, f_check_plan, f_play, f_first_meeting, v, n, ds, S, c, rfl, ⟨_, G_check_plan, k_check_plan, b_check_plan⟩, ⟨_, G_play, k_play, b_play⟩, ⟨_, G_first_meeting, k_first_meeting, b_first_meeting⟩, hH.same s1, tree, hn, st.same s1, ok, ca.same s1, co, fun H2 v' d s2 => qn H2 v' d (s1.trans s2)⟩
end
end K5

namespace K5
open PySem PySem.Spec PyProof.Rows L2
/-- lists of whole numbers, by their addresses -/
def zv (L : List Int) : List V := L.map V.int
def LZ (H : Hp) (q : Addr) (R : List (List Int)) : Prop := ∃ rs : List Addr, H q = some (.lst (rs.map V.ref)) ∧ rs.length = R.length ∧ ∀ (i : Nat) (r : Addr) (L : List Int), rs[i]? = some r → R[i]? = some L → H r = some (.lst (zv L))
theorem LZ.same {H H' : Hp} {q : Addr} {R : List (List Int)} (h : LZ H q R) (s : Same H H') : LZ H' q R := by
  obtain ⟨rs, h1, h2, h3⟩ := h
  exact ⟨rs, s _ _ h1, h2, fun i r L a b => s _ _ (h3 i r L a b)⟩
def zL (L : List Nat) : List Int := L.map fun x : Nat => (x : Int)
def zLs (Ls : List (List Nat)) : List (List Int) := Ls.map zL
theorem zv_nv (L : List Nat) : zv (zL L) = nv L := by
  unfold zv zL nv
  rw [List.map_map]
  rfl
theorem LZ.of {H : Hp} {q : Addr} {Ls : List (List Nat)} (h : ListsAt H q Ls) : LZ H q (zLs Ls) := by
  obtain ⟨rs, h1, h2, h3⟩ := h
  refine ⟨rs, h1, by unfold zLs; rw [List.length_map]; exact h2, fun i r L a b => ?_⟩
  unfold zLs at b
  rw [List.getElem?_map] at b
  obtain ⟨M, hM, rfl⟩ := Option.map_eq_some_iff.mp b
  rw [zv_nv]
  exact (h3 i r M a hM).2
theorem zL_inj : ∀ {L M : List Nat}, zL L = zL M → L = M
  | [], [], _ => rfl
  | [], _ :: _, h => by cases h
  | _ :: _, [], h => by cases h
  | x :: L, y :: M, h => by
    unfold zL at h
    rw [List.map_cons, List.map_cons] at h
    obtain ⟨h1, h2⟩ := List.cons.inj h
    rw [show x = y by omega, zL_inj h2]
def dZ (L : List Int) : PyData := .list (L.map .int)
def dLZ (R : List (List Int)) : PyData := .list (R.map dZ)
theorem dp_Z {K : PySem.W.Frag} {H : Hp} : ∀ L : List Int, DpAll K H (zv L) (L.map .int)
  | [] => .nil
  | x :: L => .cons (.int x) (dp_Z L)
theorem dp_LZs {K : PySem.W.Frag} {H : Hp} : ∀ (rs : List Addr) (R : List (List Int)), rs.length = R.length → (∀ (i : Nat) (r : Addr) (L : List Int), rs[i]? = some r → R[i]? = some L → H r = some (.lst (zv L))) → DpAll K H (rs.map V.ref) (R.map dZ)
  | [], [], _, _ => .nil
  | [], _ :: _, h, _ => by simp at h
  | _ :: _, [], h, _ => by simp at h
  | r :: rs, L :: R, h, hd => .cons (.lst (SqL.of (hd 0 r L rfl rfl)) (dp_Z L)) (dp_LZs rs R (by simpa using h) fun i r' L' x y => hd (i + 1) r' L' x y)
theorem dp_LZ {K : PySem.W.Frag} {H : Hp} {q : Addr} {R : List (List Int)} (h : LZ H q R) : Dp K H (.ref q) (dLZ R) := by
  obtain ⟨rs, h1, h2, h3⟩ := h
  exact .lst (SqL.of h1) (dp_LZs rs R h2 h3)
theorem dZ_lay : ∀ L : List Int, PyData.canLayAll0 (L.map .int) = true
  | [] => by simp [PyData.canLayAll0]
  | x :: L => by simp [PyData.canLayAll0, PyData.canLay0, dZ_lay L]
theorem dLZ_lay : ∀ R : List (List Int), PyData.canLayAll0 (R.map dZ) = true
  | [] => by simp [PyData.canLayAll0]
  | x :: R => by
    rw [List.map_cons, PyData.canLayAll0, dLZ_lay R, dZ, PyData.canLay0, dZ_lay x]
    rfl
theorem dZ_depth : ∀ L : List Int, PyData.depthAll (L.map .int) ≤ 1
  | [] => by simp [PyData.depthAll]
  | x :: L => by
    have := dZ_depth L
    simp only [List.map_cons, PyData.depthAll,
          PyData.depth]
    omega
theorem dLZ_depth : ∀ R : List (List Int), PyData.depthAll (R.map dZ) ≤ 3
  | [] => by simp [PyData.depthAll]
  | x :: R => by
    have h1 := dLZ_depth R
    have h2 := dZ_depth x
    simp only [List.map_cons, PyData.depthAll, dZ, PyData.depth]
    omega
theorem dLZ_shaped (R : List (List Int)) : SeqAt.shaped (dLZ R) = true := by
  have := dLZ_depth R
  refine shaped_mk ?_ ?_
  · simp only [dLZ, PyData.canLay0]
    exact dLZ_lay R
  · simp only [dLZ, PyData.depth]
    omega
theorem dZ_eqv : ∀ L M : List Int, PyData.eqvAll (L.map .int) (M.map .int) = decide (L = M)
  | [], [] => by simp [PyData.eqvAll]
  | [], _ :: _ => by simp [PyData.eqvAll]
  | _ :: _, [] => by simp [PyData.eqvAll]
  | x :: L, y :: M => by
    rw [List.map_cons, List.map_cons, PyData.eqvAll, dZ_eqv L M, PyData.eqv]
    by_cases c : x = y
    · subst c
      by_cases e : L = M
      · rw [e]; simp
      · rw [decide_eq_false e, decide_eq_false (fun z => e (List.cons.inj z).2)]
        simp
    · rw [decide_eq_false (fun z => c (List.cons.inj z).1)]
      simp [c]
theorem dLZ_eqvs : ∀ R T : List (List Int), PyData.eqvAll (R.map dZ) (T.map dZ) = decide (R = T)
  | [], [] => by simp [PyData.eqvAll]
  | [], _ :: _ => by simp [PyData.eqvAll]
  | _ :: _, [] => by simp [PyData.eqvAll]
  | x :: L, y :: M => by
    rw [List.map_cons, List.map_cons, PyData.eqvAll, dLZ_eqvs L M]
    show (PyData.eqv (.list (x.map .int)) (.list (y.map .int)) && decide (L = M)) = _
    rw [PyData.eqv, dZ_eqv]
    by_cases c : x = y
    · subst c
      by_cases e : L = M
      · rw [e]; simp
      · rw [decide_eq_false e, decide_eq_false (fun z => e (List.cons.inj z).2)]
        simp
    · rw [decide_eq_false c, decide_eq_false (fun z => c (List.cons.inj z).1)]
      rfl
theorem dLZ_eqv (R T : List (List Int)) : PyData.eqv (dLZ R) (dLZ T) = decide (R = T) := by
  unfold dLZ
  rw [PyData.eqv, dLZ_eqvs]
theorem PlanAt.of {H : Hp} {pl : Addr} {l : List Mv} (h : TrisAt H pl l) : PlanAt H pl l false := by
  obtain ⟨ts, h1, h2⟩ := h
  exact ⟨ts, by rw [if_neg (by simp), List.append_nil]; exact h1, h2⟩
theorem reg_lenG {n : Nat} {ds : List (Nat × Nat)} (T : Tree n ds) {S : S2} (o : StOk n ds S) {Ls : List (List Nat)} (h : RegsL ds S S.1.length Ls) : ∀ L ∈ Ls, L.length ≤ n := by
  intro L hL
  obtain ⟨p, hp⟩ := List.mem_iff_getElem?.mp hL
  have r := h.at_ p L hp
  have lp : p < S.1.length := by have := get_lt hp; rw [h.len] at this; exact this
  obtain ⟨v, hv⟩ : ∃ v, S.1[p]? = some v := get_of rfl lp
  have vn := o.rooms v (List.mem_of_getElem? hv)
  refine nodup_le n L r.nd fun x hx => ?_
  obtain ⟨w, W, _⟩ := (r.mem x).mp hx
  rw [getD_of hv] at W
  exact walk_in T W vn
theorem zv_some {L : List Int} {k : Nat} {x : V} (h : (zv L)[k]? = some x) : ∃ v, L[k]? = some v ∧ x = .int v := by
  unfold zv at h
  rw [List.getElem?_map] at h
  cases e : L[k]? with
  | none => rw [e] at h; cases h
  | some v => rw [e] at h; exact ⟨v, rfl, (Option.some.inj h).symm⟩
abbrev Clm := List Mv ⊕ List (List Int)
/-- a claim, as a value -/
def ClAt (H : Hp) (t : Addr) : Clm → Prop
  | .inl l => ∃ pl : Addr, H t = some (.tup [.str "plan", .ref pl]) ∧ TrisAt H pl l
  | .inr R => ∃ q : Addr, H t = some (.tup [.str "apart", .ref q]) ∧ LZ H q R
theorem ClAt.same {H H' : Hp} {t : Addr} {c : Clm} (h : ClAt H t c) (s : Same H H') : ClAt H' t c := by
  cases c with
  | inl l =>
    obtain ⟨pl, a, b⟩ := h
    exact ⟨pl, s _ _ a, b.same s⟩
  | inr R =>
    obtain ⟨q, a, b⟩ := h
    exact ⟨q, s _ _ a, b.same s⟩
def ClOk (ds : List (Nat × Nat)) (S : S2) : Clm → Prop
  | .inl l => ∀ m ∈ l, VM ds S.1.length m
  | .inr R => R.length ≤ 500 ∧ ∀ L ∈ R, L.length ≤ 500
def dBl1 (i : Nat) : PyData := .tuple [.str "blocked", .int (i : Int)]
def dRm1 (i : Nat) : PyData := .tuple [.str "room", .int (i : Int)]
def dRg1 : PyData := .tuple [.str "regions"]
def dTo1 : PyData := .tuple [.str "together"]
/-- what is to be said of a claim -/
def VerdR (ds : List (Nat × Nat)) (S : S2) (x : Nat) (c : Clm) (d : PyData) : Prop := match c with
  | .inl l => (∃ i w, runs ds 0 S l = .inl (i, w) ∧ d = dBl1 i) ∨ ∃ A, runs ds 0 S l = .inr A ∧ (((∀ v ∈ A.1, v = x) ∧ d = .none) ∨ ∃ p v : Nat, A.1[p]? = some v ∧ v ≠ x ∧ (∀ u ∈ A.1.take p, u = x) ∧ d = dRm1 p)
  | .inr R => ∃ Ls, RegsL ds S S.1.length Ls ∧ Asc Ls ∧ ((R ≠ zLs Ls ∧ d = dRg1) ∨ (R = zLs Ls ∧ (((¬ Apt ds S ∨ ∀ v ∈ S.1, v = x) ∧ d = dTo1) ∨ (Apt ds S ∧ (¬ ∀ v ∈ S.1, v = x) ∧ d = .none))))
theorem first_unique {l : List Nat} {x p q v u : Nat} (h1 : l[p]? = some v) (h2 : v ≠ x) (h3 : ∀ u ∈ l.take p, u = x) (k1 : l[q]? = some u) (k2 : u ≠ x) (k3 : ∀ u ∈ l.take q, u = x) : p = q := by
  rcases Nat.lt_trichotomy p q with c | c | c
  · exact absurd (k3 v (List.mem_of_getElem? (i := p) (by rw [List.getElem?_take, if_pos c]; exact h1))) h2
  · exact c
  · exact absurd (h3 u (List.mem_of_getElem? (i := q) (by rw [List.getElem?_take, if_pos c]; exact k1))) k2
theorem VerdR.unique {ds : List (Nat × Nat)} {S : S2} {x : Nat} {c : Clm} {d d' : PyData} (h : VerdR ds S x c d) (h' : VerdR ds S x c d') : d = d' := by
  cases c with
  | inl l =>
    rcases h with ⟨i, w, r, e⟩ | ⟨A, r, h⟩ <;> rcases h' with ⟨i', w', r', f⟩ | ⟨A', r', h'⟩
    · rw [r] at r'
      cases r'
      rw [e, f]
    · rw [r] at r'
      cases r'
    · rw [r] at r'
      cases r'
    · rw [r] at r'
      cases r'
      rcases h with ⟨a, e⟩ | ⟨p, v, a, b, c, e⟩ <;> rcases h' with ⟨a', f⟩ | ⟨p', v', a', b', c', f⟩
      · rw [e, f]
      · exact absurd (a v' (List.mem_of_getElem? a')) b'
      · exact absurd (a' v (List.mem_of_getElem? a)) b
      · rw [e, f, first_unique a b c a' b' c']
  | inr R =>
    obtain ⟨Ls, r, as, h⟩ := h
    obtain ⟨Ms, r', as', h'⟩ := h'
    have e := r.unique r' as as'
    subst e
    rcases h with ⟨a, e⟩ | ⟨a, h⟩ <;> rcases h' with ⟨b, f⟩ | ⟨b, h'⟩
    · rw [e, f]
    · exact absurd b a
    · exact absurd a b
    · rcases h with ⟨p, e⟩ | ⟨p, q, e⟩ <;> rcases h' with ⟨p', f⟩ | ⟨p', q', f⟩
      · rw [e, f]
      · exact (p.elim (fun z => absurd p' z) fun z => absurd z q')
      · exact (p'.elim (fun z => absurd p z) fun z => absurd z q)
      · rw [e, f]
theorem runs_len {ds : List (Nat × Nat)} : ∀ {l : List Mv} {i : Nat} {S A : S2}, runs ds i S l = .inr A → A.1.length = S.1.length
  | [], i, S, A, h => by
    have h : (Sum.inr S : (Nat × String) ⊕ S2) = .inr A := h
    cases h
    rfl
  | m :: r, i, S, A, h => by
    rw [runs] at h
    split at h
    · cases h
    · rw [runs_len h, nxt_len]
theorem runs_ok {n : Nat} {ds : List (Nat × Nat)} (T : Tree n ds) : ∀ {l : List Mv} {i : Nat} {S A : S2}, StOk n ds S → (∀ m ∈ l, VM ds S.1.length m) → runs ds i S l = .inr A → StOk n ds A
  | [], i, S, A, o, _, h => by
    have h : (Sum.inr S : (Nat × String) ⊕ S2) = .inr A := h
    cases h
    exact o
  | m :: r, i, S, A, o, v, h => by
    rw [runs] at h
    split at h
    · cases h
    · exact runs_ok T (o.nxt T (v m List.mem_cons_self)) (fun x hx => by rw [nxt_len]; exact v x (List.mem_cons_of_mem _ hx)) h
def spIsRooms (K : PySem.W.Frag) : Sp := fun vs H Q _ => ∃ (q : Addr) (L : List Int), vs = [.ref q] ∧ H q = some (.lst (zv L)) ∧ L.length ≤ 500 ∧ ∀ H', Same H H' → Q (.bl true) H'
def spIsRegs (K : PySem.W.Frag) : Sp := fun vs H Q _ => ∃ (q : Addr) (R : List (List Int)), vs = [.ref q] ∧ LZ H q R ∧ R.length ≤ 500 ∧ (∀ L ∈ R, L.length ≤ 500) ∧ ∀ H', Same H H' → Q (.bl true) H'
def spIsPlan (K : PySem.W.Frag) : Sp := fun vs H Q _ => ∃ (a s pl : Addr) (n : Nat) (ds : List (Nat × Nat)) (S : S2) (l : List Mv), vs = [.ref a, .ref s, .ref pl] ∧ HouseAt K H a ds ∧ Tree n ds ∧ n ≤ 60 ∧ StateAt K H s S ∧ StOk n ds S ∧ TrisAt H pl l ∧ (∀ m ∈ l, VM ds S.1.length m) ∧ ∀ H', Same H H' → Q (.bl true) H'
def spIsG (K : PySem.W.Frag) : Sp := fun vs H Q _ => ∃ (a s t : Addr) (n : Nat) (ds : List (Nat × Nat)) (S : S2) (c : Clm), vs = [.ref a, .ref s, .ref t] ∧ HouseAt K H a ds ∧ Tree n ds ∧ n ≤ 60 ∧ StateAt K H s S ∧ StOk n ds S ∧ ClAt H t c ∧ ClOk ds S c ∧ ∀ H', Same H H' → Q (.bl true) H'
def spGF (K : PySem.W.Frag) : Sp := fun vs H Q _ => ∃ (a s pl : Addr) (n x : Nat) (ds : List (Nat × Nat)) (S : S2) (l : List Mv), vs = [.ref a, .ref s, .int (x : Int), .ref pl] ∧ HouseAt K H a ds ∧ Tree n ds ∧ n ≤ 60 ∧ StateAt K H s S ∧ StOk n ds S ∧ TrisAt H pl l ∧ (∀ m ∈ l, VM ds S.1.length m) ∧
  ∀ (H' : Hp) (v : V) (d : PyData), Same H H' → VerdR ds S x (.inl l) d → Dp K H' v d → Q v H'
def spRF (K : PySem.W.Frag) : Sp := fun vs H Q _ => ∃ (a s q : Addr) (n x : Nat) (ds : List (Nat × Nat)) (S : S2) (R : List (List Int)), vs = [.ref a, .ref s, .int (x : Int), .ref q] ∧ HouseAt K H a ds ∧ Tree n ds ∧ n ≤ 60 ∧ StateAt K H s S ∧ StOk n ds S ∧ LZ H q R ∧
  ∀ (H' : Hp) (v : V) (d : PyData), Same H H' → VerdR ds S x (.inr R) d → Dp K H' v d → Q v H'
def spCheckG (K : PySem.W.Frag) : Sp := fun vs H Q _ => ∃ (a s t : Addr) (n x : Nat) (ds : List (Nat × Nat)) (S : S2) (c : Clm), vs = [.ref a, .ref s, .int (x : Int), .ref t] ∧ HouseAt K H a ds ∧ Tree n ds ∧ n ≤ 60 ∧ StateAt K H s S ∧ StOk n ds S ∧ x < n ∧ ClAt H t c ∧ ClOk ds S c ∧
  ∀ (H' : Hp) (v : V) (d : PyData), Same H H' → VerdR ds S x c d → Dp K H' v d → Q v H'
section
variable {P : Program} {w : World} {K : PySem.W.Frag}
      {mg : Str → Option Value} {base : Heap}
theorem ok_is_list_of_rooms (T : Bl mg) (D : Def K mg "is_list_of_rooms" s_is_list_of_rooms) (C_is_whole : Cal P w K mg base "is_whole" ["value"] 1 spWhole) : Cal P w K mg base "is_list_of_rooms" ["value"] 2 (spIsRooms K) := by
  refine D.ok sc_is_list_of_rooms (fun _ _ _ _ _ _ us hl => match us, hl with | [_], _ => rfl) (fun vs H Q E h => ?_) (fun f cdv A outer s0 H vs Q E hr h => ?_)
  · obtain ⟨q, L, rfl, _⟩ := h
    rfl
  obtain ⟨q, L, rfl, hq, ll, qn⟩ := h
  obtain ⟨f_is_whole, fd_is_whole, g_is_whole, k_is_whole, b_is_whole, G_is_whole⟩ := C_is_whole
  refine ⟨_, (pss_one (ps_ret (pe_and (pe_callB call_isi (by rfl) T.isinstance (by decide +kernel) (pa_cons (pv 0) (pa_cons (pe_bltn (v := .ty "list") (u := .type "list") (by rfl) T.list (by decide +kernel) rfl) pa_nil))) (pe_one (pe_callB (cr_all rfl) (by rfl) T.all (by decide +kernel) (pa_cons (pe_lc (own := [("item", 1)]) (g := gName 1)  (te := (tCall spWhole [] E0 (tCons (tVar 1) tNil))) rfl sc_is_list_of_rooms.nd (pi_list (pv 0)) (blkOk_by (N := N_is_list_of_rooms) (sc := defScope s_is_list_of_rooms) (own := [("item", 1)]) (by decide +kernel)) (fun _ _ _ _ _ => (pg_name (i := 1) sc_is_list_of_rooms.nd rfl (.inl rfl) (.inr rfl))) (fun _ _ _ _ _ => pts_nil) (fun _ _ _ _ _ => (pe_call G_is_whole (hr.mono (by decide)) (by rfl) g_is_whole k_is_whole b_is_whole .nil pass0 (pa_cons (pv 1) pa_nil)))) pa_nil)))))), ?_⟩
  refine ⟨_, rfl, _, _, _, _, _, rfl, .ty _, .base (.lst hq), kit_ty (r := true) (by decide +kernel), _, rfl, iteT ?_⟩
  refine ⟨_, rfl, q, rfl, ⟨_, SqL.of hq⟩, fun pb npb => ?_⟩
  refine lc_it (walk_list (K := K) (a := q) (xs := zv L)) (fun i H3 => Same H H3 ∧ H3 pb = some (.lst ((List.replicate i true).map V.bl))) ⟨Same.upd npb, upd_same⟩ (fun i H3 _ h => SqL.of (h.1 _ _ hq)) ?_ ?_
  · rintro i x' H3 H4 hi ⟨sm, hp⟩ ⟨rfl, ex⟩
    obtain ⟨v, hv, rfl⟩ := zv_some ex
    have lv := get_lt hv
    refine ⟨rfl, lcYes ?_⟩
    refine ⟨_, rfl, _, rfl, _, hp, by rw [List.length_map, List.length_replicate]; exact small1000 (by omega), sm.at npb, ?_⟩
    rw [upd_same, List.replicate_succ', List.map_append]
    rfl
  rintro H3 ⟨s3, hpb⟩
  refine ⟨pb, List.replicate (zv L).length true, rfl, SqL.of hpb, ?_⟩
  rw [show (List.replicate (zv L).length true).all id = true by simp]
  exact qn H3 s3
theorem ok_is_list_of_regions (T : Bl mg) (D : Def K mg "is_list_of_regions" s_is_list_of_regions) (C_is_list_of_rooms : Cal P w K mg base "is_list_of_rooms" ["value"] 2 (spIsRooms K)) : Cal P w K mg base "is_list_of_regions" ["value"] 3 (spIsRegs K) := by
  refine D.ok sc_is_list_of_regions (fun _ _ _ _ _ _ us hl => match us, hl with | [_], _ => rfl) (fun vs H Q E h => ?_) (fun f cdv A outer s0 H vs Q E hr h => ?_)
  · obtain ⟨q, R, rfl, _⟩ := h
    rfl
  obtain ⟨q, R, rfl, ⟨rs, hq, h2, h3⟩, ll, lls, qn⟩ := h
  obtain ⟨f_is_list_of_rooms, fd_is_list_of_rooms, g_is_list_of_rooms, k_is_list_of_rooms, b_is_list_of_rooms, G_is_list_of_rooms⟩ := C_is_list_of_rooms
  refine ⟨_, (pss_one (ps_ret (pe_and (pe_callB call_isi (by rfl) T.isinstance (by decide +kernel) (pa_cons (pv 0) (pa_cons (pe_bltn (v := .ty "list") (u := .type "list") (by rfl) T.list (by decide +kernel) rfl) pa_nil))) (pe_one (pe_callB (cr_all rfl) (by rfl) T.all (by decide +kernel) (pa_cons (pe_lc (own := [("item", 1)]) (g := gName 1)  (te := (tCall (spIsRooms K) [] E0 (tCons (tVar 1) tNil))) rfl sc_is_list_of_regions.nd (pi_list (pv 0)) (blkOk_by (N := N_is_list_of_regions) (sc := defScope s_is_list_of_regions) (own := [("item", 1)]) (by decide +kernel)) (fun _ _ _ _ _ => (pg_name (i := 1) sc_is_list_of_regions.nd rfl (.inl rfl) (.inr rfl))) (fun _ _ _ _ _ => pts_nil) (fun _ _ _ _ _ => (pe_call G_is_list_of_rooms (hr.mono (by decide)) (by rfl) g_is_list_of_rooms k_is_list_of_rooms b_is_list_of_rooms .nil pass0 (pa_cons (pv 1) pa_nil)))) pa_nil)))))), ?_⟩
  refine ⟨_, rfl, _, _, _, _, _, rfl, .ty _, .base (.lst hq), kit_ty (r := true) (by decide +kernel), _, rfl, iteT ?_⟩
  refine ⟨_, rfl, q, rfl, ⟨_, SqL.of hq⟩, fun pb npb => ?_⟩
  refine lc_it (walk_list (K := K) (a := q) (xs := rs.map V.ref)) (fun i H3 => Same H H3 ∧ H3 pb = some (.lst ((List.replicate i true).map V.bl))) ⟨Same.upd npb, upd_same⟩ (fun i H3 _ h => SqL.of (h.1 _ _ hq)) ?_ ?_
  · rintro i x' H3 H4 hi ⟨sm, hp⟩ ⟨rfl, ex⟩
    rw [List.length_map] at hi
    obtain ⟨r, hr'⟩ : ∃ r, rs[i]? = some r := get_of rfl hi
    obtain ⟨L, hL⟩ : ∃ L, R[i]? = some L := get_of h2.symm hi
    rw [List.getElem?_map, hr'] at ex
    cases ex
    refine ⟨rfl, lcYes ?_⟩
    refine ⟨_, rfl, r, L, rfl, sm _ _ (h3 i r L hr' hL), lls L (List.mem_of_getElem? hL), fun H5 s5 => ?_⟩
    refine ⟨_, s5 _ _ hp, by rw [List.length_map, List.length_replicate]; exact small1000 (by omega), (sm.trans s5).at npb, ?_⟩
    rw [upd_same, List.replicate_succ', List.map_append]
    rfl
  rintro H3 ⟨s3, hpb⟩
  refine ⟨pb, List.replicate (rs.map V.ref).length true, rfl, SqL.of hpb, ?_⟩
  rw [show (List.replicate (rs.map V.ref).length true).all id = true by simp]
  exact qn H3 s3
theorem ok_is_plan (T : Bl mg) (D : Def K mg "is_plan" s_is_plan) (C_check_plan : Cal P w K mg base "check_plan" ["house", "people", "value"] 6 (spPlan K)) : Cal P w K mg base "is_plan" ["house", "state", "value"] 7 (spIsPlan K) := by
  refine D.ok sc_is_plan (fun _ _ _ _ _ _ us hl => match us, hl with | [_, _, _], _ => rfl) (fun vs H Q E h => ?_) (fun f cdv A outer s0 H vs Q E hr h => ?_)
  · obtain ⟨a, s, pl, n, ds, S, l, rfl, _⟩ := h
    rfl
  obtain ⟨a, s, pl, n, ds, S, l, rfl, hH, tree, hn, st, ok, tr, vm, qn⟩ := h
  obtain ⟨r, b, h1, h2, h3⟩ := id st
  obtain ⟨f_check_plan, fd_check_plan, g_check_plan, k_check_plan, b_check_plan, G_check_plan⟩ := C_check_plan
  refine ⟨_, (pss_one (ps_ret (pe_cmpR op_isN (pe_call G_check_plan (hr.mono (by decide)) (by rfl) g_check_plan k_check_plan b_check_plan .nil pass0 (pa_cons (pv 0) (pa_cons (pe_callB call_len_seq (by rfl) T.len PySem.boot_len (pa_cons (pe_ix ix_tup (pv 1) pe_int (fun _ _ => rfl)) pa_nil)) (pa_cons (pv 2) pa_nil)))) pe_non (nomark _)))), ?_⟩
  refine ⟨_, rfl, _, rfl, s, _, _, _, rfl, rfl, h1, atI_nat (j := 0) rfl, _, _, rfl, .inr h2, _, rfl, ?_⟩
  refine ⟨a, pl, S.1.length, n, ds, l, false, by rw [nv_len]; rfl, hH, tree, by omega, ok.one, PlanAt.of tr, vm, fun _ H1 s1 => ⟨rfl, ?_⟩, fun z => by cases z⟩
  rw [decide_eq_true rfl]
  exact qn H1 s1
theorem ok_gathering_fault {CM : Addr} (T : Bl mg) (E_mb : ErrOkK P w K mg base "MoveBlocked" CM ["self", "index", "reason"] ["index", "reason"] (spE2 CM "index" "reason")) (D : Def K mg "gathering_fault" s_gathering_fault) (C_play : CalX P w K mg base "play" ["house", "state", "plan"] 8 (spPlayX K CM)) (C_first_elsewhere : Cal P w K mg base "first_elsewhere" ["state", "room"] 1 (spElse K)) : Cal P w K mg base "gathering_fault" ["house", "state", "room", "plan"] 9 (spGF K) := by
  obtain ⟨f_mb, fd_mb, e_mb, F_mb, B_mb⟩ := E_mb
  refine D.ok sc_gathering_fault (fun _ _ _ _ _ _ us hl => match us, hl with | [_, _, _, _], _ => rfl) (fun vs H Q E h => ?_) (fun f cdv A outer s0 H vs Q E hr h => ?_)
  · obtain ⟨a, s, pl, n, x, ds, S, l, rfl, _⟩ := h
    rfl
  obtain ⟨a, s, pl, n, x, ds, S, l, rfl, hH, tree, hn, st, ok, tr, vm, qn⟩ := h
  obtain ⟨f_play, fd_play, g_play, k_play, b_play, G_play⟩ := C_play
  obtain ⟨f_first_elsewhere, fd_first_elsewhere, g_first_elsewhere, k_first_elsewhere, b_first_elsewhere, G_first_elsewhere⟩ := C_first_elsewhere
  refine ⟨_, (pss_cons (ps_try_as (i := 5) (tb := fun W => tAsg (tCallS (spPlayX K CM) (WE W) (tCons (tVar 0) (tCons (tVar 1) (tCons (tVar 3) tNil)))) (gName 4)) (ts := fun a cls d => tRet (tTup (tCons (tC (.str "blocked")) (tCons (tXf a cls d CM "index" (tVar 5)) tNil)))) (Wout := fun _ _ _ _ => False) rfl rfl sc_gathering_fault.nd rfl rfl ⟨rfl, by decide, .inl e_mb.g⟩ takes0 (fun W pn xe tk _ => (pss_one (ps_set (i := 4) sc_gathering_fault.nd rfl (.inl rfl) (pe_callS G_play (hr.mono (by decide)) (by rfl) g_play k_play b_play (fun σ => passAt tk σ) (by exact (pa_cons (pv 0) (pa_cons (pv 1) (pa_cons (pv 3) pa_nil)))))))) (fun a oe cls d pn hz hf => (pss_one (ps_ret (pe_tup (pa_cons pe_str (pa_cons (pe_xf e_mb.f (e_mb.r "index" (by simp)) hz hf (pv 5)) pa_nil)))))))
    (pss_cons (ps_set (i := 6) sc_gathering_fault.nd rfl (.inl rfl) (pe_call G_first_elsewhere (hr.mono (by decide)) (by rfl) g_first_elsewhere k_first_elsewhere b_first_elsewhere .nil pass0 (pa_cons (pv 4) (pa_cons (pv 2) pa_nil))))
    (pss_cons (ps_if (pt_cmpR op_notN (pv 6) pe_non (nomark _)) (pss_one (ps_ret (pe_tup (pa_cons pe_str (pa_cons (pv 6) pa_nil))))) pss_nil)
    (pss_one (ps_ret pe_non))))), ?_⟩
  refine ⟨_, rfl, _, rfl, _, rfl, a, s, pl, n, ds, S, l, rfl, hH, tree, by omega, st, ok, PlanAt.of tr, vm, fun B er H1 fs s1 st1 => ?_, fun i wd er H1 t1 d1 s1 ht1 hd1 => ?_⟩
  · refine ⟨_, rfl, _, rfl, fs, x, n, ds, B, rfl, st1, runs_ok tree ok vm er, fun H2 s2 all => ?_, fun H2 p v s2 hv nv fst => ?_⟩
    · refine ⟨_, rfl, rfl, _, rfl, ?_⟩
      exact iteF' (by simp) (qn H2 .non .none (s1.trans s2) (.inr ⟨B, er, .inl ⟨all, rfl⟩⟩) .non)
    · refine ⟨_, rfl, rfl, _, rfl, iteT' (by simp) ?_⟩
      refine ⟨_, rfl, by show 2 ≤ sizeLine; decide, fun q nq => ?_⟩
      exact qn _ _ (dRm1 p) ((s1.trans s2).trans (Same.upd nq)) (.inr ⟨B, er, .inr ⟨p, v, hv, nv, fst, rfl⟩⟩) (.tup (SqT.of upd_same) (.cons (.str _) (.cons (.int _) .nil)))
  · refine ⟨true, e_mb.xm, fun _ ea nea => ?_, fun z => by cases z⟩
    refine ⟨_, rfl, rfl, rfl, d1, _, _, rfl, hd1, rfl, by show 2 ≤ sizeLine; decide, fun p np => ?_⟩
    exact qn _ _ (dBl1 i) (s1.trans (Same.upd np)) (.inl ⟨i, wd, er, rfl⟩) (.tup (SqT.of upd_same) (.cons (.str _) (.cons (.int _) .nil)))
theorem ok_regions_fault (T : Bl mg) (D : Def K mg "regions_fault" s_regions_fault) (C_all_regions : Cal P w K mg base "all_regions" ["house", "state"] 9 (spAllReg K)) (C_first_elsewhere : Cal P w K mg base "first_elsewhere" ["state", "room"] 1 (spElse K)) (C_is_apart : Cal P w K mg base "is_apart" ["house", "state"] 8 (spApart K)) : Cal P w K mg base "regions_fault" ["house", "state", "room", "regions"] 10 (spRF K) := by
  refine D.ok sc_regions_fault (fun _ _ _ _ _ _ us hl => match us, hl with | [_, _, _, _], _ => rfl) (fun vs H Q E h => ?_) (fun f cdv A outer s0 H vs Q E hr h => ?_)
  · obtain ⟨a, s, q, n, x, ds, S, R, rfl, _⟩ := h
    rfl
  obtain ⟨a, s, q, n, x, ds, S, R, rfl, hH, tree, hn, st, ok, lz, qn⟩ := h
  obtain ⟨f_all_regions, fd_all_regions, g_all_regions, k_all_regions, b_all_regions, G_all_regions⟩ := C_all_regions
  obtain ⟨f_first_elsewhere, fd_first_elsewhere, g_first_elsewhere, k_first_elsewhere, b_first_elsewhere, G_first_elsewhere⟩ := C_first_elsewhere
  obtain ⟨f_is_apart, fd_is_apart, g_is_apart, k_is_apart, b_is_apart, G_is_apart⟩ := C_is_apart
  have one1 : (1 : Nat) ≤ sizeLine := by decide
  refine ⟨_, (pss_cons (ps_if (pt_cmpR (op_neD hr.units) (pv 3) (pe_call G_all_regions (hr.mono (by decide)) (by rfl) g_all_regions k_all_regions b_all_regions .nil pass0 (pa_cons (pv 0) (pa_cons (pv 1) pa_nil))) (nomark _)) (pss_one (ps_ret (pe_tup (pa_cons pe_str pa_nil)))) pss_nil)
    (pss_cons (ps_if (PW.pt (pw_or (pt_not (pt_val (pe_call G_is_apart (hr.mono (by decide)) (by rfl) g_is_apart k_is_apart b_is_apart .nil pass0 (pa_cons (pv 0) (pa_cons (pv 1) pa_nil))))) (pw_or1 (pt_cmpR op_isN (pe_call G_first_elsewhere (hr.mono (by decide)) (by rfl) g_first_elsewhere k_first_elsewhere b_first_elsewhere .nil pass0 (pa_cons (pv 1) (pa_cons (pv 2) pa_nil))) pe_non (nomark _))))) (pss_one (ps_ret (pe_tup (pa_cons pe_str pa_nil)))) pss_nil)
    (pss_one (ps_ret pe_non)))), ?_⟩
  refine ⟨_, rfl, _, rfl, _, rfl, a, s, n, ds, S, rfl, hH, tree, hn, st, ok, fun H1 q1 Ms s1 nq1 la1 rl1 asc1 _ => ?_⟩
  refine ⟨dLZ R, dLZ (zLs Ms), dp_LZ (lz.same s1), dp_LZ (LZ.of la1), dLZ_shaped _, dLZ_shaped _, _, rfl, ?_⟩
  rw [dLZ_eqv]
  by_cases e : R = zLs Ms
  rotate_left
  · refine iteT' (by rw [decide_eq_false e]; rfl) ?_
    refine ⟨one1, fun p np => ?_⟩
    exact qn _ _ dRg1 (s1.trans (Same.upd np)) ⟨Ms, rl1, asc1, .inl ⟨e, rfl⟩⟩ (.tup (SqT.of upd_same) (.cons (.str _) .nil))
  refine iteF' (by rw [decide_eq_true e]; rfl) ?_
  refine ⟨_, rfl, _, rfl, a, s, n, ds, S, rfl, hH.same s1, tree, hn, st.same s1, ok, fun H2 Ks s2 rg => ?_⟩
  have ap := rg.toL.apt
  have s12 := s1.trans s2
  refine ⟨_, rfl, ?_⟩
  by_cases apt : Apt ds S
  rotate_left
  · refine iteT' (by rw [decide_eq_false fun z => apt (ap.mp z)]; rfl) ?_
    refine iteT ?_
    refine ⟨one1, fun p np => ?_⟩
    exact qn _ _ dTo1 (s12.trans (Same.upd np)) ⟨Ms, rl1, asc1, .inr ⟨e, .inl ⟨.inl apt, rfl⟩⟩⟩ (.tup (SqT.of upd_same) (.cons (.str _) .nil))
  refine iteF' (by rw [decide_eq_true (ap.mpr apt)]; rfl) ?_
  refine ⟨_, rfl, _, rfl, s, x, n, ds, S, rfl, st.same s12, ok, fun H3 s3 all => ⟨rfl, _, rfl, ?_⟩, fun H3 p v s3 hv nv _ => ⟨rfl, _, rfl, ?_⟩⟩
  · refine iteT' (by simp) ?_
    refine ⟨one1, fun p np => ?_⟩
    exact qn _ _ dTo1 ((s12.trans s3).trans (Same.upd np)) ⟨Ms, rl1, asc1, .inr ⟨e, .inl ⟨.inr all, rfl⟩⟩⟩ (.tup (SqT.of upd_same) (.cons (.str _) .nil))
  · exact iteF' (by simp) (qn H3 .non .none (s12.trans s3) ⟨Ms, rl1, asc1, .inr ⟨e, .inr ⟨apt, fun z => nv (z v (List.mem_of_getElem? hv)), rfl⟩⟩⟩ .non)
theorem ok_is_gathering (T : Bl mg) (D : Def K mg "is_gathering" s_is_gathering) (C_is_list_of_regions : Cal P w K mg base "is_list_of_regions" ["value"] 3 (spIsRegs K)) (C_is_plan : Cal P w K mg base "is_plan" ["house", "state", "value"] 7 (spIsPlan K)) : Cal P w K mg base "is_gathering" ["house", "state", "value"] 8 (spIsG K) := by
  refine D.ok sc_is_gathering (fun _ _ _ _ _ _ us hl => match us, hl with | [_, _, _], _ => rfl) (fun vs H Q E h => ?_) (fun f cdv A outer s0 H vs Q E hr h => ?_)
  · obtain ⟨a, s, t, n, ds, S, c, rfl, _⟩ := h
    rfl
  obtain ⟨a, s, t, n, ds, S, c, rfl, hH, tree, hn, st, ok, ca, co, qn⟩ := h
  obtain ⟨f_is_list_of_regions, fd_is_list_of_regions, g_is_list_of_regions, k_is_list_of_regions, b_is_list_of_regions, G_is_list_of_regions⟩ := C_is_list_of_regions
  obtain ⟨f_is_plan, fd_is_plan, g_is_plan, k_is_plan, b_is_plan, G_is_plan⟩ := C_is_plan
  refine ⟨_, (pss_cons (ps_if (PW.pt (pw_or (pt_not (pt_val (pe_callB call_isi (by rfl) T.isinstance (by decide +kernel) (pa_cons (pv 2) (pa_cons (pe_bltn (v := .ty "tuple") (u := .type "tuple") (by rfl) T.tuple (by decide +kernel) rfl) pa_nil))))) (pw_or1 (pt_cmpR op_ne (pe_callB call_len_seq (by rfl) T.len PySem.boot_len (pa_cons (pv 2) pa_nil)) pe_int (nomark _))))) (pss_one (ps_ret pe_bl)) pss_nil)
    (pss_cons (ps_asg (pv 2) (pg_tup (n := 2) rfl (pgs_cons (pg_name (i := 3) sc_is_gathering.nd rfl (.inl rfl)) (pgs_cons (pg_name (i := 4) sc_is_gathering.nd rfl (.inl rfl)) pgs_nil))))
    (pss_one (ps_ret (pe_or (pe_and (pe_cmpR op_eq (pv 3) pe_str (nomark _)) (pe_one (pe_call G_is_plan (hr.mono (by decide)) (by rfl) g_is_plan k_is_plan b_is_plan .nil pass0 (pa_cons (pv 0) (pa_cons (pv 1) (pa_cons (pv 4) pa_nil)))))) (pe_one (pe_and (pe_cmpR op_eq (pv 3) pe_str (nomark _)) (pe_one (pe_call G_is_list_of_regions (hr.mono (by decide)) (by rfl) g_is_list_of_regions k_is_list_of_regions b_is_list_of_regions .nil pass0 (pa_cons (pv 4) pa_nil)))))))))), ?_⟩
  cases c with
  | inl l =>
    obtain ⟨pl, ht, tr⟩ := ca
    have vm : ∀ m ∈ l, VM ds S.1.length m := co
    refine ⟨_, rfl, _, _, _, _, _, rfl, .ty _, ty_tup (SqT.of ht), kit_ty (r := true) (by decide +kernel), _, rfl, iteF ?_⟩
    refine ⟨_, rfl, _, _, rfl, .inr (SqT.of ht), rfl, _, rfl, iteF ?_⟩
    refine ⟨_, rfl, _, _, rfl, SqT.of ht, rfl, _, _, rfl, _, _, rfl, rfl, ?_⟩
    refine ⟨_, rfl, rfl, _, rfl, ?_⟩
    refine iteT' (by simp) ⟨_, rfl, _, rfl, _, rfl, a, s, pl, n, ds, S, l, rfl, hH, tree, hn, st, ok, tr, vm, fun H1 s1 => ⟨true, rfl, iteT ?_⟩⟩
    exact qn H1 s1
  | inr Ls =>
    obtain ⟨q, ht, la⟩ := ca
    obtain ⟨l1, l2⟩ : Ls.length ≤ 500 ∧ ∀ L ∈ Ls, L.length ≤ 500 := co
    refine ⟨_, rfl, _, _, _, _, _, rfl, .ty _, ty_tup (SqT.of ht), kit_ty (r := true) (by decide +kernel), _, rfl, iteF ?_⟩
    refine ⟨_, rfl, _, _, rfl, .inr (SqT.of ht), rfl, _, rfl, iteF ?_⟩
    refine ⟨_, rfl, _, _, rfl, SqT.of ht, rfl, _, _, rfl, _, _, rfl, rfl, ?_⟩
    refine ⟨_, rfl, rfl, _, rfl, ?_⟩
    refine iteF' (by decide) ⟨false, rfl, iteF ?_⟩
    refine ⟨_, rfl, rfl, _, rfl, ?_⟩
    exact iteT' (by decide) ⟨_, rfl, q, Ls, rfl, la, l1, l2, fun H1 s1 => qn H1 s1⟩
theorem ok_check_gathering (T : Bl mg) (D : Def K mg "check_gathering" s_check_gathering) (C_need_state : Cal P w K mg base "need_state" ["house", "state"] 7 (spSt K)) (C_need_room : Cal P w K mg base "need_room" ["house", "room"] 3 (spNeedRoom K)) (C_is_gathering : Cal P w K mg base "is_gathering" ["house", "state", "value"] 8 (spIsG K))
    (C_gathering_fault : Cal P w K mg base "gathering_fault" ["house", "state", "room", "plan"] 9 (spGF K)) (C_regions_fault : Cal P w K mg base "regions_fault" ["house", "state", "room", "regions"] 10 (spRF K)) :
    Cal P w K mg base "check_gathering" ["house", "state", "room", "claim"] 11 (spCheckG K) := by
  refine D.ok sc_check_gathering (fun _ _ _ _ _ _ us hl => match us, hl with | [_, _, _, _], _ => rfl) (fun vs H Q E h => ?_) (fun f cdv A outer s0 H vs Q E hr h => ?_)
  · obtain ⟨a, s, t, n, x, ds, S, c, rfl, _⟩ := h
    rfl
  obtain ⟨a, s, t, n, x, ds, S, c, rfl, hH, tree, hn, st, ok, hx, ca, co, qn⟩ := h
  have hdn := tree.len
  have few := ok.few
  obtain ⟨f_need_state, fd_need_state, g_need_state, k_need_state, b_need_state, G_need_state⟩ := C_need_state
  obtain ⟨f_need_room, fd_need_room, g_need_room, k_need_room, b_need_room, G_need_room⟩ := C_need_room
  obtain ⟨f_is_gathering, fd_is_gathering, g_is_gathering, k_is_gathering, b_is_gathering, G_is_gathering⟩ := C_is_gathering
  obtain ⟨f_gathering_fault, fd_gathering_fault, g_gathering_fault, k_gathering_fault, b_gathering_fault, G_gathering_fault⟩ := C_gathering_fault
  obtain ⟨f_regions_fault, fd_regions_fault, g_regions_fault, k_regions_fault, b_regions_fault, G_regions_fault⟩ := C_regions_fault
  refine ⟨_, (pss_cons (ps_expr (pe_call G_need_state (hr.mono (by decide)) (by rfl) g_need_state k_need_state b_need_state .nil pass0 (pa_cons (pv 0) (pa_cons (pv 1) pa_nil))))
    (pss_cons (ps_expr (pe_call G_need_room (hr.mono (by decide)) (by rfl) g_need_room k_need_room b_need_room .nil pass0 (pa_cons (pv 0) (pa_cons (pv 2) pa_nil))))
    (pss_cons (ps_if (pt_not (pt_val (pe_call G_is_gathering (hr.mono (by decide)) (by rfl) g_is_gathering k_is_gathering b_is_gathering .nil pass0 (pa_cons (pv 0) (pa_cons (pv 1) (pa_cons (pv 3) pa_nil)))))) (pss_one (ps_ret (pe_tup (pa_cons pe_str pa_nil)))) pss_nil)
    (pss_cons (ps_asg (pv 3) (pg_tup (n := 2) rfl (pgs_cons (pg_name (i := 4) sc_check_gathering.nd rfl (.inl rfl)) (pgs_cons (pg_name (i := 5) sc_check_gathering.nd rfl (.inl rfl)) pgs_nil))))
    (pss_cons (ps_if (pt_cmpR op_eq (pv 4) pe_str (nomark _)) (pss_one (ps_ret (pe_call G_gathering_fault (hr.mono (by decide)) (by rfl) g_gathering_fault k_gathering_fault b_gathering_fault .nil pass0 (pa_cons (pv 0) (pa_cons (pv 1) (pa_cons (pv 2) (pa_cons (pv 5) pa_nil))))))) pss_nil)
    (pss_one (ps_ret (pe_call G_regions_fault (hr.mono (by decide)) (by rfl) g_regions_fault k_regions_fault b_regions_fault .nil pass0 (pa_cons (pv 0) (pa_cons (pv 1) (pa_cons (pv 2) (pa_cons (pv 5) pa_nil)))))))))))), ?_⟩
  refine ⟨_, rfl, _, rfl, a, s, ds, n, S, rfl, hH, tree, by omega, st, ok, fun H1 s1 => ?_⟩
  refine ⟨_, rfl, _, rfl, a, ds, x, rfl, hH.same s1, by omega, by omega, ?_⟩
  refine ⟨_, rfl, _, rfl, _, rfl, a, s, t, n, ds, S, c, rfl, hH.same s1, tree, hn, st.same s1, ok, ca.same s1, co, fun H2 s2 => ⟨_, rfl, ?_⟩⟩
  refine iteF ?_
  have s12 := s1.trans s2
  have ca2 := ca.same s12
  cases c with
  | inl l =>
    obtain ⟨pl, c1, c2⟩ := ca2
    refine ⟨_, rfl, _, _, rfl, SqT.of c1, rfl, _, _, rfl, _, _, rfl, rfl, ?_⟩
    refine ⟨_, rfl, rfl, _, rfl, ?_⟩
    exact iteT' (by decide) ⟨_, rfl, _, rfl, _, rfl, _, rfl, a, s, pl, n, x, ds, S, l, rfl, hH.same s12, tree, hn, st.same s12, ok, c2, co, fun H3 v d s3 => qn H3 v d (s12.trans s3)⟩
  | inr R =>
    obtain ⟨q, c1, c2⟩ := ca2
    refine ⟨_, rfl, _, _, rfl, SqT.of c1, rfl, _, _, rfl, _, _, rfl, rfl, ?_⟩
    refine ⟨_, rfl, rfl, _, rfl, ?_⟩
    exact iteF' (by decide) ⟨_, rfl, _, rfl, _, rfl, _, rfl, a, s, q, n, x, ds, S, R, rfl, hH.same s12, tree, hn, st.same s12, ok, c2, fun H3 v d s3 => qn H3 v d (s12.trans s3)⟩
end
end K5

namespace K5
open PySem PySem.Spec PyProof.Rows L2
def spRepl (K : PySem.W.Frag) : Sp := fun vs H Q _ => ∃ (a : Addr) (L : List Nat) (k v : Nat), vs = [.ref a, .int (k : Int), .int (v : Int)] ∧ SqT K H a (nv L) ∧ k < L.length ∧ L.length ≤ 1000 ∧ ∀ (H' : Hp) (q : Addr), Same H H' → SqT K H' q (nv (L.set k v)) → Q (.ref q) H'
section
variable {P : Program} {w : World} {K : PySem.W.Frag}
      {mg : Str → Option Value} {base : Heap}
theorem ok_replaced (T : Bl mg) (D : Def K mg "replaced" s_replaced) : Cal P w K mg base "replaced" ["values", "index", "value"] 1 (spRepl K) := by
  refine D.ok sc_replaced (fun _ _ _ _ _ _ us hl => match us, hl with | [_, _, _], _ => rfl) (fun vs H Q E h => ?_) (fun f cdv A outer s0 H vs Q E hr h => ?_)
  · obtain ⟨a, L, k, v, rfl, _⟩ := h
    rfl
  obtain ⟨a, L, k, v, rfl, h2, v1, few, qn⟩ := h
  refine ⟨_, (pss_one (ps_ret (pe_op op_catA (pe_op op_catA (pe_slice sl_tup (pv 0) po_none (po_some (pv 1))) (pe_tup (pa_cons (pv 2) pa_nil))) (pe_slice sl_tup (pv 0) (po_some (pe_op op_add (pv 1) pe_int)) po_none)))), ?_⟩
  have sz4 : (4 : Nat) + 1000 ≤ sizeLine := Nat.le_of_lt (small3k (by decide))
  obtain ⟨c1, c2⟩ := cut_to v1
  obtain ⟨c3, c4⟩ := cut_from v1
  refine ⟨_, rfl, _, rfl, _, rfl, a, _, rfl, h2, c2, fun p1 np1 => ?_⟩
  rw [c1]
  have sa := Same.upd (o := .tup (nv (L.take k))) np1
  refine ⟨_, rfl, by show 1 ≤ sizeLine; decide, fun p2 np2 => ?_⟩
  have sb := sa.trans (Same.upd (o := .tup [.int (v : Int)]) np2)
  have hp1 : (upd (upd H p1 (.tup (nv (L.take k)))) p2 (.tup [.int (v : Int)])) p1 = some (.tup (nv (L.take k))) := by rw [upd_ne (ne_of_none upd_same np2), upd_same]
  refine catA_of (SqT.of hp1) (SqT.of upd_same) (by rw [nv_len, List.length_take, List.length_singleton]; omega) fun H4 p3 s4 h4 => ?_
  have sc := sb.trans s4
  refine ⟨_, rfl, _, rfl, _, _, rfl, rfl, _, rfl, a, _, rfl, sc.tup h2, c4, fun p4 np4 => ?_⟩
  rw [c3]
  have s5 := Same.upd (o := .tup (nv (L.drop (k + 1)))) np4
  refine catA_of (s5.tup h4) (SqT.of upd_same) (by rw [List.length_append, nv_len, List.length_take, List.length_singleton, nv_len, List.length_drop]; omega) fun H6 p5 s6 h6 => ?_
  rw [nv_cut _ _ _ v1] at h6
  exact qn _ p5 ((sc.trans s5).trans s6) h6
end
end K5

namespace K5
open PySem PySem.Spec PyProof.Rows L2 PySem.W
theorem in_pair (x a b : Int) : inV (.int x) [.int a, .int b] = (decide (x = a) || decide (x = b)) := by
  show ((a == x) || ((b == x) || false)) = _
  by_cases h1 : x = a
  · subst h1
    simp
  · by_cases h2 : x = b
    · subst h2
      simp
    · have e1 : (a == x) = false := by simpa using fun z => h1 z.symm
      have e2 : (b == x) = false := by simpa using fun z => h2 z.symm
      rw [e1, e2, decide_eq_false h1, decide_eq_false h2]
      rfl
theorem ite_var {σ : L2.St} {H : Hp} {Q : VK} {i j : Nat} {c : Bool} {v : V} (h1 : c = true → σ[i]? = some (some v)) (h2 : c = false → σ[j]? = some (some v)) (q : Q v H) : if c = true then tVar i σ H Q else tVar j σ H Q := by
  cases c with
  | true => exact iteT ⟨v, h1 rfl, q⟩
  | false => exact iteF ⟨v, h2 rfl, q⟩
/-- rooms before, door, person -/
abbrev Lm := List Nat × Nat × Nat
def oth (e : Nat × Nat) (r : Nat) : Nat := if r = e.1 then e.2 else e.1
/-- the move through door d, where it can have been the last one -/
def lmOf (e : Nat × Nat) (S : S2) (d p : Nat) : List Lm := if S.1.getD p 0 = e.1 ∨ S.1.getD p 0 = e.2 then [(S.1.set p (oth e (S.1.getD p 0)), d, p)] else []
def lms (ds : List (Nat × Nat)) (S : S2) : Nat → List Lm
  | 0 => []
  | k + 1 => lms ds S k ++ lmOf (ds.getD k (0, 0)) S k (S.2.getD k 0)
theorem lms_len (ds : List (Nat × Nat)) (S : S2) : ∀ k, (lms ds S k).length ≤ k
  | 0 => Nat.le_refl _
  | k + 1 => by
    have h := lms_len ds S k
    have h2 : (lmOf (ds.getD k (0, 0)) S k (S.2.getD k 0)).length ≤ 1 := by
      unfold lmOf
      split
      · exact Nat.le_refl _
      · exact Nat.zero_le _
    show (lms ds S k ++ lmOf (ds.getD k (0, 0)) S k (S.2.getD k 0)).length ≤ k + 1
    rw [List.length_append]
    omega
def dLm (x : Lm) : PyData := .tuple [.tuple (dIs x.1), .int (x.2.1 : Int), .int (x.2.2 : Int)]
def LmAt (K : PySem.W.Frag) (H : Hp) (ts : List Addr) (l : List Lm) : Prop := ts.length = l.length ∧ ∀ (i : Nat) (t : Addr) (x : Lm), ts[i]? = some t → l[i]? = some x → ∃ r : Addr, H t = some (.tup [.ref r, .int (x.2.1 : Int), .int (x.2.2 : Int)]) ∧ SqT K H r (nv x.1)
theorem LmAt.same {K H H' ts l} (h : LmAt K H ts l) (s : Same H H') : LmAt K H' ts l := ⟨h.1, fun i t x a b => by
  obtain ⟨r, h1, h2⟩ := h.2 i t x a b
  exact ⟨r, s _ _ h1, s.tup h2⟩⟩
theorem LmAt.app {K : PySem.W.Frag} {H : Hp} {ts : List Addr} {l : List Lm} {t r : Addr} {x : Lm} (h : LmAt K H ts l) (ht : H t = some (.tup [.ref r, .int (x.2.1 : Int), .int (x.2.2 : Int)])) (hr : SqT K H r (nv x.1)) : LmAt K H (ts ++ [t]) (l ++ [x]) := by
  refine ⟨by rw [List.length_append, List.length_append, h.1]; rfl, fun i a b e1 e2 => ?_⟩
  by_cases hi : i < ts.length
  · rw [List.getElem?_append_left hi] at e1
    rw [List.getElem?_append_left (by rw [← h.1]; exact hi)] at e2
    exact h.2 i a b e1 e2
  · rw [List.getElem?_append_right (by omega)] at e1
    rw [List.getElem?_append_right (by rw [← h.1]; omega), ← h.1] at e2
    generalize i - ts.length = j at e1 e2
    match j with
    | 0 =>
      cases e1
      cases e2
      exact ⟨r, ht, hr⟩
    | j + 1 => simp at e1
theorem LmAt.but {K H H' p xs ts l} (h : LmAt K H ts l) (hp : H p = some (.lst xs)) (s : But p H H') : LmAt K H' ts l := ⟨h.1, fun i t x a b => by
  obtain ⟨r, h1, h2⟩ := h.2 i t x a b
  exact ⟨r, s _ _ (ne_lt hp h1) h1, s.tup hp h2⟩⟩
/-- in order -/
def Srt (l : List Lm) : Prop := l.Pairwise fun x y => dataLe false dLm x y = true
def spLast (K : PySem.W.Frag) : Sp := fun vs H Q _ => ∃ (a s : Addr) (ds : List (Nat × Nat)) (n : Nat) (S : S2), vs = [.ref a, .ref s] ∧ HouseAt K H a ds ∧ Tree n ds ∧ n ≤ 1000 ∧ StateAt K H s S ∧ StOk n ds S ∧
  ∀ (H' : Hp) (q : Addr) (ts : List Addr) (l : List Lm), Same H H' → H q = none → H' q = some (.lst (ts.map V.ref)) → LmAt K H' ts l → l.Perm (lms ds S ds.length) → Srt l → Q (.ref q) H'
section
variable {P : Program} {w : World} {K : PySem.W.Frag}
      {mg : Str → Option Value} {base : Heap}
theorem dLm_depth (x : Lm) : (dLm x).depth ≤ 60 := by
  have := dIs_depth x.1
  simp only [dLm, PyData.depth, PyData.depthAll]
  omega
theorem dp_lms {H : Hp} : ∀ (ts : List Addr) (l : List Lm), LmAt K H ts l → DpAll K H (ts.map V.ref) (l.map dLm)
  | [], [], _ => .nil
  | [], _ :: _, h => by have := h.1; simp at this
  | _ :: _, [], h => by have := h.1; simp at this
  | t :: ts, x :: l, h => by
    obtain ⟨r, h1, h2⟩ := h.2 0 t x rfl rfl
    exact .cons (.tup (SqT.of h1) (.cons (.tup h2 (dp_is _)) (.cons (.int _) (.cons (.int _) .nil)))) (dp_lms ts l ⟨by have := h.1; simpa using this, fun i t' x' a b => h.2 (i + 1) t' x' a b⟩)
theorem alike_is : ∀ l m : List Nat, alikeAll (dIs l) (dIs m) = true
  | [], _ => by simp [dIs, alikeAll]
  | _ :: _, [] => by simp [dIs, alikeAll]
  | x :: l, y :: m => by
    have ih := alike_is l m
    unfold dIs at ih ⊢
    simp only [List.map_cons, alikeAll, alike, ih, Bool.and_self]
theorem alike_lm (x y : Lm) : alike (dLm x) (dLm y) = true := by
  simp only [dLm, alike, alikeAll, alike_is, Bool.and_self]
theorem ok_last_moves (T : Bl mg) (D : Def K mg "last_moves" s_last_moves) (C_replaced : Cal P w K mg base "replaced" ["values", "index", "value"] 1 (spRepl K)) : Cal P w K mg base "last_moves" ["house", "state"] 2 (spLast K) := by
  refine D.ok sc_last_moves (fun _ _ _ _ _ _ us hl => match us, hl with | [_, _], _ => rfl) (fun vs H Q E h => ?_) (fun f cdv A outer s0 H vs Q E hr h => ?_)
  · obtain ⟨a, s, ds, n, S, rfl, _⟩ := h
    rfl
  obtain ⟨a, s, ds, n, S, rfl, hH, tree, hn, st, ok, q⟩ := h
  obtain ⟨rs, hrs, hlen, hds⟩ := id hH
  obtain ⟨r, b, h1, h2, h3⟩ := id st
  have hdn := tree.len
  have few := ok.few
  obtain ⟨f_replaced, fd_replaced, g_replaced, k_replaced, b_replaced, G_replaced⟩ := C_replaced
  refine ⟨_, (pss_cons (ps_asg (pv 1) (pg_tup (n := 2) rfl (pgs_cons (pg_name (i := 2) sc_last_moves.nd rfl (.inl rfl)) (pgs_cons (pg_name (i := 3) sc_last_moves.nd rfl (.inl rfl)) pgs_nil))))
    (pss_cons (ps_set (i := 4) sc_last_moves.nd rfl (.inl rfl) (pe_lst pa_nil))
    (pss_cons (ps_for PassesOwn.never rfl (pi_enumT (by rfl) T.enumerate (pa_cons (pv 0) pa_nil)) (pg_tup (n := 2) rfl (pgs_cons (pg_name (i := 5) sc_last_moves.nd rfl (.inl rfl)) (pgs_cons (pg_tup (n := 2) rfl (pgs_cons (pg_name (i := 6) sc_last_moves.nd rfl (.inl rfl)) (pgs_cons (pg_name (i := 7) sc_last_moves.nd rfl (.inl rfl)) pgs_nil))) pgs_nil)))
    (pss_cons (ps_set (i := 8) sc_last_moves.nd rfl (.inl rfl) (pe_ix ix_tup (pv 3) (pv 5) (fun _ _ => rfl)))
    (pss_one (ps_if (pt_cmpR op_in_seq (pe_ix ix_tup (pv 2) (pv 8) (fun _ _ => rfl)) (pe_tup (pa_cons (pv 6) (pa_cons (pv 7) pa_nil))) (by rfl)) (pss_cons (ps_set (i := 9) sc_last_moves.nd rfl (.inl rfl) (pe_ifExp (pt_cmpR op_eq (pe_ix ix_tup (pv 2) (pv 8) (fun _ _ => rfl)) (pv 6) (nomark _)) (pv 7) (pv 6)))
    (pss_one (ps_expr (pe_bm PySem.F.plainAttrs_list PySem.F.slot_list_append PySem.F.type_list_append mt_append (pv 4) (pa_cons (pe_tup (pa_cons (pe_call G_replaced (hr.mono (by decide)) (by rfl) g_replaced k_replaced b_replaced .nil pass0 (pa_cons (pv 2) (pa_cons (pv 8) (pa_cons (pv 9) pa_nil)))) (pa_cons (pv 5) (pa_cons (pv 8) pa_nil)))) pa_nil))))) pss_nil))))
    (pss_one (ps_ret (pe_callB (cr_sortedD hr.units) (by rfl) T.sorted (by decide +kernel) (pa_cons (pv 4) pa_nil))))))), ?_⟩
  refine ⟨_, rfl, _, _, rfl, h1, rfl, _, _, rfl, _, _, rfl, rfl, ?_⟩
  refine ⟨Nat.zero_le _, fun pm npm => ?_⟩
  refine ⟨_, rfl, a, _, rfl, (Same.upd npm).tup hrs, ?_⟩
  refine for_it (walk_enumT (K := K) (a := a) (xs := rs.map V.ref)) (fun k σ H2 => ∃ (ts : List Addr) (y5 y6 y7 y8 y9 : Option V), σ = [some (.ref a), some (.ref s), some (.ref r), some (.ref b), some (.ref pm), y5, y6, y7, y8, y9] ∧ Same H H2 ∧ H2 pm = some (.lst (ts.map V.ref)) ∧ LmAt K H2 ts (lms ds S k))
    ⟨[], _, _, _, _, _, rfl, Same.upd npm, upd_same, rfl, fun i t x e => by simp at e⟩ (fun i σ H1 _ ⟨_, _, _, _, _, _, _, sm, _⟩ => sm.tup hrs) ?_ ?_
  · rintro k x σ H2 H3 hk ⟨ts, y5, y6, y7, y8, y9, rfl, s2, hpm, la⟩ ⟨t, x1, x2, rfl, nt, rfl, ex1, ex2⟩
    cases ex1
    have hk' : k < ds.length := by
      rw [List.length_map, hlen] at hk
      exact hk
    obtain ⟨e, he⟩ : ∃ e, ds[k]? = some e := get_of rfl hk'
    obtain ⟨r1, hr0⟩ : ∃ r, rs[k]? = some r := get_of hlen hk'
    have ex2' : V.ref r1 = x2 := by
      have ex2 : (rs.map V.ref)[k]? = some x2 := ex2
      rw [List.getElem?_map, hr0] at ex2
      exact Option.some.inj ex2
    subst ex2'
    obtain ⟨p, hp⟩ : ∃ p, S.2[k]? = some p := get_of ok.doors hk'
    have lp := ok.bars p (List.mem_of_getElem? hp)
    obtain ⟨rm, hrm⟩ : ∃ x, S.1[p]? = some x := get_of rfl lp
    have eg : ds.getD k (0, 0) = e := by rw [List.getD_eq_getElem?_getD, he]; rfl
    have ep : S.2.getD k 0 = p := by rw [List.getD_eq_getElem?_getD, hp]; rfl
    have er : S.1.getD p 0 = rm := by rw [List.getD_eq_getElem?_getD, hrm]; rfl
    have smt : Same H2 (upd H2 t (.tup [.int (k : Nat), .ref r1])) := Same.upd nt
    have s3 := s2.trans smt
    have hpm3 := smt _ _ hpm
    have la3 := la.same smt
    have nx : lms ds S (k + 1) = lms ds S k ++ lmOf e S k p := by
      show lms ds S k ++ lmOf (ds.getD k (0, 0)) S k (S.2.getD k 0) = _
      rw [eg, ep]
    refine ⟨t, _, rfl, SqT.of upd_same, rfl, _, _, rfl, _, _, rfl, ⟨r1, _, rfl, s3.tup (hds k r1 e hr0 he), rfl, _, _, rfl, _, _, rfl, rfl, rfl, ?_⟩⟩
    generalize upd H2 t (.tup [.int (k : Nat), .ref r1]) = H4 at s3 hpm3 la3
    refine ⟨_, rfl, _, rfl, b, _, _, _, rfl, rfl, s3.tup h3, nv_at hp, ?_⟩
    refine ⟨_, rfl, _, rfl, r, _, _, _, rfl, rfl, s3.tup h2, nv_at hrm, _, rfl, _, rfl, by show 2 ≤ sizeLine; decide, fun t2 nt2 => ?_⟩
    have st2 := Same.upd (o := .tup [.int (e.1 : Int), .int (e.2 : Int)]) nt2
    have s5 := s3.trans st2
    have hpm5 := st2 _ _ hpm3
    have la5 := la3.same st2
    refine ⟨t2, _, rfl, .inr (SqT.of upd_same), rfl, rfl, _, rfl, ?_⟩
    generalize upd H4 t2 (.tup [.int (e.1 : Int), .int (e.2 : Int)]) = H5 at s5 hpm5 la5
    show if inV (V.int (rm : Int)) [.int (e.1 : Int), .int (e.2 : Int)] = true then _ else _
    have din : inV (V.int (rm : Int)) [.int (e.1 : Int), .int (e.2 : Int)] = decide (rm = e.1 ∨ rm = e.2) := by
      rw [in_pair, ← Bool.decide_or, decide_eq_decide]
      omega
    rw [din]
    by_cases near : rm = e.1 ∨ rm = e.2
    case neg =>
      rw [decide_eq_false near]
      refine iteF ⟨ts, _, _, _, _, _, rfl, s5, hpm5, ?_⟩
      have : lmOf e S k p = [] := by
        unfold lmOf
        rw [er, if_neg near]
      rw [nx, this, List.append_nil]
      exact la5
    rw [decide_eq_true near]
    have lm1 : lmOf e S k p = [(S.1.set p (oth e rm), k, p)] := by
      unfold lmOf
      rw [er, if_pos near]
    refine iteT ⟨_, rfl, _, rfl, r, _, _, _, rfl, rfl, s5.tup h2, nv_at hrm, _, rfl, rfl, _, rfl, ?_⟩
    refine ite_var (v := V.int ((oth e rm : Nat) : Int)) (fun c => ?_) (fun c => ?_) ?_
    · have c : rm = e.1 := by
        have := V.int.inj (of_decide_eq_true c)
        omega
      show some (some (V.int (e.2 : Int))) = _
      unfold oth
      rw [if_pos c]
    · have c : ¬ rm = e.1 := fun z => by
        have := of_decide_eq_false c
        exact this (by rw [z])
      show some (some (V.int (e.1 : Int))) = _
      unfold oth
      rw [if_neg c]
    refine ⟨_, rfl, .inl ⟨rfl, _, SqL.of hpm5⟩, _, rfl, _, rfl, _, rfl, r, S.1, p, oth e rm, rfl, s5.tup h2, lp, by omega, fun H6 q6 s6 h6 => ⟨_, rfl, _, rfl, by show 3 ≤ sizeLine; decide, fun t4 nt4 => ?_⟩⟩
    have st4 := Same.upd (o := .tup [.ref q6, .int (k : Int), .int (p : Int)]) nt4
    have s7 := (s5.trans s6).trans st4
    have hpm7 := st4 _ _ (s6 _ _ hpm5)
    have la7 := ((la5.same s6).same st4).app (x := (S.1.set p (oth e rm), k, p)) upd_same (st4.tup h6)
    generalize upd H6 t4 (.tup [.ref q6, .int (k : Int), .int (p : Int)]) = H7 at s7 hpm7 la7
    have ll := lms_len ds S k
    have lal := la.1
    refine ⟨pm, _, _, rfl, rfl, hpm7, by rw [List.length_map]; exact small1000 (by omega), ?_⟩
    have btp : But pm H7 (upd H7 pm (.lst (ts.map V.ref ++ [.ref t4]))) := But.upd (But.refl _ _) _
    refine ⟨ts ++ [t4], _, _, _, _, _, rfl, s7.at npm, by rw [upd_same, List.map_append]; rfl, ?_⟩
    rw [nx, lm1]
    exact la7.but hpm7 btp
  · rintro σ H2 ⟨ts, y5, y6, y7, y8, y9, rfl, s2, hpm, la⟩
    rw [List.length_map, hlen] at la
    refine ⟨_, rfl, pm, ts.map V.ref, (lms ds S ds.length).map dLm, rfl, SqL.of hpm, dp_lms ts _ la, ?_, .inl ?_, ?_, fun p np => ?_⟩
    · intro d hd d' hd'
      obtain ⟨x, _, rfl⟩ := List.mem_map.mp hd
      obtain ⟨y, _, rfl⟩ := List.mem_map.mp hd'
      exact alike_lm x y
    · intro d hd
      obtain ⟨x, _, rfl⟩ := List.mem_map.mp hd
      exact ⟨_, _, rfl⟩
    · intro d hd
      obtain ⟨x, _, rfl⟩ := List.mem_map.mp hd
      exact dLm_depth x
    · rw [List.zip_map]
      obtain ⟨zl, ez, pz⟩ := perm_of_map _ _ _ (List.mergeSort_perm (List.map (Prod.map V.ref dLm) (ts.zip (lms ds S ds.length))) (dataLe false Prod.snd))
      have pw := sort_pairwise (sortLe_total (listOrd itemOrd) false fun b : V × PyData => keyToks b.2) (List.map (Prod.map V.ref dLm) (ts.zip (lms ds S ds.length)))
      have pw2 : ((List.map (Prod.map V.ref dLm) (ts.zip (lms ds S ds.length))).mergeSort (dataLe false Prod.snd)).Pairwise fun a b => dataLe false Prod.snd a b = true := pw
      rw [ez] at pw2 ⊢
      rw [List.pairwise_map] at pw2
      have sp := Same.upd (o := .lst ((zl.map (Prod.map V.ref dLm)).map Prod.fst)) np
      have lz := la.1
      refine q _ p (zl.map Prod.fst) (zl.map Prod.snd) (s2.trans sp) (s2.free np) ?_ ⟨by rw [List.length_map, List.length_map], fun i t x e1 e2 => ?_⟩ ?_ ?_
      · rw [upd_same, List.map_map, List.map_map]
        rfl
      · rw [List.getElem?_map] at e1 e2
        cases ei : zl[i]? with
        | none => rw [ei] at e1; cases e1
        | some z =>
          rw [ei] at e1 e2
          cases e1
          cases e2
          obtain ⟨j, hj⟩ := List.mem_iff_getElem?.mp (pz.mem_iff.mp (List.mem_of_getElem? ei))
          obtain ⟨j1, j2⟩ := List.getElem?_zip_eq_some.mp hj
          obtain ⟨r2, a1, a2⟩ := la.2 j z.1 z.2 j1 j2
          exact ⟨r2, sp _ _ a1, sp.tup a2⟩
      · have := pz.map Prod.snd
        rwa [List.map_snd_zip (by rw [lz]; exact Nat.le_refl _)] at this
      · unfold Srt
        rw [List.pairwise_map]
        exact pw2
end
end K5

namespace K5
open PySem PySem.Spec PyProof.Rows L2 PySem.W
theorem toks_is : ∀ (l m : List Nat) (s t : List (Int ⊕ List Nat)), keyToksAll (dIs l) ++ s = keyToksAll (dIs m) ++ t → l = m ∧ s = t
  | [], [], s, t, h => by
    simp only [dIs, List.map_nil, keyToksAll, List.cons_append, List.nil_append, List.cons.injEq, true_and] at h
    exact ⟨rfl, h⟩
  | [], y :: m, s, t, h => by
    simp only [dIs, List.map_nil, List.map_cons, keyToksAll, List.cons_append, List.cons.injEq, Sum.inl.injEq] at h
    exact absurd h.1 (by decide)
  | x :: l, [], s, t, h => by
    simp only [dIs, List.map_nil, List.map_cons, keyToksAll, List.cons_append, List.cons.injEq, Sum.inl.injEq] at h
    exact absurd h.1 (by decide)
  | x :: l, y :: m, s, t, h => by
    have h2 : ((x : Int) = (y : Int)) ∧ keyToksAll (dIs l) ++ s = keyToksAll (dIs m) ++ t := by
      simp only [dIs, List.map_cons, keyToksAll, keyToks, List.cons_append, List.nil_append, List.cons.injEq, Sum.inl.injEq, true_and] at h
      exact h
    obtain ⟨a, b⟩ := toks_is l m s t h2.2
    exact ⟨by rw [a, show x = y by omega], b⟩
theorem toks_lm {x y : Lm} (h : keyToks (dLm x) = keyToks (dLm y)) : x = y := by
  obtain ⟨L, d, p⟩ := x
  obtain ⟨M, e, q⟩ := y
  simp only [dLm, keyToks, keyToksAll, List.cons.injEq, true_and] at h
  obtain ⟨a, b⟩ := toks_is L M _ _ h
  simp only [List.cons_append, List.nil_append, List.cons.injEq, Sum.inl.injEq, true_and, and_true] at b
  rw [a, show d = e by omega, show p = q by omega]
theorem le_anti {x y : Lm} (h1 : dataLe false dLm x y = true) (h2 : dataLe false dLm y x = true) : x = y := by
  refine toks_lm ((listOrd itemOrd).total _ _ ?_ ?_)
  · have h2 : (!(listOrd itemOrd).blt (keyToks (dLm x)) (keyToks (dLm y))) = true := h2
    simpa using h2
  · have h1 : (!(listOrd itemOrd).blt (keyToks (dLm y)) (keyToks (dLm x))) = true := h1
    simpa using h1
/-- one order only -/
theorem Srt.unique : ∀ {l m : List Lm}, l.Perm m → Srt l → Srt m → l = m
  | [], m, p, _, _ => p.symm.eq_nil.symm
  | a :: r, [], p, _, _ => by have := p.eq_nil; cases this
  | a :: r, b :: s, p, h1, h2 => by
    obtain ⟨h1a, h1b⟩ := List.pairwise_cons.mp h1
    obtain ⟨h2a, h2b⟩ := List.pairwise_cons.mp h2
    have e : a = b := by
      rcases List.mem_cons.mp (p.mem_iff.mp List.mem_cons_self) with e | q
      · exact e
      · rcases List.mem_cons.mp (p.symm.mem_iff.mp List.mem_cons_self) with e | q2
        · exact e.symm
        · exact le_anti (h1a b q2) (h2a a q)
    subst e
    rw [Srt.unique ((List.perm_cons a).mp p) h1b h2b]
/-- the last moves, in order -/
noncomputable def srtd (ds : List (Nat × Nat)) (S : S2) : List Lm := (lms ds S ds.length).mergeSort (dataLe false dLm)
theorem srtd_is {ds : List (Nat × Nat)} {S : S2} {l : List Lm} (p : l.Perm (lms ds S ds.length)) (h : Srt l) : l = srtd ds S :=
  Srt.unique (p.trans (List.mergeSort_perm _ _).symm) h (sort_pairwise (sortLe_total (listOrd itemOrd) false fun x : Lm => keyToks (dLm x)) _)
theorem srtd_len (ds : List (Nat × Nat)) (S : S2) : (srtd ds S).length ≤ ds.length := by
  unfold srtd
  rw [List.length_mergeSort]
  exact lms_len ds S _
def spCount (K : PySem.W.Frag) : Sp := fun vs H Q _ => ∃ (a s : Addr) (ds : List (Nat × Nat)) (n : Nat) (S : S2), vs = [.ref a, .ref s] ∧ HouseAt K H a ds ∧ Tree n ds ∧ n ≤ 1000 ∧ StateAt K H s S ∧ StOk n ds S ∧
  ∀ H', Same H H' → Q (.int (((srtd ds S).length * (S.1.length - 1) : Nat) : Int)) H'
def spBefore (K : PySem.W.Frag) : Sp := fun vs H Q _ => ∃ (s r : Addr) (S : S2) (L : List Nat) (d p : Nat), vs = [.ref s, .ref r, .int (d : Int), .int (p : Int)] ∧ StateAt K H s S ∧ SqT K H r (nv L) ∧ d < S.2.length ∧ S.2.length ≤ 1000 ∧
  ∀ (H' : Hp) (q : Addr), Same H H' → StateAt K H' q (L, S.2.set d p) → Q (.ref q) H'
def spAsMany (K : PySem.W.Frag) : Sp := fun vs H Q _ => ∃ (a s t : Addr) (ds : List (Nat × Nat)) (n : Nat) (S S' : S2), vs = [.ref a, .ref s, .ref t] ∧ HouseAt K H a ds ∧ Tree n ds ∧ n ≤ 1000 ∧ StateAt K H s S ∧ StateAt K H t S' ∧ StOk n ds S' ∧ S'.1.length = S.1.length ∧ ∀ H', Same H H' → Q .non H'
section
variable {P : Program} {w : World} {K : PySem.W.Frag}
      {mg : Str → Option Value} {base : Heap}
theorem ok_state_before (T : Bl mg) (D : Def K mg "state_before" s_state_before) (C_replaced : Cal P w K mg base "replaced" ["values", "index", "value"] 1 (spRepl K)) : Cal P w K mg base "state_before" ["state", "rooms", "door", "before"] 2 (spBefore K) := by
  refine D.ok sc_state_before (fun _ _ _ _ _ _ us hl => match us, hl with | [_, _, _, _], _ => rfl) (fun vs H Q E h => ?_) (fun f cdv A outer s0 H vs Q E hr h => ?_)
  · obtain ⟨s, r, S, L, d, p, rfl, _⟩ := h
    rfl
  obtain ⟨s, r, S, L, d, p, rfl, ⟨ra, b, h1, h2, h3⟩, hr2, hd, few, q⟩ := h
  obtain ⟨f_replaced, fd_replaced, g_replaced, k_replaced, b_replaced, G_replaced⟩ := C_replaced
  refine ⟨_, (pss_one (ps_ret (pe_tup (pa_cons (pv 1) (pa_cons (pe_call G_replaced (hr.mono (by decide)) (by rfl) g_replaced k_replaced b_replaced .nil pass0 (pa_cons (pe_ix ix_tup (pv 0) pe_int (fun _ _ => rfl)) (pa_cons (pv 2) (pa_cons (pv 3) pa_nil)))) pa_nil))))), ?_⟩
  refine ⟨_, rfl, _, rfl, s, _, _, _, rfl, rfl, h1, atI_nat (j := 1) rfl, _, rfl, _, rfl, b, S.2, d, p, rfl, h3, hd, few, fun H1 q1 s1 hq1 => ⟨by show 2 ≤ sizeLine; decide, fun t nt => ?_⟩⟩
  have st := Same.upd (o := .tup [.ref r, .ref q1]) nt
  exact q _ t (s1.trans st) ⟨r, q1, SqT.of upd_same, st.tup (s1.tup hr2), st.tup hq1⟩
theorem ok_need_state_of_as_many (T : Bl mg) (D : Def K mg "need_state_of_as_many" s_need_state_of_as_many) (C_need_state : Cal P w K mg base "need_state" ["house", "state"] 7 (spSt K)) : Cal P w K mg base "need_state_of_as_many" ["house", "state", "other"] 8 (spAsMany K) := by
  refine D.ok sc_need_state_of_as_many (fun _ _ _ _ _ _ us hl => match us, hl with | [_, _, _], _ => rfl) (fun vs H Q E h => ?_) (fun f cdv A outer s0 H vs Q E hr h => ?_)
  · obtain ⟨a, s, t, ds, n, S, S', rfl, _⟩ := h
    rfl
  obtain ⟨a, s, t, ds, n, S, S', rfl, hH, tree, hn, st, st', ok', el, q⟩ := h
  obtain ⟨r, b, h1, h2, h3⟩ := id st
  obtain ⟨r', b', h1', h2', h3'⟩ := id st'
  obtain ⟨f_need_state, fd_need_state, g_need_state, k_need_state, b_need_state, G_need_state⟩ := C_need_state
  refine ⟨_, (pss_cons (ps_expr (pe_call G_need_state (hr.mono (by decide)) (by rfl) g_need_state k_need_state b_need_state .nil pass0 (pa_cons (pv 0) (pa_cons (pv 2) pa_nil))))
    (pss_one (ps_if (pt_cmpR op_ne (pe_callB call_len_seq (by rfl) T.len PySem.boot_len (pa_cons (pe_ix ix_tup (pv 2) pe_int (fun _ _ => rfl)) pa_nil)) (pe_callB call_len_seq (by rfl) T.len PySem.boot_len (pa_cons (pe_ix ix_tup (pv 1) pe_int (fun _ _ => rfl)) pa_nil)) (nomark _)) pss_never pss_nil))), ?_⟩
  refine ⟨_, rfl, _, rfl, a, t, ds, n, S', rfl, hH, tree, hn, st', ok', fun H1 s1 => ?_⟩
  refine ⟨_, rfl, t, _, _, _, rfl, rfl, s1.tup h1', atI_nat (j := 0) rfl, r', _, rfl, .inr (s1.tup h2'), _, rfl, s, _, _, _, rfl, rfl, s1.tup h1, atI_nat (j := 0) rfl, r, _, rfl, .inr (s1.tup h2), rfl, _, rfl, ?_⟩
  rw [nv_len, nv_len, el, decide_eq_true rfl]
  exact iteF (q H1 s1)
theorem ok_count_previous (T : Bl mg) (D : Def K mg "count_previous" s_count_previous) (C_need_state : Cal P w K mg base "need_state" ["house", "state"] 7 (spSt K)) (C_last_moves : Cal P w K mg base "last_moves" ["house", "state"] 2 (spLast K)) : CalK P w K mg base "count_previous" ["house", "state"] 8 (spCount K) ["state", "house"] rev2 rev2 := by
  refine D.okK sc_count_previous (fun _ _ _ _ _ _ us ws hl => match us, ws, hl with | [], [_, _], _ => rfl) rev2_vals (fun _ _ _ _ _ _ us hl => match us, hl with | [_, _], _ => rfl) (fun vs H Q E h => ?_) (fun f cdv A outer s0 H vs Q E hr h => ?_)
  · obtain ⟨a, s, ds, n, S, rfl, _⟩ := h
    rfl
  obtain ⟨a, s, ds, n, S, rfl, hH, tree, hn, st, ok, q⟩ := h
  obtain ⟨r, b, h1, h2, h3⟩ := id st
  have one := ok.one
  obtain ⟨f_need_state, fd_need_state, g_need_state, k_need_state, b_need_state, G_need_state⟩ := C_need_state
  obtain ⟨f_last_moves, fd_last_moves, g_last_moves, k_last_moves, b_last_moves, G_last_moves⟩ := C_last_moves
  refine ⟨_, (pss_cons (ps_expr (pe_call G_need_state (hr.mono (by decide)) (by rfl) g_need_state k_need_state b_need_state .nil pass0 (pa_cons (pv 0) (pa_cons (pv 1) pa_nil))))
    (pss_one (ps_ret (pe_op op_mul (pe_callB call_len_seq (by rfl) T.len PySem.boot_len (pa_cons (pe_call G_last_moves (hr.mono (by decide)) (by rfl) g_last_moves k_last_moves b_last_moves .nil pass0 (pa_cons (pv 0) (pa_cons (pv 1) pa_nil))) pa_nil)) (pe_op op_sub (pe_callB call_len_seq (by rfl) T.len PySem.boot_len (pa_cons (pe_ix ix_tup (pv 1) pe_int (fun _ _ => rfl)) pa_nil)) pe_int))))), ?_⟩
  refine ⟨_, rfl, _, rfl, a, s, ds, n, S, rfl, hH, tree, hn, st, ok, fun H1 s1 => ?_⟩
  refine ⟨_, rfl, _, rfl, a, s, ds, n, S, rfl, hH.same s1, tree, hn, st.same s1, ok, fun H2 q2 ts l s2 nq2 hq2 la pl so => ?_⟩
  have el := srtd_is pl so
  subst el
  have s12 := s1.trans s2
  refine ⟨q2, _, rfl, .inl (SqL.of hq2), _, rfl, s, _, _, _, rfl, rfl, s12.tup h1, atI_nat (j := 0) rfl, r, _, rfl, .inr (s12.tup h2), _, _, rfl, rfl, ?_⟩
  have sl := srtd_len ds S
  have hdn := tree.len
  have e : (((ts.map V.ref).length : Nat) : Int) * (((nv S.1).length : Int) - 1) = (((srtd ds S).length * (S.1.length - 1) : Nat) : Int) := by
    rw [List.length_map, la.1, nv_len, Int.natCast_mul, Int.natCast_sub one]
    rfl
  have lt : (ts.map V.ref).length ≤ 1000 := by
    rw [List.length_map, la.1]
    omega
  refine ⟨_, _, rfl, rfl, .inl ⟨by omega, by omega⟩, ?_⟩
  exact (congrArg (fun z => Q (V.int z) H2) e).mpr (q _ s12)
end
end K5

namespace K5
open PySem PySem.Spec PyProof.Rows L2 PySem.W
theorem mem_lms {ds : List (Nat × Nat)} {S : S2} {x : Lm} : ∀ {k : Nat}, x ∈ lms ds S k → x.2.1 < k ∧ x.2.2 = S.2.getD x.2.1 0 ∧ x ∈ lmOf (ds.getD x.2.1 (0, 0)) S x.2.1 x.2.2
  | 0, h => nomatch h
  | k + 1, h => by
    have h : x ∈ lms ds S k ++ lmOf (ds.getD k (0, 0)) S k (S.2.getD k 0) := h
    rcases List.mem_append.mp h with h | h
    · obtain ⟨a, b, c⟩ := mem_lms h
      exact ⟨by omega, b, c⟩
    · have h0 := h
      unfold lmOf at h
      split at h
      · rw [List.mem_singleton] at h
        subst h
        exact ⟨Nat.lt_succ_self _, rfl, h0⟩
      · cases h
/-- the person whom the door barred before -/
def bef (o p : Nat) : Nat := if o < p then o else o + 1
def spPrevAt (K : PySem.W.Frag) : Sp := fun vs H Q _ => ∃ (a s : Addr) (ds : List (Nat × Nat)) (n i : Nat) (S : S2) (x : Lm), vs = [.ref a, .ref s, .int (i : Int)] ∧ HouseAt K H a ds ∧ Tree n ds ∧ n ≤ 1000 ∧ StateAt K H s S ∧ StOk n ds S ∧ i < (srtd ds S).length * (S.1.length - 1) ∧
  (srtd ds S)[i / (S.1.length - 1)]? = some x ∧ ∀ (H' : Hp) (q : Addr), Same H H' → StateAt K H' q (x.1, S.2.set x.2.1 (bef (i % (S.1.length - 1)) x.2.2)) → Q (.ref q) H'
section
variable {P : Program} {w : World} {K : PySem.W.Frag}
      {mg : Str → Option Value} {base : Heap}
end
end K5

namespace K5
open PySem PySem.Spec PyProof.Rows L2 PySem.W
theorem eqvAll_is : ∀ l m : List Nat, PyData.eqvAll (dIs l) (dIs m) = decide (l = m)
  | [], [] => by simp [dIs, PyData.eqvAll]
  | [], _ :: _ => by simp [dIs, PyData.eqvAll]
  | _ :: _, [] => by simp [dIs, PyData.eqvAll]
  | x :: l, y :: m => by
    have ih := eqvAll_is l m
    have hx : (((x : Int) == (y : Int)) : Bool) = decide (x = y) := by
      by_cases c : x = y
      · subst c; simp
      · rw [decide_eq_false c]
        simp
        omega
    unfold dIs at ih ⊢
    simp only [List.map_cons, PyData.eqvAll, PyData.eqv, ih, hx]
    by_cases c : x = y <;> by_cases d : l = m <;> simp [c, d]
theorem dS_eqv (A B : S2) : PyData.eqv (dS A) (dS B) = decide (A = B) := by
  obtain ⟨a, b⟩ := A
  obtain ⟨c, d⟩ := B
  simp only [dS, PyData.eqv, PyData.eqvAll, eqvAll_is, Bool.and_true, Prod.mk.injEq, Bool.decide_and]
/-- the state is one move before, by the last move x -/
def Bfr (S S' : S2) (x : Lm) : Prop := S'.2.getD x.2.1 0 ≠ x.2.2 ∧ S' = (x.1, S.2.set x.2.1 (S'.2.getD x.2.1 0))
/-- its number among the persons whom the door can have barred -/
def unbef (b p : Nat) : Nat := if b < p then b else b - 1
def spPrevIdx (K : PySem.W.Frag) : Sp := fun vs H Q _ => ∃ (a s t : Addr) (ds : List (Nat × Nat)) (n : Nat) (S S' : S2), vs = [.ref a, .ref s, .ref t] ∧ HouseAt K H a ds ∧ Tree n ds ∧ n ≤ 1000 ∧ StateAt K H s S ∧ StOk n ds S ∧ StateAt K H t S' ∧ StOk n ds S' ∧ S'.1.length = S.1.length ∧
  (∀ H', Same H H' → (∀ (k : Nat) (x : Lm), (srtd ds S)[k]? = some x → ¬ Bfr S S' x) → Q .non H') ∧
  (∀ (H' : Hp) (k : Nat) (x : Lm), Same H H' → (srtd ds S)[k]? = some x → Bfr S S' x → (∀ (j : Nat) (y : Lm), j < k → (srtd ds S)[j]? = some y → ¬ Bfr S S' y) → Q (.int ((k * (S.1.length - 1) + unbef (S'.2.getD x.2.1 0) x.2.2 : Nat) : Int)) H')
section
variable {P : Program} {w : World} {K : PySem.W.Frag}
      {mg : Str → Option Value} {base : Heap}
theorem ok_previous_index (T : Bl mg) (D : Def K mg "previous_index" s_previous_index) (C_need_state : Cal P w K mg base "need_state" ["house", "state"] 7 (spSt K)) (C_need_state_of_as_many : Cal P w K mg base "need_state_of_as_many" ["house", "state", "other"] 8 (spAsMany K))
    (C_last_moves : Cal P w K mg base "last_moves" ["house", "state"] 2 (spLast K)) (C_state_before : Cal P w K mg base "state_before" ["state", "rooms", "door", "before"] 2 (spBefore K)) : CalK P w K mg base "previous_index" ["house", "state", "previous"] 9 (spPrevIdx K) ["previous", "state", "house"] rev3 rev3 := by
  refine D.okK sc_previous_index (fun _ _ _ _ _ _ us ws hl => match us, ws, hl with | [], [_, _, _], _ => rfl) rev3_vals (fun _ _ _ _ _ _ us hl => match us, hl with | [_, _, _], _ => rfl) (fun vs H Q E h => ?_) (fun f cdv A outer s0 H vs Q E hr h => ?_)
  · obtain ⟨a, s, t, ds, n, S, S', rfl, _⟩ := h
    rfl
  obtain ⟨a, s, t, ds, n, S, S', rfl, hH, tree, hn, st, ok, st', ok', el, q1, q2⟩ := h
  obtain ⟨r, b, h1, h2, h3⟩ := id st
  obtain ⟨r', b', h1', h2', h3'⟩ := id st'
  have one := ok.one
  have few := ok.few
  have hdn := tree.len
  have drs := ok.doors
  have drs' := ok'.doors
  have sl := srtd_len ds S
  obtain ⟨f_need_state, fd_need_state, g_need_state, k_need_state, b_need_state, G_need_state⟩ := C_need_state
  obtain ⟨f_need_state_of_as_many, fd_need_state_of_as_many, g_need_state_of_as_many, k_need_state_of_as_many, b_need_state_of_as_many, G_need_state_of_as_many⟩ := C_need_state_of_as_many
  obtain ⟨f_last_moves, fd_last_moves, g_last_moves, k_last_moves, b_last_moves, G_last_moves⟩ := C_last_moves
  obtain ⟨f_state_before, fd_state_before, g_state_before, k_state_before, b_state_before, G_state_before⟩ := C_state_before
  refine ⟨_, (pss_cons (ps_expr (pe_call G_need_state (hr.mono (by decide)) (by rfl) g_need_state k_need_state b_need_state .nil pass0 (pa_cons (pv 0) (pa_cons (pv 1) pa_nil))))
    (pss_cons (ps_expr (pe_call G_need_state_of_as_many (hr.mono (by decide)) (by rfl) g_need_state_of_as_many k_need_state_of_as_many b_need_state_of_as_many .nil pass0 (pa_cons (pv 0) (pa_cons (pv 1) (pa_cons (pv 2) pa_nil)))))
    (pss_cons (ps_for PassesOwn.never rfl (pi_enum (by rfl) T.enumerate (pa_cons (pe_call G_last_moves (hr.mono (by decide)) (by rfl) g_last_moves k_last_moves b_last_moves .nil pass0 (pa_cons (pv 0) (pa_cons (pv 1) pa_nil))) pa_nil)) (pg_tup (n := 2) rfl (pgs_cons (pg_name (i := 3) sc_previous_index.nd rfl (.inl rfl)) (pgs_cons (pg_tup (n := 3) rfl (pgs_cons (pg_name (i := 4) sc_previous_index.nd rfl (.inl rfl)) (pgs_cons (pg_name (i := 5) sc_previous_index.nd rfl (.inl rfl)) (pgs_cons (pg_name (i := 6) sc_previous_index.nd rfl (.inl rfl)) pgs_nil)))) pgs_nil)))
    (pss_cons (ps_set (i := 7) sc_previous_index.nd rfl (.inl rfl) (pe_ix ix_tup (pe_ix ix_tup (pv 2) pe_int (fun _ _ => rfl)) (pv 5) (fun _ _ => rfl)))
    (pss_one (ps_if (PW.pt (pw_and (pt_cmpR op_ne (pv 7) (pv 6) (nomark _)) (pw_and1 (pt_cmpR (op_eqD hr.units) (pv 2) (pe_call G_state_before (hr.mono (by decide)) (by rfl) g_state_before k_state_before b_state_before .nil pass0 (pa_cons (pv 1) (pa_cons (pv 4) (pa_cons (pv 5) (pa_cons (pv 7) pa_nil))))) (nomark _))))) (pss_cons (ps_set (i := 8) sc_previous_index.nd rfl (.inl rfl) (pe_ifExp (pt_cmpR op_lt (pv 7) (pv 6) (nomark _)) (pv 7) (pe_op op_sub (pv 7) pe_int)))
    (pss_one (ps_ret (pe_op op_add (pe_op op_mul (pv 3) (pe_op op_sub (pe_callB call_len_seq (by rfl) T.len PySem.boot_len (pa_cons (pe_ix ix_tup (pv 1) pe_int (fun _ _ => rfl)) pa_nil)) pe_int)) (pv 8))))) pss_nil))))
    (pss_one (ps_ret pe_non))))), ?_⟩
  refine ⟨_, rfl, _, rfl, a, s, ds, n, S, rfl, hH, tree, hn, st, ok, fun H1 s1 => ?_⟩
  refine ⟨_, rfl, _, rfl, _, rfl, a, s, t, ds, n, S, S', rfl, hH.same s1, tree, hn, st.same s1, st'.same s1, ok', el, fun H2 s2 => ?_⟩
  have s12 := s1.trans s2
  refine ⟨_, rfl, _, rfl, a, s, ds, n, S, rfl, hH.same s12, tree, hn, st.same s12, ok, fun H3 q3 ts l s3 nq3 hq3 la pl so => ?_⟩
  have es := srtd_is pl so
  subst es
  have s13 := s12.trans s3
  refine ⟨q3, _, rfl, SqL.of hq3, ?_⟩
  refine for_it (walk_enum (K := K) (a := q3) (xs := ts.map V.ref)) (fun k σ H4 => ∃ (y3 y4 y5 y6 y7 y8 : Option V), σ = [some (.ref a), some (.ref s), some (.ref t), y3, y4, y5, y6, y7, y8] ∧ Same H3 H4 ∧ ∀ (j : Nat) (y : Lm), j < k → (srtd ds S)[j]? = some y → ¬ Bfr S S' y)
    ⟨_, _, _, _, _, _, rfl, Same.refl _, fun j y h => absurd h (Nat.not_lt_zero _)⟩ (fun i σ H1 _ ⟨_, _, _, _, _, _, _, sm, _⟩ => SqL.of (sm _ _ hq3)) ?_ ?_
  · rintro k x σ H4 H5 hk ⟨y3, y4, y5, y6, y7, y8, rfl, s4, no⟩ ⟨tt, x1, x2, rfl, nt, rfl, ex1, ex2⟩
    cases ex1
    have hk' : k < (srtd ds S).length := by
      rw [List.length_map, la.1] at hk
      exact hk
    obtain ⟨tx, htx⟩ : ∃ t, ts[k]? = some t := get_of la.1 hk'
    obtain ⟨x, hx⟩ : ∃ x, (srtd ds S)[k]? = some x := get_of rfl hk'
    have ex2' : V.ref tx = x2 := by
      have ex2 : (ts.map V.ref)[k]? = some x2 := ex2
      rw [List.getElem?_map, htx] at ex2
      exact Option.some.inj ex2
    subst ex2'
    obtain ⟨rx, hx1, hx2⟩ := la.2 _ tx x htx hx
    obtain ⟨dl, _, _⟩ := mem_lms (pl.mem_iff.mp (List.mem_of_getElem? hx))
    have smt : Same H4 (upd H4 tt (.tup [.int (k : Nat), .ref tx])) := Same.upd nt
    have s5 := s4.trans smt
    refine ⟨tt, _, rfl, SqT.of upd_same, rfl, _, _, rfl, _, _, rfl, ⟨tx, _, rfl, SqT.of (s5 _ _ hx1), rfl, _, _, rfl, _, _, rfl, _, _, rfl, rfl, rfl, ?_⟩⟩
    generalize upd H4 tt (.tup [.int (k : Nat), .ref tx]) = H6 at s5
    have s6 := s13.trans s5
    obtain ⟨bf, hbf⟩ : ∃ bf, S'.2[x.2.1]? = some bf := get_of drs' dl
    have eb : S'.2.getD x.2.1 0 = bf := by rw [List.getD_eq_getElem?_getD, hbf]; rfl
    refine ⟨_, rfl, t, _, _, _, rfl, rfl, s6.tup h1', atI_nat (j := 1) rfl, _, rfl, b', _, _, _, rfl, rfl, s6.tup h3', nv_at hbf, ?_⟩
    refine ⟨_, rfl, _, rfl, rfl, _, rfl, ?_⟩
    have step : ¬ Bfr S S' x → ∀ (j : Nat) (y : Lm), j < k + 1 → (srtd ds S)[j]? = some y → ¬ Bfr S S' y := fun nb j y hj hy => by
      rcases Nat.lt_succ_iff_lt_or_eq.mp hj with hj | hj
      · exact no j y hj hy
      · rw [hj, hx] at hy
        cases hy
        exact nb
    by_cases cb : bf = x.2.2
    · rw [decide_eq_true (show V.int (bf : Int) = V.int (x.2.2 : Int) by rw [cb])]
      exact iteF (iteF ⟨_, _, _, _, _, _, rfl, s5, step fun z => z.1 (by rw [eb, cb])⟩)
    rw [decide_eq_false (show ¬ V.int (bf : Int) = V.int (x.2.2 : Int) from fun z => cb (by have := V.int.inj z; omega))]
    refine iteT ⟨_, rfl, _, rfl, _, rfl, _, rfl, _, rfl, s, rx, S, x.1, x.2.1, bf, rfl, st.same s6, s5.tup hx2, by omega, by omega, fun H7 q7 s7 stq => ?_⟩
    refine ⟨dS S', dS (x.1, S.2.set x.2.1 bf), dp_S ((st'.same s6).same s7), dp_S stq, dS_shaped _, dS_shaped _, _, rfl, ?_⟩
    rw [dS_eqv]
    by_cases ce : S' = (x.1, S.2.set x.2.1 bf)
    case neg =>
      rw [decide_eq_false ce]
      exact iteF ⟨_, _, _, _, _, _, rfl, s5.trans s7, step fun z => ce (by have := z.2; rwa [eb] at this)⟩
    rw [decide_eq_true ce]
    have bfr : Bfr S S' x := ⟨by rw [eb]; exact cb, by rw [eb]; exact ce⟩
    have s8 := s6.trans s7
    have fin := q2 H7 k x s8 hx bfr fun j y hj hy => no j y hj hy
    rw [eb] at fin
    have e1 : (k : Int) * (((nv S.1).length : Int) - 1) = ((k * (S.1.length - 1) : Nat) : Int) := by
      rw [nv_len, Int.natCast_mul, Int.natCast_sub one]
      rfl
    refine iteT ⟨_, rfl, _, rfl, _, _, rfl, rfl, _, rfl, ?_⟩
    by_cases c : bf < x.2.2
    · rw [decide_eq_true (show (bf : Int) < (x.2.2 : Int) by omega)]
      refine iteT ⟨_, rfl, _, rfl, _, rfl, s, _, _, _, rfl, rfl, s8.tup h1, atI_nat (j := 0) rfl, r, _, rfl, .inr (s8.tup h2), _, _, rfl, rfl, _, _, rfl, rfl, .inl ⟨by omega, by omega⟩, _, rfl, _, _, rfl, rfl, ?_⟩
      have e2 : (k : Int) * (((nv S.1).length : Int) - 1) + (bf : Int) = ((k * (S.1.length - 1) + unbef bf x.2.2 : Nat) : Int) := by
        unfold unbef
        rw [if_pos c, e1, Int.natCast_add]
      exact (congrArg (fun z => Q (V.int z) H7) e2).mpr fin
    · rw [decide_eq_false (show ¬ (bf : Int) < (x.2.2 : Int) by omega)]
      have hb1 : 1 ≤ bf := by omega
      refine iteF ⟨_, rfl, _, _, rfl, rfl, _, rfl, _, rfl, s, _, _, _, rfl, rfl, s8.tup h1, atI_nat (j := 0) rfl, r, _, rfl, .inr (s8.tup h2), _, _, rfl, rfl, _, _, rfl, rfl, .inl ⟨by omega, by omega⟩, _, rfl, _, _, rfl, rfl, ?_⟩
      have e2 : (k : Int) * (((nv S.1).length : Int) - 1) + ((bf : Int) - 1) = ((k * (S.1.length - 1) + unbef bf x.2.2 : Nat) : Int) := by
        unfold unbef
        rw [if_neg c, e1, Int.natCast_add, Int.natCast_sub hb1]
        rfl
      exact (congrArg (fun z => Q (V.int z) H7) e2).mpr fin
  · rintro σ H4 ⟨y3, y4, y5, y6, y7, y8, rfl, s4, no⟩
    rw [List.length_map, la.1] at no
    exact q1 H4 (s13.trans s4) fun k x hx => no k x (get_lt hx) hx
end
end K5

namespace K5
open PySem PySem.Spec PyProof.Rows L2
/-- the first k rooms that are their own mark -/
def rt (M : List Nat) (k : Nat) : List Nat := (List.range k).filter fun x => decide (M[x]? = some x)
theorem mem_rt {M : List Nat} {k x : Nat} : x ∈ rt M k ↔ x < k ∧ M[x]? = some x := by
  unfold rt
  rw [List.mem_filter, List.mem_range, decide_eq_true_eq]
theorem Mk.self {n ds S M J} (h : Mk n ds S M J) {x m : Nat} (e : M[x]? = some m) : M[m]? = some m := by
  obtain ⟨le, c⟩ := h.le x m e
  have hx : x < n := by have := get_lt e; rwa [h.len] at this
  have e2 := h.con c
  rw [h.get (show m < n by omega), ← e2, List.getD_eq_getElem?_getD, e]
  rfl
/-- marks, and one root less for each door joined -/
def MkC (n : Nat) (ds : List (Nat × Nat)) (S : S2) (M J : List Nat) : Prop := Mk n ds S M J ∧ (rt M n).length + J.length = n
theorem rt_join {n : Nat} {M : List Nat} {lo hi : Nat} (hl : M[lo]? = some lo) (hh : M[hi]? = some hi) (ne : lo ≠ hi) (hn : hi < n) : (rt (join M lo hi) n).length + 1 = (rt M n).length := by
  have e : rt (join M lo hi) n = (rt M n).erase hi := by
    have nd : (rt M n).Nodup := List.nodup_range.filter _
    rw [nd.erase_eq_filter]
    unfold rt
    rw [List.filter_filter]
    refine List.filter_congr fun x _ => ?_
    unfold join
    rw [List.getElem?_map]
    cases c : M[x]? with
    | none => simp
    | some v =>
      by_cases cv : v = hi
      · subst cv
        have h1 : ¬ lo = x := fun z => by
          subst z
          rw [hl] at c
          exact ne (Option.some.inj c)
        have h2 : ¬ (v = x ∧ x ≠ v) := fun z => z.2 z.1.symm
        simp [h1]
        omega
      · simp [cv]
        omega
  have m : hi ∈ rt M n := mem_rt.mpr ⟨hn, hh⟩
  rw [e, List.length_erase_of_mem m]
  have := List.length_pos_of_mem m
  omega
theorem MkC.start {ds : List (Nat × Nat)} {S : S2} (n : Nat) : MkC n ds S (List.range n) [] := by
  refine ⟨.start n, ?_⟩
  have : rt (List.range n) n = List.range n := by
    unfold rt
    rw [List.filter_eq_self]
    intro x hx
    rw [List.mem_range] at hx
    rw [List.getElem?_range hx]
    exact decide_eq_true rfl
  rw [this, List.length_range]
  rfl
theorem MkC.step {n : Nat} {ds : List (Nat × Nat)} {S : S2} {M J : List Nat} (T : Tree n ds) (h : MkC n ds S M J) {d a b p r : Nat} (hd : ds[d]? = some (a, b)) (ne : M.getD a 0 ≠ M.getD b 0) (hp : S.2[d]? = some p) (hr : S.1[p]? = some r) (hrn : r < n) (near : M.getD r 0 = M.getD a 0 ∨ M.getD r 0 = M.getD b 0) :
    MkC n ds S (join M (min (M.getD a 0) (M.getD b 0)) (max (M.getD a 0) (M.getD b 0))) (d :: J) := by
  refine ⟨h.1.step T hd ne hp hr hrn near, ?_⟩
  obtain ⟨la, lb, _, _⟩ := (show Joins ds d a b from .inl hd).lt T
  have sa := h.1.self (h.1.get la)
  have sb := h.1.self (h.1.get lb)
  have l1 := h.1.lo la
  have l2 := h.1.lo lb
  generalize M.getD a 0 = ma at *
  generalize M.getD b 0 = mb at *
  have hmin : M[min ma mb]? = some (min ma mb) := by
    by_cases c : ma ≤ mb
    · rw [Nat.min_eq_left c]
      exact sa
    · rw [Nat.min_eq_right (by omega)]
      exact sb
  have hmax : M[max ma mb]? = some (max ma mb) := by
    by_cases c : ma ≤ mb
    · rw [Nat.max_eq_right c]
      exact sb
    · rw [Nat.max_eq_left (by omega)]
      exact sa
  have := rt_join (n := n) hmin hmax (by omega) (by omega)
  have := h.2
  rw [List.length_cons]
  omega
def spMarks (K : PySem.W.Frag) : Sp := fun vs H Q _ => ∃ (a s : Addr) (ds : List (Nat × Nat)) (n : Nat) (S : S2), vs = [.ref a, .ref s] ∧ HouseAt K H a ds ∧ Tree n ds ∧ n ≤ 1000 ∧ StateAt K H s S ∧ StOk n ds S ∧
  ∀ (H' : Hp) (q : Addr) (M J : List Nat), Same H H' → H q = none → H' q = some (.lst (nv M)) → MkC n ds S M J → (∀ d, d < ds.length → Closed ds S M d) → Q (.ref q) H'
theorem join_nv (M : List Nat) (lo hi : Nat) (i : Nat) {x : Nat} (h : M[i]? = some x) : (join M lo hi).take (i + 1) = (join M lo hi).take i ++ [if x = hi then lo else x] := by
  have hl := get_lt h
  have : (join M lo hi)[i]? = some (if x = hi then lo else x) := by unfold join; rw [List.getElem?_map, h]; rfl
  rw [List.take_succ, this]
  rfl
section
variable {P : Program} {w : World} {K : PySem.W.Frag}
      {mg : Str → Option Value} {base : Heap}
theorem ok_group_marks (T : Bl mg) (D : Def K mg "group_marks" s_group_marks) : Cal P w K mg base "group_marks" ["house", "state"] 1 (spMarks K) := by
  refine D.ok sc_group_marks (fun _ _ _ _ _ _ us hl => match us, hl with | [_, _], _ => rfl) (fun vs H Q E h => ?_) (fun f cdv A outer s H vs Q E hr h => ?_)
  · obtain ⟨a, s, ds, n, S, rfl, _⟩ := h
    rfl
  obtain ⟨a, s, ds, n, S, rfl, hH, tree, hn, st, ok, q⟩ := h
  obtain ⟨rs, hrs, hlen, hds⟩ := id hH
  obtain ⟨r, b, h1, h2, h3⟩ := id st
  have hdn := tree.len
  refine ⟨_, (pss_cons (ps_asg (pv 1) (pg_tup (n := 2) rfl (pgs_cons (pg_name (i := 2) sc_group_marks.nd rfl (.inl rfl)) (pgs_cons (pg_name (i := 3) sc_group_marks.nd rfl (.inl rfl)) pgs_nil))))
    (pss_cons (ps_set (i := 4) sc_group_marks.nd rfl (.inl rfl) (pe_listRg rfl (by rfl) T.list (prg_1 (by rfl) T.range (pe_op op_add (pe_callB call_len_seq (by rfl) T.len PySem.boot_len (pa_cons (pv 0) pa_nil)) pe_int))))
    (pss_cons (ps_set (i := 5) sc_group_marks.nd rfl (.inl rfl) pe_bl)
    (pss_cons (ps_while PassesOwn.never (pt_truth (pv 5) (by intro _; rfl)) (pss_cons (ps_set (i := 5) sc_group_marks.nd rfl (.inl rfl) pe_bl)
    (pss_one (ps_for PassesOwn.never rfl (pi_enumT (by rfl) T.enumerate (pa_cons (pv 0) pa_nil)) (pg_tup (n := 2) rfl (pgs_cons (pg_name (i := 6) sc_group_marks.nd rfl (.inl rfl)) (pgs_cons (pg_tup (n := 2) rfl (pgs_cons (pg_name (i := 7) sc_group_marks.nd rfl (.inl rfl)) (pgs_cons (pg_name (i := 8) sc_group_marks.nd rfl (.inl rfl)) pgs_nil))) pgs_nil)))
    (pss_cons (ps_set (i := 9) sc_group_marks.nd rfl (.inr rfl) (pe_callB (call_min2 rfl) (by rfl) T.min (by decide +kernel) (pa_cons (pe_ix ix_list (pv 4) (pv 7) (fun _ _ => rfl)) (pa_cons (pe_ix ix_list (pv 4) (pv 8) (fun _ _ => rfl)) pa_nil))))
    (pss_cons (ps_set (i := 10) sc_group_marks.nd rfl (.inr rfl) (pe_callB (call_max2 rfl) (by rfl) T.max (by decide +kernel) (pa_cons (pe_ix ix_list (pv 4) (pv 7) (fun _ _ => rfl)) (pa_cons (pe_ix ix_list (pv 4) (pv 8) (fun _ _ => rfl)) pa_nil))))
    (pss_one (ps_if (PW.pt (pw_and (pt_cmpR op_ne (pv 9) (pv 10) (nomark _)) (pw_and1 (pt_cmpR op_in_seq (pe_ix ix_list (pv 4) (pe_ix ix_tup (pv 2) (pe_ix ix_tup (pv 3) (pv 6) (fun _ _ => rfl)) (fun _ _ => rfl)) (fun _ _ => rfl)) (pe_tup (pa_cons (pv 9) (pa_cons (pv 10) pa_nil))) (by rfl))))) (pss_cons (ps_setLc (i := 4) (own := [("mark", 11)]) (g := gName 11)  rfl sc_group_marks.nd rfl rfl (sw_true rfl rfl rfl (by decide +kernel)) (pi_list (pv 4)) (blkOk_by (N := N_group_marks) (sc := defScope s_group_marks) (own := [("mark", 11)]) (by decide +kernel)) (fun _ _ _ _ _ => (pg_name (i := 11) sc_group_marks.nd rfl (.inl rfl) (.inr rfl))) (fun _ _ _ _ _ => pts_nil) (fun _ _ _ _ _ => (pe_ifExp (pt_cmpR op_eq (pv 11) (pv 10) (nomark _)) (pv 9) (pv 11))))
    (pss_one (ps_set (i := 5) sc_group_marks.nd rfl (.inl rfl) pe_bl))) pss_nil))))))))
    (pss_one (ps_ret (pv 4))))))), ?_⟩
  have e1 : (((rs.map V.ref).length : Nat) : Int) + 1 = ((n : Nat) : Int) := by
    rw [List.length_map, hlen]
    omega
  refine ⟨_, rfl, _, _, rfl, h1, rfl, _, _, rfl, _, _, rfl, rfl, ?_⟩
  refine ⟨_, rfl, _, _, rfl, .inr hrs, _, _, rfl, rfl, _, rfl, .of_le (Int.le_refl _) (by omega) (by omega) (by omega), fun q0 nq => ?_⟩
  rw [e1, rgV_nat]
  refine ⟨fun m σ H1 => ∃ (M J : List Nat) (g : Bool) (q1 : Addr) (y6 y7 y8 y9 y10 y11 : Option V), m = 2 * (ds.length - J.length) + (if g then 1 else 0) ∧ σ = [some (.ref a), some (.ref s), some (.ref r), some (.ref b), some (.ref q1), some (.bl g), y6, y7, y8, y9, y10, y11] ∧ Same H H1 ∧ H q1 = none ∧ H1 q1 = some (.lst (nv M)) ∧ MkC n ds S M J ∧ (g = false → ∀ d, d < ds.length → Closed ds S M d), ?_, fun m σ H1 hW => ?_⟩
  · exact ⟨_, List.range n, [], true, q0, _, _, _, _, _, _, rfl, rfl, Same.upd nq, nq, upd_same, MkC.start n, fun z => nomatch z⟩
  obtain ⟨M, J, g, q1, y6, y7, y8, y9, y10, y11, rfl, rfl, sm, nq1, hq1, mk, cl⟩ := hW
  refine ⟨_, rfl, _, rfl, ?_⟩
  cases g with
  | false => 
    refine iteF ⟨_, rfl, q H1 q1 M J sm nq1 hq1 mk (cl rfl)⟩
  | true =>
    refine iteT ?_
    refine ⟨fun σ' H' => ∃ (M' J' : List Nat) (g : Bool) (q1 : Addr) (y6 y7 y8 y9 y10 y11 : Option V), J.length ≤ J'.length ∧ (g = true → J.length < J'.length) ∧ σ' = [some (.ref a), some (.ref s), some (.ref r), some (.ref b), some (.ref q1), some (.bl g), y6, y7, y8, y9, y10, y11] ∧ Same H H' ∧ H q1 = none ∧ H' q1 = some (.lst (nv M')) ∧ MkC n ds S M' J' ∧ (g = false → ∀ d, d < ds.length → Closed ds S M' d), ?_, ?_⟩
    · intro σ' H' h
      obtain ⟨M', J', g, q2, z6, z7, z8, z9, z10, z11, l1, l2, hσ, sm', nq2, hq2, mk', cl'⟩ := h
      have f1 := mk.1.few
      have f2 := mk'.1.few
      refine ⟨_, ?_, M', J', g, q2, z6, z7, z8, z9, z10, z11, rfl, hσ, sm', nq2, hq2, mk', cl'⟩
      cases g with
      | false => simp; omega
      | true => have := l2 rfl; simp; omega
    refine ⟨_, rfl, a, _, rfl, sm.tup hrs, ?_⟩
    refine for_it (walk_enumT (K := K) (a := a) (xs := rs.map V.ref)) (fun k σ H2 => ∃ (M' J' : List Nat) (g : Bool) (q2 : Addr) (y6 y7 y8 y9 y10 y11 : Option V), J.length ≤ J'.length ∧ (g = true → J.length < J'.length) ∧ σ = [some (.ref a), some (.ref s), some (.ref r), some (.ref b), some (.ref q2), some (.bl g), y6, y7, y8, y9, y10, y11] ∧ Same H H2 ∧ H q2 = none ∧ H2 q2 = some (.lst (nv M')) ∧ MkC n ds S M' J' ∧ (g = false → ∀ d, d < k → Closed ds S M' d))
      ⟨M, J, false, q1, _, _, _, _, _, _, Nat.le_refl _, (by intro z; cases z), rfl, sm, nq1, hq1, mk, fun _ d hd => absurd hd (Nat.not_lt_zero _)⟩ (fun i σ H1 _ ⟨_, _, _, _, _, _, _, _, _, _, _, _, _, sm, _⟩ => sm.tup hrs) ?_ ?_
    · rintro k x σ H2 H3 hk ⟨M2, J2, g, q2, z6, z7, z8, z9, z10, z11, l1, l2, rfl, sm2, nq2, hq2, mk2, cl2⟩ ⟨t, x1, x2, rfl, nt, rfl, ex1, ex2⟩
      cases ex1
      have mkc := mk2
      have mk2 := mkc.1
      have hk' : k < ds.length := by
        rw [List.length_map, hlen] at hk
        exact hk
      obtain ⟨e, he⟩ : ∃ e, ds[k]? = some e := get_of rfl hk'
      obtain ⟨r1, hr0⟩ : ∃ r, rs[k]? = some r := get_of hlen hk'
      have ex2' : V.ref r1 = x2 := by
        have ex2 : (rs.map V.ref)[k]? = some x2 := ex2
        rw [List.getElem?_map, hr0] at ex2
        exact Option.some.inj ex2
      subst ex2'
      have smt : Same H2 (upd H2 t (.tup [.int (k : Nat), .ref r1])) := Same.upd nt
      have hrd := smt.tup (sm2.tup (hds k r1 e hr0 he))
      have hq3 := smt _ _ hq2
      have sm3 := sm2.trans smt
      have elt := tree.lt e (List.mem_of_getElem? he)
      refine ⟨t, _, rfl, SqT.of upd_same, rfl, _, _, rfl, _, _, rfl, ⟨r1, _, rfl, hrd, rfl, _, _, rfl, _, _, rfl, rfl, rfl, ?_⟩⟩
      generalize upd H2 t (.tup [.int (k : Nat), .ref r1]) = H4 at sm3 hq3 smt
      have ga := mk2.get elt.1
      have gb := mk2.get elt.2
      refine ⟨_, rfl, _, rfl, _, _, _, _, rfl, rfl, SqL.of hq3, nv_at ga, _, rfl, _, rfl, _, _, _, _, rfl, rfl, SqL.of hq3, nv_at gb, _, _, rfl, ?_⟩
      refine ⟨_, rfl, _, rfl, _, _, _, _, rfl, rfl, SqL.of hq3, nv_at ga, _, rfl, _, rfl, _, _, _, _, rfl, rfl, SqL.of hq3, nv_at gb, _, _, rfl, ?_⟩
      have emin : (if ((M2.getD e.2 0 : Nat) : Int) < ((M2.getD e.1 0 : Nat) : Int) then ((M2.getD e.2 0 : Nat) : Int) else ((M2.getD e.1 0 : Nat) : Int)) = ((min (M2.getD e.1 0) (M2.getD e.2 0) : Nat) : Int) := by split <;> omega
      have emax : (if ((M2.getD e.2 0 : Nat) : Int) > ((M2.getD e.1 0 : Nat) : Int) then ((M2.getD e.2 0 : Nat) : Int) else ((M2.getD e.1 0 : Nat) : Int)) = ((max (M2.getD e.1 0) (M2.getD e.2 0) : Nat) : Int) := by split <;> omega
      rw [emin, emax]
      refine ⟨_, rfl, _, rfl, rfl, _, rfl, ?_⟩
      have dne : (decide (V.int ((min (M2.getD e.1 0) (M2.getD e.2 0) : Nat) : Int) = V.int ((max (M2.getD e.1 0) (M2.getD e.2 0) : Nat) : Int))) = decide (M2.getD e.1 0 = M2.getD e.2 0) := by
        rw [decide_eq_decide]
        exact ⟨fun z => by have := V.int.inj z; omega, fun z => by rw [z, Nat.min_self, Nat.max_self]⟩
      rw [dne]
      by_cases c : M2.getD e.1 0 = M2.getD e.2 0
      · rw [decide_eq_true c]
        refine iteF (iteF ⟨M2, J2, g, q2, _, _, _, _, _, _, l1, l2, rfl, sm3, nq2, hq3, mkc, fun hg d hd => ?_⟩)
        rcases Nat.lt_succ_iff_lt_or_eq.mp hd with hd | rfl
        · exact cl2 hg d hd
        · intro a' b' p' r' hab _ _
          rw [he] at hab
          cases hab
          exact .inl c
      rw [decide_eq_false c]
      obtain ⟨p, hp⟩ : ∃ p, S.2[k]? = some p := get_of ok.doors hk'
      have lp := ok.bars p (List.mem_of_getElem? hp)
      obtain ⟨x2, hx2⟩ : ∃ x, S.1[p]? = some x := get_of rfl lp
      have lx2 := ok.rooms x2 (List.mem_of_getElem? hx2)
      have gx := mk2.get lx2
      have h24 := sm3.tup h2
      have h34 := sm3.tup h3
      refine iteT ⟨_, rfl, _, rfl, _, rfl, _, rfl, _, _, _, _, rfl, rfl, h34, nv_at hp, _, _, _, _, rfl, rfl, h24, nv_at hx2, _, _, _, _, rfl, rfl, SqL.of hq3, nv_at gx, _, rfl, _, rfl, by show 2 ≤ sizeLine; decide, fun t2 nt2 => ?_⟩
      have s5 : Same H4 (upd H4 t2 (.tup [.int ((min (M2.getD e.1 0) (M2.getD e.2 0) : Nat) : Int), .int ((max (M2.getD e.1 0) (M2.getD e.2 0) : Nat) : Int)])) := Same.upd nt2
      have sm5 := sm3.trans s5
      have hq5 := s5 _ _ hq3
      refine ⟨t2, _, rfl, .inr (SqT.of upd_same), rfl, rfl, _, rfl, ?_⟩
      generalize (upd H4 t2 (.tup [.int ((min (M2.getD e.1 0) (M2.getD e.2 0) : Nat) : Int), .int ((max (M2.getD e.1 0) (M2.getD e.2 0) : Nat) : Int)])) = H5 at sm5 hq5
      show if inV (V.int ((M2.getD x2 0 : Nat) : Int)) [.int ((min (M2.getD e.1 0) (M2.getD e.2 0) : Nat) : Int), .int ((max (M2.getD e.1 0) (M2.getD e.2 0) : Nat) : Int)] = true then _ else _
      have din : inV (V.int ((M2.getD x2 0 : Nat) : Int)) [.int ((min (M2.getD e.1 0) (M2.getD e.2 0) : Nat) : Int), .int ((max (M2.getD e.1 0) (M2.getD e.2 0) : Nat) : Int)] = decide (M2.getD x2 0 = M2.getD e.1 0 ∨ M2.getD x2 0 = M2.getD e.2 0) := by
        rw [in_pair, ← Bool.decide_or, decide_eq_decide]
        omega
      rw [din]
      by_cases near : M2.getD x2 0 = M2.getD e.1 0 ∨ M2.getD x2 0 = M2.getD e.2 0
      · rw [decide_eq_true near]
        have mk3 := mkc.step tree he c hp hx2 lx2 near
        refine iteT ⟨_, rfl, q2, rfl, ⟨_, SqL.of hq5⟩, fun pd npd => ?_⟩
        generalize hlo : min (M2.getD e.1 0) (M2.getD e.2 0) = lo at mk3
        generalize hhi : max (M2.getD e.1 0) (M2.getD e.2 0) = hi at mk3
        have ml : M2.length = n := mk2.len
        have jl : (join M2 lo hi).length = n := mk3.1.len
        refine lc_it (walk_list (K := K) (a := q2) (xs := nv M2)) (fun i H6 => Same H5 H6 ∧ H6 pd = some (.lst (nv ((join M2 lo hi).take i)))) ⟨Same.upd npd, upd_same⟩ (fun i H6 _ h => SqL.of (h.1 _ _ hq5)) ?_ ?_
        · rintro i x H6 H7 hi' ⟨s6, hp6⟩ ⟨rfl, ex⟩
          obtain ⟨v, hv, rfl⟩ := nv_some ex
          have il := get_lt hv
          refine ⟨rfl, lcYes ?_⟩
          refine ⟨_, rfl, _, rfl, rfl, _, rfl, ?_⟩
          have tl : (nv ((join M2 lo hi).take i)).length < sizeLine := by
            rw [nv_len, List.length_take, jl]
            exact small1000 (by omega)
          by_cases cv : v = hi
          · rw [decide_eq_true (show V.int (v : Int) = V.int (hi : Int) by rw [cv])]
            refine iteT ⟨_, rfl, _, hp6, tl, s6.at npd, ?_⟩
            rw [upd_same, join_nv M2 lo hi i hv, if_pos cv, nv_snoc]
          · rw [decide_eq_false (show ¬ V.int (v : Int) = V.int (hi : Int) from fun z => cv (by have := V.int.inj z; omega))]
            refine iteF ⟨_, rfl, _, hp6, tl, s6.at npd, ?_⟩
            rw [upd_same, join_nv M2 lo hi i hv, if_neg cv, nv_snoc]
        · rintro H6 ⟨s6, hp6⟩
          rw [nv_len, ml, ← jl, List.take_length] at hp6
          refine ⟨join M2 lo hi, k :: J2, true, pd, _, _, _, _, _, _, by rw [List.length_cons]; omega, fun _ => by rw [List.length_cons]; omega, rfl, sm5.trans s6, sm5.free npd, hp6, mk3, fun z => nomatch z⟩
      · rw [decide_eq_false near]
        refine iteF ⟨M2, J2, g, q2, _, _, _, _, _, _, l1, l2, rfl, sm5, nq2, hq5, mkc, fun hg d hd => ?_⟩
        rcases Nat.lt_succ_iff_lt_or_eq.mp hd with hd | rfl
        · exact cl2 hg d hd
        · intro a' b' p' r' hab hp' hr'
          rw [he] at hab
          cases hab
          rw [hp] at hp'
          cases hp'
          rw [hx2] at hr'
          cases hr'
          exact .inr ⟨fun z => near (.inl z), fun z => near (.inr z)⟩
    · rintro σ H2 ⟨M2, J2, g, q2, z6, z7, z8, z9, z10, z11, l1, l2, rfl, sm2, nq2, hq2, mk2, cl2⟩
      rw [List.length_map, hlen] at cl2
      exact ⟨M2, J2, g, q2, z6, z7, z8, z9, z10, z11, l1, l2, rfl, sm2, nq2, hq2, mk2, cl2⟩
end
end K5

namespace K5
open PySem PySem.Spec PyProof.Rows L2
/-- those of the first k rooms that have the mark x -/
def gk (M : List Nat) (x k : Nat) : List Nat := (List.range k).filter fun y => decide (M[y]? = some x)
/-- the groups -/
def grps (M : List Nat) : List (List Nat) := (rt M M.length).map fun x => gk M x M.length
/-- the doors inside the groups -/
def exd (M : List Nat) (ds : List (Nat × Nat)) : List Nat := (List.range ds.length).filter fun d => decide (M.getD (ds.getD d (0, 0)).1 0 = M.getD (ds.getD d (0, 0)).2 0)
/-- a list at q of new lists, all apart -/
def NewLs (H0 H : Hp) (q : Addr) (Ls : List (List Nat)) : Prop := ∃ rs : List Addr, H q = some (.lst (rs.map V.ref)) ∧ rs.length = Ls.length ∧ rs.Nodup ∧ H0 q = none ∧ ∀ (i : Nat) (r : Addr) (L : List Nat), rs[i]? = some r → Ls[i]? = some L → r ≠ q ∧ H0 r = none ∧ H r = some (.lst (nv L))
theorem rt_succ (M : List Nat) (k : Nat) : rt M (k + 1) = rt M k ++ (if M[k]? = some k then [k] else []) := by
  unfold rt
  rw [List.range_succ, List.filter_append]
  by_cases c : M[k]? = some k
  · rw [if_pos c]
    simp [c]
  · rw [if_neg c]
    simp [c]
theorem gk_succ (M : List Nat) (x k : Nat) : gk M x (k + 1) = gk M x k ++ (if M[k]? = some x then [k] else []) := by
  unfold gk
  rw [List.range_succ, List.filter_append]
  by_cases c : M[k]? = some x
  · rw [if_pos c]
    simp [c]
  · rw [if_neg c]
    simp [c]
theorem gk_none {M : List Nat} {k : Nat} (h : ∀ x m : Nat, M[x]? = some m → m ≤ x) : gk M k k = [] := by
  unfold gk
  rw [List.filter_eq_nil_iff]
  intro y hy
  rw [decide_eq_true_eq]
  intro z
  have := h _ _ z
  rw [List.mem_range] at hy
  omega
theorem gk_len (M : List Nat) (x k : Nat) : (gk M x k).length ≤ k := by
  have := List.length_filter_le (fun y => decide (M[y]? = some x)) (List.range k)
  rwa [List.length_range] at this
theorem rt_len (M : List Nat) (k : Nat) : (rt M k).length ≤ k := by
  have := List.length_filter_le (fun x => decide (M[x]? = some x)) (List.range k)
  rwa [List.length_range] at this
theorem rt_nd (M : List Nat) (k : Nat) : (rt M k).Nodup := List.nodup_range.filter _
/-- a dict of rooms and references -/
def kvA (A : Nat → Addr) (l : List Nat) : List (Key × V) := l.map fun x : Nat => ((Sum.inl (x : Int) : Key), V.ref (A x))
theorem kvA_at (A : Nat → Addr) : ∀ (l : List Nat) (v : Nat), valV (kvA A l) (Sum.inl (v : Int)) = if v ∈ l then some (V.ref (A v)) else none
  | [], v => by simp [kvA, valV_nil]
  | x :: l, v => by
    by_cases e : x = v
    · subst e
      rw [if_pos List.mem_cons_self]
      exact valV_pos (p := ((Sum.inl (x : Int) : Key), V.ref (A x))) rfl
    · have ne : ¬ (((Sum.inl (x : Int) : Key), V.ref (A x)) : Key × V).1 = Sum.inl (v : Int) := fun z => e (by have := Sum.inl.inj z; omega)
      have h := kvA_at A l v
      show valV (((Sum.inl (x : Int) : Key), V.ref (A x)) :: kvA A l) (Sum.inl (v : Int)) = _
      rw [valV_neg ne, h]
      have : (v ∈ x :: l) ↔ v ∈ l := by rw [List.mem_cons]; exact ⟨fun z => z.elim (fun z => absurd z.symm e) id, .inr⟩
      by_cases c : v ∈ l
      · rw [if_pos c, if_pos (this.mpr c)]
      · rw [if_neg c, if_neg (fun z => c (this.mp z))]
theorem kvA_congr {A B : Nat → Addr} {l : List Nat} (h : ∀ x ∈ l, A x = B x) : kvA A l = kvA B l := List.map_congr_left fun x hx => by rw [h x hx]
/-- the lists made so far -/
structure Gsf (H H1 : Hp) (M : List Nat) (d q0 : Addr) (A : Nat → Addr) (R : List Nat) (k : Nat) : Prop where
  sm : Same H H1
  hd : H1 d = some (.dK (kvA A R))
  hq : H1 q0 = some (.lst (nv M))
  ls : ∀ x ∈ R, H (A x) = none ∧ A x ≠ q0 ∧ A x ≠ d ∧ H1 (A x) = some (.lst (nv (gk M x k)))
  inj : ∀ x ∈ R, ∀ y ∈ R, A x = A y → x = y
theorem Gsf.app {H H1 M d q0 A R k v} (g : Gsf H H1 M d q0 A R k) (hv : v ∈ R) (e : M[k]? = some v) : Gsf H (upd H1 (A v) (.lst (nv (gk M v k) ++ [.int (k : Int)]))) M d q0 A R (k + 1) := by
  obtain ⟨a1, a2, a3, a4⟩ := g.ls v hv
  refine ⟨g.sm.at a1, by rw [upd_ne a3.symm]; exact g.hd, by rw [upd_ne a2.symm]; exact g.hq, fun x hx => ?_, g.inj⟩
  obtain ⟨b1, b2, b3, b4⟩ := g.ls x hx
  refine ⟨b1, b2, b3, ?_⟩
  by_cases c : x = v
  · subst c
    rw [upd_same, gk_succ, if_pos e, nv_snoc]
  · rw [upd_ne (fun z => c (g.inj x hx v hv z)), gk_succ, if_neg (fun z => c (by rw [e] at z; exact (Option.some.inj z).symm)), List.append_nil]
    exact b4
theorem Gsf.new {H H1 M d q0 A k nl} (g : Gsf H H1 M d q0 A (rt M k) k) (nd : H d = none) (e : M[k]? = some k) (le : ∀ x m : Nat, M[x]? = some m → m ≤ x) (nn : H1 nl = none) :
    Gsf H (upd (upd H1 nl (.lst [])) d (.dK (putK (kvA A (rt M k)) (Sum.inl (k : Int)) (V.ref nl)))) M d q0 (fun z => if z = k then nl else A z) (rt M (k + 1)) k := by
  have nk : k ∉ rt M k := fun z => by have := (mem_rt.mp z).1; omega
  have n1 : d ≠ nl := ne_of_none g.hd nn
  have n2 : q0 ≠ nl := ne_of_none g.hq nn
  have n3 : q0 ≠ d := fun z => by have := g.hq; rw [z, g.hd] at this; cases this
  refine ⟨(g.sm.trans (Same.upd nn)).at nd, ?_, by rw [upd_ne n3, upd_ne n2]; exact g.hq, fun x hx => ?_, fun x hx y hy exy => ?_⟩
  · rw [upd_same, putK_new (V.ref nl) (by rw [kvA_at, if_neg nk]), rt_succ, if_pos e]
    congr 2
    unfold kvA
    rw [List.map_append, List.map_singleton]
    show _ = _ ++ [((Sum.inl (k : Int) : Key), V.ref (if k = k then nl else A k))]
    rw [if_pos rfl]
    congr 1
    refine List.map_congr_left fun x hx => ?_
    show ((Sum.inl (x : Int) : Key), V.ref (A x)) = (Sum.inl (x : Int), V.ref (if x = k then nl else A x))
    rw [if_neg (fun z : x = k => nk (z ▸ hx))]
  · show H (if x = k then nl else A x) = none ∧ _
    by_cases c : x = k
    · subst c
      simp only [if_true]
      refine ⟨g.sm.free nn, n2.symm, n1.symm, ?_⟩
      rw [upd_ne n1.symm, upd_same, gk_none le]
      rfl
    · simp only [if_neg c]
      have hx' : x ∈ rt M k := by
        rw [rt_succ, if_pos e] at hx
        rcases List.mem_append.mp hx with h | h
        · exact h
        · exact absurd (List.mem_singleton.mp h) c
      obtain ⟨b1, b2, b3, b4⟩ := g.ls x hx'
      exact ⟨b1, b2, b3, by rw [upd_ne b3, upd_ne (ne_of_none b4 nn)]; exact b4⟩
  · have old : ∀ z, z ∈ rt M (k + 1) → z ≠ k → z ∈ rt M k := fun z hz c => by
      rw [rt_succ, if_pos e] at hz
      rcases List.mem_append.mp hz with h | h
      · exact h
      · exact absurd (List.mem_singleton.mp h) c
    have exy : (if x = k then nl else A x) = (if y = k then nl else A y) := exy
    by_cases cx : x = k
    · by_cases cy : y = k
      · rw [cx, cy]
      · rw [if_pos cx, if_neg cy] at exy
        exact absurd exy.symm (ne_of_none (g.ls y (old y hy cy)).2.2.2 nn)
    · by_cases cy : y = k
      · rw [if_neg cx, if_pos cy] at exy
        exact absurd exy (ne_of_none (g.ls x (old x hx cx)).2.2.2 nn)
      · rw [if_neg cx, if_neg cy] at exy
        exact g.inj x (old x hx cx) y (old y hy cy) exy
theorem Gsf.vals {H H1 M d q0 A p} (g : Gsf H H1 M d q0 A (rt M M.length) M.length) (np : H1 p = none) : NewLs H (upd H1 p (.lst ((kvA A (rt M M.length)).map fun kv => kv.2))) p (grps M) := by
  refine ⟨(rt M M.length).map A, ?_, by unfold grps; rw [List.length_map, List.length_map], ?_, g.sm.free np, fun i r L hr hL => ?_⟩
  · rw [upd_same]
    unfold kvA
    rw [List.map_map, List.map_map]
    rfl
  · exact List.pairwise_map.mpr ((rt_nd M M.length).imp_of_mem fun ha hb hne e => hne (g.inj _ ha _ hb e))
  · unfold grps at hL
    rw [List.getElem?_map] at hr hL
    cases e : (rt M M.length)[i]? with
    | none => rw [e] at hr; cases hr
    | some x =>
      rw [e] at hr hL
      cases hr
      cases hL
      obtain ⟨b1, b2, b3, b4⟩ := g.ls x (List.mem_of_getElem? e)
      have ne := ne_of_none b4 np
      exact ⟨ne, b1, by rw [upd_ne ne]; exact b4⟩
def spGroups (K : PySem.W.Frag) : Sp := fun vs H Q _ => ∃ (a s : Addr) (ds : List (Nat × Nat)) (n : Nat) (S : S2), vs = [.ref a, .ref s] ∧ HouseAt K H a ds ∧ Tree n ds ∧ n ≤ 1000 ∧ StateAt K H s S ∧ StOk n ds S ∧
  ∀ (H' : Hp) (q : Addr) (M J : List Nat), Same H H' → NewLs H H' q (grps M) → MkC n ds S M J → (∀ d, d < ds.length → Closed ds S M d) → Q (.ref q) H'
def spExplained (K : PySem.W.Frag) : Sp := fun vs H Q _ => ∃ (a s : Addr) (ds : List (Nat × Nat)) (n : Nat) (S : S2), vs = [.ref a, .ref s] ∧ HouseAt K H a ds ∧ Tree n ds ∧ n ≤ 1000 ∧ StateAt K H s S ∧ StOk n ds S ∧
  ∀ (H' : Hp) (q : Addr) (M J : List Nat), Same H H' → H q = none → H' q = some (.lst (nv (exd M ds))) → MkC n ds S M J → (∀ d, d < ds.length → Closed ds S M d) → Q (.ref q) H'
section
variable {P : Program} {w : World} {K : PySem.W.Frag}
      {mg : Str → Option Value} {base : Heap}
theorem ok_groups (T : Bl mg) (D : Def K mg "groups" s_groups) (C_need_state : Cal P w K mg base "need_state" ["house", "state"] 7 (spSt K)) (C_group_marks : Cal P w K mg base "group_marks" ["house", "state"] 1 (spMarks K)) :
    CalK P w K mg base "groups" ["house", "state"] 8 (spGroups K) ["state", "house"] rev2 rev2 := by
  refine D.okK sc_groups (fun _ _ _ _ _ _ us ws hl => match us, ws, hl with | [], [_, _], _ => rfl) rev2_vals (fun _ _ _ _ _ _ us hl => match us, hl with | [_, _], _ => rfl) (fun vs H Q E h => ?_) (fun f cdv A outer s H vs Q E hr h => ?_)
  · obtain ⟨a, s, ds, n, S, rfl, _⟩ := h
    rfl
  obtain ⟨a, s, ds, n, S, rfl, hH, tree, hn, st, ok, q⟩ := h
  obtain ⟨f_need_state, fd_need_state, g_need_state, k_need_state, b_need_state, G_need_state⟩ := C_need_state
  obtain ⟨f_group_marks, fd_group_marks, g_group_marks, k_group_marks, b_group_marks, G_group_marks⟩ := C_group_marks
  refine ⟨_, (pss_cons (ps_expr (pe_call G_need_state (hr.mono (by decide)) (by rfl) g_need_state k_need_state b_need_state .nil pass0 (pa_cons (pv 0) (pa_cons (pv 1) pa_nil))))
    (pss_cons (ps_set (i := 2) sc_groups.nd rfl (.inl rfl) pe_dnewK)
    (pss_cons (ps_for PassesOwn.never rfl (pi_enum (by rfl) T.enumerate (pa_cons (pe_call G_group_marks (hr.mono (by decide)) (by rfl) g_group_marks k_group_marks b_group_marks .nil pass0 (pa_cons (pv 0) (pa_cons (pv 1) pa_nil))) pa_nil)) (pg_tup (n := 2) rfl (pgs_cons (pg_name (i := 3) sc_groups.nd rfl (.inl rfl)) (pgs_cons (pg_name (i := 4) sc_groups.nd rfl (.inl rfl)) pgs_nil)))
    (pss_cons (ps_if (pt_cmpR op_eq (pv 4) (pv 3) (nomark _)) (pss_one (ps_dput (hu_of hr) (pv 2) (pv 4) (pe_lst pa_nil) rfl)) pss_nil)
    (pss_one (ps_expr (pe_bm PySem.F.plainAttrs_list PySem.F.slot_list_append PySem.F.type_list_append mt_append (pe_dget (hu_of hr) (pv 2) (pv 4) (fun _ _ => rfl)) (pa_cons (pv 3) pa_nil))))))
    (pss_one (ps_ret (pe_listVals rfl (by rfl) T.list (pv 2))))))), ?_⟩
  refine ⟨_, rfl, _, rfl, a, s, ds, n, S, rfl, hH, tree, hn, st, ok, fun H1 s1 => ?_⟩
  refine fun d nd => ?_
  have sd := s1.trans (Same.upd (o := .dK []) nd)
  refine ⟨_, rfl, _, rfl, a, s, ds, n, S, rfl, hH.same sd, tree, hn, st.same sd, ok, fun H2 q0 M J s2 nq hq mk cl => ?_⟩
  have hd2 : H2 d = some (.dK []) := s2 _ _ upd_same
  have nd0 : H d = none := s1.free nd
  have ml : M.length = n := mk.1.len
  have le : ∀ x m : Nat, M[x]? = some m → m ≤ x := fun x m h => (mk.1.le x m h).1
  refine ⟨q0, _, rfl, SqL.of hq, ?_⟩
  refine for_it (walk_enum (K := K) (a := q0) (xs := nv M)) (fun k σ H3 => ∃ (A : Nat → Addr) (y3 y4 : Option V), σ = [some (.ref a), some (.ref s), some (.ref d), y3, y4] ∧ Gsf H H3 M d q0 A (rt M k) k)
    ⟨fun _ => d, _, _, rfl, sd.trans s2, hd2, hq, (fun _ h => nomatch h), (fun _ h => nomatch h)⟩ (fun i σ H1 _ ⟨_, _, _, _, g⟩ => SqL.of g.hq) ?_ ?_
  · rintro k x σ H3 H4 hk ⟨A, y3, y4, rfl, g⟩ ⟨t, x1, x2, rfl, nt, rfl, ex1, ex2⟩
    cases ex1
    obtain ⟨v, hv, rfl⟩ := nv_some ex2
    have hkn : k < n := by have := get_lt hv; omega
    have smt : Same H3 (upd H3 t (.tup [.int (k : Nat), .int (v : Int)])) := Same.upd nt
    refine ⟨t, _, rfl, SqT.of upd_same, rfl, _, _, rfl, _, _, rfl, rfl, ?_⟩
    have g4 : Gsf H (upd H3 t (.tup [.int (k : Nat), .int (v : Int)])) M d q0 A (rt M k) k := ⟨g.sm.trans smt, smt _ _ g.hd, smt _ _ g.hq, fun x hx => ⟨(g.ls x hx).1, (g.ls x hx).2.1, (g.ls x hx).2.2.1, smt _ _ (g.ls x hx).2.2.2⟩, g.inj⟩
    generalize upd H3 t (.tup [.int (k : Nat), .int (v : Int)]) = H5 at g4
    have vr : v ∈ rt M (k + 1) := mem_rt.mpr ⟨by have := le k v hv; omega, mk.1.self hv⟩
    have gl : ∀ x, (nv (gk M x k)).length < sizeLine := fun x => by rw [nv_len]; have := gk_len M x k; exact small1000 (by omega)
    refine ⟨_, rfl, _, rfl, rfl, _, rfl, ?_⟩
    by_cases c : v = k
    · rw [decide_eq_true (show V.int (v : Int) = V.int (k : Int) by rw [c])]
      subst c
      refine iteT ⟨Nat.zero_le _, fun nl nnl => ⟨_, rfl, _, rfl, d, _, rfl, DPut.k (k := Sum.inl (v : Int)) (by rw [upd_ne (ne_of_none g4.hd nnl)]; exact g4.hd) (by unfold kvA; rw [List.length_map]; have := rt_len M v; exact small1000 (by omega)), ?_⟩⟩
      have g5 := g4.new nd0 hv le nnl
      have g6 := g5.app vr hv
      obtain ⟨b1, b2, b3, b4⟩ := g5.ls v vr
      have dg : DGet (upd (upd H5 nl (.lst [])) d (.dK (putK (kvA A (rt M v)) (Sum.inl (v : Int)) (V.ref nl)))) d (.int (v : Int)) (some (V.ref ((fun z => if z = v then nl else A z) v))) := by
        have := DGet.k (k := Sum.inl (v : Int)) g5.hd
        rw [kvA_at, if_pos vr] at this
        exact this
      exact ⟨_, rfl, _, rfl, d, _, rfl, dg, .inl ⟨rfl, _, SqL.of b4⟩, _, rfl, _, _, _, rfl, rfl, b4, gl v, _, _, _, rfl, g6⟩
    · rw [decide_eq_false (show ¬ V.int (v : Int) = V.int (k : Int) from fun z => c (by have := V.int.inj z; omega))]
      have er : rt M (k + 1) = rt M k := by rw [rt_succ, if_neg (fun z => c (by rw [hv] at z; exact Option.some.inj z)), List.append_nil]
      rw [er] at vr
      have g5 := g4.app vr hv
      have dg : DGet H5 d (.int (v : Int)) (some (V.ref (A v))) := by
        have := DGet.k (k := Sum.inl (v : Int)) g4.hd
        rw [kvA_at, if_pos vr] at this
        exact this
      obtain ⟨b1, b2, b3, b4⟩ := g4.ls v vr
      refine iteF ⟨_, rfl, _, rfl, d, _, rfl, dg, .inl ⟨rfl, _, SqL.of b4⟩, _, rfl, A v, _, _, rfl, rfl, b4, gl v, A, _, _, rfl, by rw [er]; exact g5⟩
  · rintro σ H3 ⟨A, y3, y4, rfl, g⟩
    rw [nv_len] at g
    exact ⟨_, rfl, d, _, rfl, g.hd, fun p np => q _ p M J (g.sm.trans (Same.upd np)) (g.vals np) mk cl⟩
theorem ok_explained_doors (T : Bl mg) (D : Def K mg "explained_doors" s_explained_doors) (C_need_state : Cal P w K mg base "need_state" ["house", "state"] 7 (spSt K)) (C_group_marks : Cal P w K mg base "group_marks" ["house", "state"] 1 (spMarks K)) :
    CalK P w K mg base "explained_doors" ["house", "state"] 8 (spExplained K) ["state", "house"] rev2 rev2 := by
  refine D.okK sc_explained_doors (fun _ _ _ _ _ _ us ws hl => match us, ws, hl with | [], [_, _], _ => rfl) rev2_vals (fun _ _ _ _ _ _ us hl => match us, hl with | [_, _], _ => rfl) (fun vs H Q E h => ?_) (fun f cdv A outer s H vs Q E hr h => ?_)
  · obtain ⟨a, s, ds, n, S, rfl, _⟩ := h
    rfl
  obtain ⟨a, s, ds, n, S, rfl, hH, tree, hn, st, ok, q⟩ := h
  obtain ⟨rs, hrs, hlen, hds⟩ := id hH
  have hdn := tree.len
  obtain ⟨f_need_state, fd_need_state, g_need_state, k_need_state, b_need_state, G_need_state⟩ := C_need_state
  obtain ⟨f_group_marks, fd_group_marks, g_group_marks, k_group_marks, b_group_marks, G_group_marks⟩ := C_group_marks
  refine ⟨_, (pss_cons (ps_expr (pe_call G_need_state (hr.mono (by decide)) (by rfl) g_need_state k_need_state b_need_state .nil pass0 (pa_cons (pv 0) (pa_cons (pv 1) pa_nil))))
    (pss_cons (ps_set (i := 2) sc_explained_doors.nd rfl (.inr rfl) (pe_call G_group_marks (hr.mono (by decide)) (by rfl) g_group_marks k_group_marks b_group_marks .nil pass0 (pa_cons (pv 0) (pa_cons (pv 1) pa_nil))))
    (pss_one (ps_ret (pe_lc (own := [("door", 3), ("a", 4), ("b", 5)]) (g := gTup K 2 (gCons (gName 3) (gCons (gTup K 2 (gCons (gName 4) (gCons (gName 5) gNil))) gNil)))  (tt := (tTest (tOp rEq (tOp (rIxL K) (tVar 2) (tVar 4)) (tOp (rIxL K) (tVar 2) (tVar 5))))) rfl sc_explained_doors.nd (pi_enumT (by rfl) T.enumerate (pa_cons (pv 0) pa_nil)) (blkOk_by (N := N_explained_doors) (sc := defScope s_explained_doors) (own := [("door", 3), ("a", 4), ("b", 5)]) (by decide +kernel)) (fun _ _ _ _ _ => (pg_tup (n := 2) rfl (pgs_cons (pg_name (i := 3) sc_explained_doors.nd rfl (.inl rfl) (.inr rfl)) (pgs_cons (pg_tup (n := 2) rfl (pgs_cons (pg_name (i := 4) sc_explained_doors.nd rfl (.inl rfl) (.inr rfl)) (pgs_cons (pg_name (i := 5) sc_explained_doors.nd rfl (.inl rfl) (.inr rfl)) pgs_nil))) pgs_nil)))) (fun _ _ _ _ _ => (pts_one (pt_cmpR op_eq (pe_ix ix_list (pv 2) (pv 4) (fun _ _ => rfl)) (pe_ix ix_list (pv 2) (pv 5) (fun _ _ => rfl)) (nomark _)))) (fun _ _ _ _ _ => (pv 3))))))), ?_⟩
  refine ⟨_, rfl, _, rfl, a, s, ds, n, S, rfl, hH, tree, hn, st, ok, fun H1 s1 => ?_⟩
  refine ⟨_, rfl, _, rfl, a, s, ds, n, S, rfl, hH.same s1, tree, hn, st.same s1, ok, fun H2 q0 M J s2 nq hq mk cl => ?_⟩
  have sm2 := s1.trans s2
  refine ⟨_, rfl, a, _, rfl, sm2.tup hrs, fun pd npd => ?_⟩
  refine lc_it (walk_enumT (K := K) (a := a) (xs := rs.map V.ref)) (fun i H3 => Same H2 H3 ∧ H3 pd = some (.lst (nv ((List.range i).filter fun d => decide (M.getD (ds.getD d (0, 0)).1 0 = M.getD (ds.getD d (0, 0)).2 0))))) ⟨Same.upd npd, upd_same⟩ (fun i H3 _ h => (sm2.trans h.1).tup hrs) ?_ ?_
  · rintro k x H3 H4 hk ⟨s3, hp3⟩ ⟨t, x1, x2, rfl, nt, rfl, ex1, ex2⟩
    cases ex1
    have hk' : k < ds.length := by
      rw [List.length_map, hlen] at hk
      exact hk
    obtain ⟨e, he⟩ : ∃ e, ds[k]? = some e := get_of rfl hk'
    obtain ⟨r1, hr0⟩ : ∃ r, rs[k]? = some r := get_of hlen hk'
    have ex2' : V.ref r1 = x2 := by
      have ex2 : (rs.map V.ref)[k]? = some x2 := ex2
      rw [List.getElem?_map, hr0] at ex2
      exact Option.some.inj ex2
    subst ex2'
    have smt : Same H3 (upd H3 t (.tup [.int (k : Nat), .ref r1])) := Same.upd nt
    have s4 := s3.trans smt
    have hrd := (sm2.trans s4).tup (hds k r1 e hr0 he)
    have hq4 := s4 _ _ hq
    have hp4 := smt _ _ hp3
    have elt := tree.lt e (List.mem_of_getElem? he)
    refine ⟨t, _, rfl, SqT.of upd_same, rfl, _, _, rfl, _, _, rfl, ⟨r1, _, rfl, hrd, rfl, _, _, rfl, _, _, rfl, rfl, rfl, rfl, ?_⟩⟩
    generalize upd H3 t (.tup [.int (k : Nat), .ref r1]) = H5 at s4 hq4 hp4
    have ga := mk.1.get elt.1
    have gb := mk.1.get elt.2
    have eg : ds.getD k (0, 0) = e := by rw [List.getD_eq_getElem?_getD, he]; rfl
    refine ⟨_, rfl, _, rfl, _, _, _, _, rfl, rfl, SqL.of hq4, nv_at ga, _, rfl, _, rfl, _, _, _, _, rfl, rfl, SqL.of hq4, nv_at gb, rfl, _, rfl, ?_⟩
    have hl : (nv ((List.range k).filter fun d => decide (M.getD (ds.getD d (0, 0)).1 0 = M.getD (ds.getD d (0, 0)).2 0))).length < sizeLine := by
      rw [nv_len]
      have := List.length_filter_le (fun d => decide (M.getD (ds.getD d (0, 0)).1 0 = M.getD (ds.getD d (0, 0)).2 0)) (List.range k)
      rw [List.length_range] at this
      exact small1000 (by omega)
    by_cases c : M.getD e.1 0 = M.getD e.2 0
    · rw [decide_eq_true (show V.int ((M.getD e.1 0 : Nat) : Int) = V.int ((M.getD e.2 0 : Nat) : Int) by rw [c])]
      refine iteT ⟨_, rfl, _, hp4, hl, s4.at npd, ?_⟩
      have e1 : [k].filter (fun d => decide (M.getD (ds.getD d (0, 0)).1 0 = M.getD (ds.getD d (0, 0)).2 0)) = [k] := List.filter_cons_of_pos (by rw [eg]; exact decide_eq_true c)
      rw [upd_same, List.range_succ, List.filter_append, e1, nv_snoc]
    · rw [decide_eq_false (show ¬ V.int ((M.getD e.1 0 : Nat) : Int) = V.int ((M.getD e.2 0 : Nat) : Int) from fun z => c (by have := V.int.inj z; omega))]
      refine iteF ⟨s4, ?_⟩
      have e1 : [k].filter (fun d => decide (M.getD (ds.getD d (0, 0)).1 0 = M.getD (ds.getD d (0, 0)).2 0)) = [] := List.filter_cons_of_neg (by rw [eg, decide_eq_false c]; exact Bool.false_ne_true)
      rw [hp4, List.range_succ, List.filter_append, e1, List.append_nil]
  · rintro H3 ⟨s3, hp3⟩
    rw [List.length_map, hlen] at hp3
    exact q H3 pd M J (sm2.trans s3) (sm2.free npd) hp3 mk cl
end
end K5

namespace K5
open PySem PySem.Spec PyProof.Rows L2
/-- the way from the room of the search to x, within the region -/
structure Way (ds : List (Nat × Nat)) (shut : List Nat) (room x : Nat) (p : List Nat) : Prop where
  w : Walk ds room p x
  nd : p.Nodup
  un : ∀ d ∈ p, d ∉ shut
theorem Way.unique {n ds shut room x p q} (T : Tree n ds) (a : Way ds shut room x p) (b : Way ds shut room x q) : p = q := way_unique T a.w b.w a.nd b.nd
theorem Reg.path {n ds shut room ks} (h : Reg n ds shut room ks) : ∀ (m x : Nat), x ∈ ks.map Prod.fst → (ks.map Prod.fst).idxOf x = m →
    ∃ p, Way ds shut room x p ∧ ∀ d ∈ p, ∀ u v, Joins ds d u v → (ks.map Prod.fst).idxOf u ≤ m ∧ (ks.map Prod.fst).idxOf v ≤ m := by
  intro m
  induction m using Nat.strongRecOn with
  | ind m ih =>
    intro x hx hm
    obtain ⟨⟨x', o⟩, hk, rfl⟩ := List.mem_map.mp hx
    cases o with
    | none =>
      rw [h.pt.fin _ hk]
      exact ⟨[], ⟨.nil _, List.nodup_nil, fun d h => (List.not_mem_nil h).elim⟩, fun d h => (List.not_mem_nil h).elim⟩
    | some e =>
      obtain ⟨j, ns, hy, lt⟩ := h.pt.st _ e.1 e.2 hk
      obtain ⟨p, a, bd⟩ := ih _ (by rw [← hm]; exact lt) e.2 hy rfl
      have nin : e.1 ∉ p := fun hin => by
        have := (bd _ hin _ _ j).1
        try simp only at lt this
        omega
      refine ⟨p ++ [e.1], ⟨a.w.snoc j.symm, ?_, ?_⟩, ?_⟩
      · refine List.nodup_append.mpr ⟨a.nd, by simp, fun c hc b hb => ?_⟩
        rw [List.mem_singleton] at hb
        rintro rfl
        exact nin (hb ▸ hc)
      · intro d hd
        rcases List.mem_append.mp hd with hd | hd
        · exact a.un d hd
        · rw [List.mem_singleton] at hd
          rw [hd]
          exact ns
      · intro d hd u v k
        try simp only at hm lt
        rcases List.mem_append.mp hd with hd | hd
        · have := bd d hd u v k
          omega
        · rw [List.mem_singleton] at hd
          subst hd
          rcases j with j | j <;> rcases k with k | k <;> rw [j] at k <;> cases k <;> omega
theorem Reg.way {n ds shut room ks} (h : Reg n ds shut room ks) {x : Nat} (hx : x ∈ ks.map Prod.fst) : ∃ p, Way ds shut room x p := by
  obtain ⟨p, a, _⟩ := h.path _ x hx rfl
  exact ⟨p, a⟩
/-- a room's way is its parent's and the door between -/
theorem Reg.child {n ds shut room ks} (T : Tree n ds) (h : Reg n ds shut room ks) {x d y : Nat} (hk : (x, some (d, y)) ∈ ks) {p : List Nat} (hp : Way ds shut room y p) : Way ds shut room x (p ++ [d]) := by
  obtain ⟨j, ns, hy, lt⟩ := h.pt.st _ _ _ hk
  obtain ⟨p', a, bd⟩ := h.path _ y hy rfl
  have e := a.unique T hp
  subst e
  have nin : d ∉ p' := fun hin => by
    have := (bd _ hin _ _ j).1
    omega
  refine ⟨a.w.snoc j.symm, ?_, ?_⟩
  · refine List.nodup_append.mpr ⟨a.nd, by simp, fun c hc b hb => ?_⟩
    rw [List.mem_singleton] at hb
    rintro rfl
    exact nin (hb ▸ hc)
  · intro d' hd
    rcases List.mem_append.mp hd with hd | hd
    · exact a.un d' hd
    · rw [List.mem_singleton] at hd
      rw [hd]
      exact ns
/-- x ends a walk of k steps -/
def EndAt (ds : List (Nat × Nat)) (shut : List Nat) (room k : Nat) : Prop := ∃ x p, Way ds shut room x p ∧ p.length = k ∧ ∀ d z, Joins ds d x z → d ∉ shut → d ∈ p
structure MinMax (P : Nat → Prop) (lo hi : Nat) : Prop where
  isLo : P lo
  isHi : P hi
  all : ∀ k, P k → lo ≤ k ∧ k ≤ hi
theorem MinMax.unique {P : Nat → Prop} {a b c d : Nat} (x : MinMax P a b) (y : MinMax P c d) : a = c ∧ b = d := by
  have h1 := x.all _ y.isLo
  have h2 := y.all _ x.isLo
  have h3 := x.all _ y.isHi
  have h4 := y.all _ x.isHi
  omega
theorem MinMax.iff {P Q : Nat → Prop} {a b : Nat} (x : MinMax P a b) (h : ∀ k, P k ↔ Q k) : MinMax Q a b := ⟨(h a).mp x.isLo, (h b).mp x.isHi, fun k hk => x.all k ((h k).mpr hk)⟩
/-- the rooms that nobody leads on from -/
theorem Reg.leaf {n ds shut room ks} (T : Tree n ds) (h : Reg n ds shut room ks) {x : Nat} {p : List Nat} (hx : x ∈ ks.map Prod.fst) (hp : Way ds shut room x p) :
    (¬ ∃ z d, (z, some (d, x)) ∈ ks) ↔ ∀ d z, Joins ds d x z → d ∉ shut → d ∈ p := by
  constructor
  · intro no d z j ns
    refine Classical.byContradiction fun hd => no ?_
    have hz : z ∈ ks.map Prod.fst := h.df.cl _ hx (by simp) d z j ns
    have wz : Way ds shut room z (p ++ [d]) := by
      refine ⟨hp.w.snoc j, ?_, ?_⟩
      · refine List.nodup_append.mpr ⟨hp.nd, by simp, fun c hc b hb => ?_⟩
        rw [List.mem_singleton] at hb
        rintro rfl
        exact hd (hb ▸ hc)
      · intro d' hd'
        rcases List.mem_append.mp hd' with hd' | hd'
        · exact hp.un d' hd'
        · rw [List.mem_singleton] at hd'
          rw [hd']
          exact ns
    obtain ⟨⟨z', o⟩, hk, rfl⟩ := List.mem_map.mp hz
    cases o with
    | none =>
      have e0 : z' = room := h.pt.fin _ hk
      subst e0
      have w0 : Way ds shut z' z' [] := ⟨.nil _, List.nodup_nil, fun d h => (List.not_mem_nil h).elim⟩
      have := wz.unique T w0
      simp at this
    | some e =>
      obtain ⟨j2, ns2, hy, _⟩ := h.pt.st _ e.1 e.2 hk
      obtain ⟨py, wy⟩ := h.way hy
      have w2 := h.child T hk wy
      have e3 := wz.unique T w2
      obtain ⟨_, e4⟩ := List.append_inj' e3 rfl
      have e4 : d = e.1 := by simpa using e4
      have e5 : x = e.2 := by
        rw [← e4] at j2
        exact j.symm.other j2 (j.lt T).2.2.2.symm
      exact ⟨z', d, by rw [e4, e5]; exact hk⟩
  · rintro all ⟨z, d, hk⟩
    obtain ⟨j, ns, hy, lt⟩ := h.pt.st _ _ _ hk
    have hin := all d z j.symm ns
    have w2 := h.child T hk hp
    obtain ⟨_, _, q⟩ := List.nodup_append.mp w2.nd
    exact q d hin d (by simp) rfl
theorem Reg.ends {n ds shut room ks} (T : Tree n ds) (h : Reg n ds shut room ks) (k : Nat) : EndAt ds shut room k ↔ ∃ x p, x ∈ ks.map Prod.fst ∧ (¬ ∃ z d, (z, some (d, x)) ∈ ks) ∧ Way ds shut room x p ∧ p.length = k := by
  constructor
  · rintro ⟨x, p, hp, hk, all⟩
    have hx := (h.mem x).mpr ⟨p, hp.w, hp.un⟩
    exact ⟨x, p, hx, (h.leaf T hx hp).mpr all, hp, hk⟩
  · rintro ⟨x, p, hx, no, hp, hk⟩
    exact ⟨x, p, hp, hk, (h.leaf T hx hp).mp no⟩
end K5

namespace K5
open PySem PySem.Spec PyProof.Rows L2
noncomputable def dep (ds : List (Nat × Nat)) (shut : List Nat) (room x : Nat) : Nat := by
  classical exact if h : ∃ p, Way ds shut room x p then h.choose.length else 0
theorem dep_is {n ds shut room x p} (T : Tree n ds) (h : Way ds shut room x p) : dep ds shut room x = p.length := by
  unfold dep
  rw [dif_pos ⟨p, h⟩]
  have hh : ∃ p, Way ds shut room x p := ⟨p, h⟩
  rw [hh.choose_spec.unique T h]
def par (ks : List (Nat × Option (Nat × Nat))) : List Nat := ks.filterMap fun z => z.2.map Prod.snd
theorem mem_par {ks : List (Nat × Option (Nat × Nat))} {y : Nat} : y ∈ par ks ↔ ∃ z d, (z, some (d, y)) ∈ ks := by
  unfold par
  rw [List.mem_filterMap]
  constructor
  · rintro ⟨⟨z, o⟩, hk, e⟩
    cases o with
    | none => cases e
    | some c =>
      have e : c.2 = y := Option.some.inj e
      exact ⟨z, c.1, by rw [← e]; exact hk⟩
  · rintro ⟨z, d, hk⟩
    exact ⟨_, hk, rfl⟩
theorem keys_old {kvs : List (Key × V)} {k : Key} {v : V} (c : k ∈ kvs.map (fun kv : Key × V => kv.1)) : (putK kvs k v).map (fun kv : Key × V => kv.1) = kvs.map (fun kv : Key × V => kv.1) := by
  unfold putK
  have a : (kvs.any fun kv => decide (kv.1 = k)) = true := by
    obtain ⟨kv, h1, h2⟩ := List.mem_map.mp c
    exact List.any_eq_true.mpr ⟨kv, h1, decide_eq_true h2⟩
  rw [if_pos a, List.map_map]
  refine List.map_congr_left fun kv _ => ?_
  show (if kv.1 = k then (kv.1, v) else kv).1 = kv.1
  by_cases e : kv.1 = k
  · rw [if_pos e]
  · rw [if_neg e]
theorem keys_new {kvs : List (Key × V)} {k : Key} {v : V} (c : k ∉ kvs.map (fun kv : Key × V => kv.1)) : (putK kvs k v).map (fun kv : Key × V => kv.1) = kvs.map (fun kv : Key × V => kv.1) ++ [k] := by
  unfold putK
  have a : ¬ (kvs.any fun kv => decide (kv.1 = k)) = true := fun z => by
    obtain ⟨kv, h1, h2⟩ := List.any_eq_true.mp z
    exact c (List.mem_map.mpr ⟨kv, h1, of_decide_eq_true h2⟩)
  rw [if_neg a, List.map_append]
  rfl
theorem paired_get {α β : Type} {F : α → β → Prop} : ∀ {l : List α} {m : List β} {i : Nat} {a : α} {b : β}, Paired F l m → l[i]? = some a → m[i]? = some b → F a b
  | _, _, i, a, b, .nil, h1, h2 => by simp at h1
  | _, _, 0, a, b, .cons h t, h1, h2 => by
    cases h1
    cases h2
    exact h
  | _, _, i + 1, a, b, .cons h t, h1, h2 => paired_get t h1 h2
theorem Reg.has_leaf {n ds shut room ks} (h : Reg n ds shut room ks) : ∃ x, x ∈ ks.map Prod.fst ∧ x ∉ par ks := by
  refine Classical.byContradiction fun no => ?_
  have all : ∀ x, x ∈ ks.map Prod.fst → x ∈ par ks := fun x hx => Classical.byContradiction fun z => no ⟨x, hx, z⟩
  have climb : ∀ m : Nat, ∃ x, x ∈ ks.map Prod.fst ∧ m ≤ (ks.map Prod.fst).idxOf x := by
    intro m
    induction m with
    | zero => exact ⟨room, h.rm, Nat.zero_le _⟩
    | succ m ih =>
      obtain ⟨x, hx, le⟩ := ih
      obtain ⟨z, d, hk⟩ := mem_par.mp (all x hx)
      obtain ⟨_, _, _, lt⟩ := h.pt.st _ _ _ hk
      exact ⟨z, List.mem_map.mpr ⟨_, hk, rfl⟩, by omega⟩
  obtain ⟨x, hx, le⟩ := climb (ks.map Prod.fst).length
  have := List.idxOf_lt_length_iff.mpr hx
  omega
theorem take_keys {ks : List (Nat × Option (Nat × Nat))} {i : Nat} {e : Nat × Option (Nat × Nat)} (he : ks[i]? = some e) : (ks.take (i + 1)).map Prod.fst = (ks.take i).map Prod.fst ++ [e.1] := by
  rw [List.take_succ, he, List.map_append]
  rfl
theorem take_par {ks : List (Nat × Option (Nat × Nat))} {i : Nat} {e : Nat × Option (Nat × Nat)} (he : ks[i]? = some e) : par (ks.take (i + 1)) = par (ks.take i) ++ (e.2.map Prod.snd).toList := by
  unfold par
  rw [List.take_succ, he, List.filterMap_append]
  obtain ⟨x, o⟩ := e
  cases o <;> rfl
theorem fresh_key {ks : List (Nat × Option (Nat × Nat))} {i : Nat} {e : Nat × Option (Nat × Nat)} (nd : (ks.map Prod.fst).Nodup) (he : ks[i]? = some e) : e.1 ∉ (ks.take i).map Prod.fst := by
  intro hm
  have h2 : (ks.map Prod.fst)[i]? = some e.1 := by rw [List.getElem?_map, he]; rfl
  rw [List.map_take] at hm
  obtain ⟨j, hj⟩ := List.mem_iff_getElem?.mp hm
  rw [List.getElem?_take] at hj
  split at hj
  · rename_i hji
    have l1 := get_lt hj
    have l2 := get_lt h2
    rw [List.getElem?_eq_getElem l1] at hj
    rw [List.getElem?_eq_getElem l2] at h2
    have := (List.getElem_inj nd).mp ((Option.some.inj hj).trans (Option.some.inj h2).symm)
    omega
  · cases hj
theorem inl_mem {x : Nat} {l : List Nat} : (Sum.inl (x : Int) : Key) ∈ (l.map fun y : Nat => (y : Int)).map Sum.inl ↔ x ∈ l := by
  rw [List.map_map, List.mem_map]
  constructor
  · rintro ⟨y, hy, e⟩
    have e : (y : Int) = (x : Int) := Sum.inl.inj e
    have : y = x := by omega
    exact this ▸ hy
  · intro h
    exact ⟨x, h, rfl⟩
/-- the two dicts of the count, i entries read -/
structure Cnt (ds : List (Nat × Nat)) (shut : List Nat) (room : Nat) (ks : List (Nat × Option (Nat × Nat))) (i : Nat) (l1 l2 : List (Key × V)) : Prop where
  keys : l1.map (·.1) = (((ks.take i).map Prod.fst).map fun y : Nat => (y : Int)).map Sum.inl
  val : ∀ x, x ∈ (ks.take i).map Prod.fst → valV l1 (Sum.inl (x : Int)) = some (.int (dep ds shut room x : Int))
  pas : ∀ y : Nat, (valV l2 (Sum.inl (y : Int))).isSome = decide (y ∈ par (ks.take i))
  few : l2.length ≤ i
def spFew (K : PySem.W.Frag) : Sp := fun vs H Q _ => ∃ (q : Addr) (n room : Nat) (ds : List (Nat × Nat)) (shut : List Nat) (kvs : List (Key × V)) (ks : List (Nat × Option (Nat × Nat))), vs = [.ref q] ∧ H q = some (.dK kvs) ∧ DicR (WayR H) kvs ks ∧ Tree n ds ∧ Reg n ds shut room ks ∧ n ≤ 60 ∧
  ∀ (H' : Hp) (t : Addr) (lo hi : Nat), Same H H' → H t = none → H' t = some (.tup [.int (lo : Int), .int (hi : Int)]) → MinMax (EndAt ds shut room) lo hi → Q (.ref t) H'
theorem putlen (kvs : List (Key × V)) (k : Key) (v : V) : (putK kvs k v).length ≤ kvs.length + 1 := by
  unfold putK
  split
  · rw [List.length_map]; omega
  · simp
section
variable {P : Program} {w : World} {K : PySem.W.Frag}
      {mg : Str → Option Value} {base : Heap}
theorem ok_fewest_and_most (T : Bl mg) (D : Def K mg "fewest_and_most" s_fewest_and_most) : Cal P w K mg base "fewest_and_most" ["ways"] 1 (spFew K) := by
  refine D.ok sc_fewest_and_most (fun _ _ _ _ _ _ us hl => match us, hl with | [_], _ => rfl) (fun vs H Q E h => ?_) (fun f cdv A outer s H vs Q E hr h => ?_)
  · obtain ⟨q, n, room, ds, shut, kvs, ks, rfl, _⟩ := h
    rfl
  obtain ⟨q0, n, room, ds, shut, kvs, ks, rfl, hq, r, tree, rg, hn, q⟩ := h
  have le := rg.le
  have kl : kvs.length = ks.length := r.len
  refine ⟨_, (pss_cons (ps_set (i := 1) sc_fewest_and_most.nd rfl (.inr rfl) pe_dnewK)
    (pss_cons (ps_set (i := 2) sc_fewest_and_most.nd rfl (.inr rfl) pe_dnewK)
    (pss_cons (ps_lock (ps_for PassesOwn.never rfl (pi_items (pv 0)) (pg_tup (n := 2) rfl (pgs_cons (pg_name (i := 3) sc_fewest_and_most.nd rfl (.inl rfl)) (pgs_cons (pg_name (i := 4) sc_fewest_and_most.nd rfl (.inl rfl)) pgs_nil)))
    (pss_cons (ps_dput (hu_of hr) (pv 1) (pv 3) pe_int rfl)
    (pss_one (ps_if (pt_cmpR op_notN (pv 4) pe_non (nomark _)) (pss_cons (ps_dput (hu_of hr) (pv 1) (pv 3) (pe_op op_add (pe_dget (hu_of hr) (pv 1) (pe_ix ix_tup (pv 4) pe_int (fun _ _ => rfl)) (fun _ _ => rfl)) pe_int) rfl)
    (pss_one (ps_dput (hu_of hr) (pv 2) (pe_ix ix_tup (pv 4) pe_int (fun _ _ => rfl)) pe_bl rfl))) pss_nil)))))
    (pss_cons (ps_lock (ps_setLc (i := 5) (own := [("room", 3)]) (g := gName 3)  rfl sc_fewest_and_most.nd rfl rfl (sw_true rfl rfl rfl (by decide +kernel)) (pi_keys (pv 1)) (blkOk_by (N := N_fewest_and_most) (sc := defScope s_fewest_and_most) (own := [("room", 3)]) (by decide +kernel)) (fun _ _ _ _ _ => (pg_name (i := 3) sc_fewest_and_most.nd rfl (.inl rfl) (.inr rfl))) (fun _ _ _ _ _ => (pts_one (pt_cmp (pc_dnotin (hu_of hr) (pv 3) (pv 2))))) (fun _ _ _ _ _ => (pe_dget (hu_of hr) (pv 1) (pv 3) (fun _ _ => rfl)))))
    (pss_one (ps_ret (pe_tup (pa_cons (pe_callB (cr_min rfl) (by rfl) T.min (by decide +kernel) (pa_cons (pv 5) pa_nil)) (pa_cons (pe_callB (cr_max rfl) (by rfl) T.max (by decide +kernel) (pa_cons (pv 5) pa_nil)) pa_nil))))))))), ?_⟩
  refine fun pl npl => ?_
  refine fun pp npp => ?_
  have ne1 : pl ≠ pp := ne_of_none upd_same npp
  have npp0 : H pp = none := by rw [upd_ne ne1.symm] at npp; exact npp
  have nq1 : q0 ≠ pl := ne_of_none hq npl
  have nq2 : q0 ≠ pp := ne_of_none hq npp0
  have fr2 : ∀ b o, b ≠ pl → b ≠ pp → H b = some o → (upd (upd H pl (.dK [])) pp (.dK [])) b = some o := fun b o h1 h2 e => by rw [upd_ne h2, upd_ne h1]; exact e
  have hq2 := fr2 _ _ nq1 nq2 hq
  have hpl2 : (upd (upd H pl (.dK [])) pp (.dK [])) pl = some (.dK []) := by rw [upd_ne ne1, upd_same]
  have hpp2 : (upd (upd H pl (.dK [])) pp (.dK [])) pp = some (.dK []) := upd_same
  generalize upd (upd H pl (.dK [])) pp (.dK []) = H2 at fr2 hq2 hpl2 hpp2
  refine ⟨q0, _, hq2, trivial, fun od => ?_⟩
  have frL : ∀ b o, b ≠ pl → b ≠ pp → b ≠ q0 → H b = some o → (upd H2 q0 (.frz od (.dK kvs))) b = some o := fun b o h1 h2 h3 e => by rw [upd_ne h3]; exact fr2 b o h1 h2 e
  refine ⟨_, rfl, q0, od, kvs, rfl, upd_same, ?_⟩
  refine for_it (walk_items (d := q0) (o := od) (kvs := kvs)) (fun i σ H3 => ∃ l1 l2 y3 y4 y5, σ = [some (.ref q0), some (.ref pl), some (.ref pp), y3, y4, y5] ∧ (∀ b o, b ≠ pl → b ≠ pp → b ≠ q0 → H b = some o → H3 b = some o) ∧ H3 q0 = some (.frz od (.dK kvs)) ∧ H3 pl = some (.dK l1) ∧ H3 pp = some (.dK l2) ∧ Cnt ds shut room ks i l1 l2)
    ⟨[], [], _, _, _, rfl, frL, upd_same, by rw [upd_ne nq1.symm]; exact hpl2, by rw [upd_ne nq2.symm]; exact hpp2, ⟨rfl, fun x hx => (List.not_mem_nil hx).elim, fun y => rfl, Nat.le_refl _⟩⟩ (fun i σ H3 _ ⟨_, _, _, _, _, _, _, h, _⟩ => h) ?_ ?_
  · rintro i x σ H3 H4 hi ⟨l1, l2, y3, y4, y5, rfl, fr, h3q, h3l, h3p, cn⟩ ⟨t, x1, x2, rfl, nt, rfl, ex1, ex2⟩
    obtain ⟨kv, hkv⟩ : ∃ kv, kvs[i]? = some kv := get_of rfl hi
    obtain ⟨e, he⟩ : ∃ e, ks[i]? = some e := get_of rfl (by rw [← kl]; exact hi)
    obtain ⟨r1, r2⟩ := paired_get r hkv he
    have ex1 : kV kv.1 = x1 := by
      have ex1 : (kvs[i]?.map fun kv => kV kv.1) = some x1 := ex1
      rw [hkv] at ex1
      exact Option.some.inj ex1
    have ex2 : kv.2 = x2 := by
      have ex2 : (kvs[i]?.map Prod.snd) = some x2 := ex2
      rw [hkv] at ex2
      exact Option.some.inj ex2
    subst ex1 ex2
    rw [r1]
    have st : ∀ b o, H3 b = some o → (upd H3 t (.tup [kV (Sum.inl (e.1 : Int)), kv.2])) b = some o := fun b o z => Same.upd nt b o z
    have ntq : t ≠ q0 := (ne_of_none h3q nt).symm
    refine ⟨t, _, rfl, SqT.of upd_same, rfl, _, _, rfl, _, _, rfl, rfl, ?_⟩
    have fr5 : ∀ b o, b ≠ pl → b ≠ pp → b ≠ q0 → H b = some o → (upd H3 t (.tup [kV (Sum.inl (e.1 : Int)), kv.2])) b = some o := fun b o h1 h2 h3 z => st b o (fr b o h1 h2 h3 z)
    have h5q := st _ _ h3q
    have h5l := st _ _ h3l
    have h5p := st _ _ h3p
    generalize upd H3 t (.tup [kV (Sum.inl (e.1 : Int)), kv.2]) = H5 at fr5 h5q h5l h5p
    have nk := fresh_key rg.df.nd he
    have l1l : l1.length ≤ ks.length := by
      have e := congrArg List.length cn.keys
      simp only [List.length_map, List.length_take] at e
      omega
    have l2l := cn.few
    have hil : i < ks.length := get_lt he
    have hkey : e.1 ∈ ks.map Prod.fst := List.mem_map.mpr ⟨_, List.mem_of_getElem? he, rfl⟩
    have newk : (Sum.inl (e.1 : Int) : Key) ∉ l1.map (fun kv : Key × V => kv.1) := by
      have e0 : l1.map (fun kv : Key × V => kv.1) = (((ks.take i).map Prod.fst).map fun y : Nat => (y : Int)).map Sum.inl := cn.keys
      rw [e0]
      exact fun z => nk (inl_mem.mp z)
    refine ⟨_, rfl, _, rfl, pl, _, rfl, DPut.k (k := Sum.inl (e.1 : Int)) h5l (small1000 (by omega)), ?_⟩
    have h6l : (upd H5 pl (.dK (putK l1 (Sum.inl (e.1 : Int)) (.int 0)))) pl = some (.dK (putK l1 (Sum.inl (e.1 : Int)) (.int 0))) := upd_same
    have h6p : (upd H5 pl (.dK (putK l1 (Sum.inl (e.1 : Int)) (.int 0)))) pp = some (.dK l2) := by rw [upd_ne ne1.symm]; exact h5p
    have h6q : (upd H5 pl (.dK (putK l1 (Sum.inl (e.1 : Int)) (.int 0)))) q0 = some (.frz od (.dK kvs)) := by rw [upd_ne nq1]; exact h5q
    have fr6 : ∀ b o, b ≠ pl → b ≠ pp → b ≠ q0 → H b = some o → (upd H5 pl (.dK (putK l1 (Sum.inl (e.1 : Int)) (.int 0)))) b = some o := fun b o h1 h2 h3 z => by rw [upd_ne h1]; exact fr5 b o h1 h2 h3 z
    have k6 : (putK l1 (Sum.inl (e.1 : Int)) (.int 0)).map (fun kv : Key × V => kv.1) = (((ks.take (i + 1)).map Prod.fst).map fun y : Nat => (y : Int)).map Sum.inl := by
      have e0 : l1.map (fun kv : Key × V => kv.1) = (((ks.take i).map Prod.fst).map fun y : Nat => (y : Int)).map Sum.inl := cn.keys
      rw [keys_new newk, e0, take_keys he, List.map_append, List.map_append]
      rfl
    have lp1 := putlen l1 (Sum.inl (e.1 : Int)) (.int 0)
    generalize upd H5 pl (.dK (putK l1 (Sum.inl (e.1 : Int)) (.int 0))) = H6 at h6l h6p h6q fr6
    obtain ⟨px, wx⟩ := rg.way hkey
    have ks_i := List.mem_of_getElem? he
    obtain ⟨xe, oe⟩ := e
    cases oe with
    | none =>
      have hv : kv.2 = .non := r2
      rw [hv]
      have ex : xe = room := rg.pt.fin _ ks_i
      refine ⟨_, rfl, rfl, _, rfl, iteF ⟨_, l2, _, _, _, rfl, fr6, h6q, h6l, h6p, ⟨k6, fun x hx => ?_, fun y => ?_, by omega⟩⟩⟩
      · rw [valV_put]
        rw [take_keys he] at hx
        rcases List.mem_append.mp hx with hx | hx
        · have ne : (Sum.inl (x : Int) : Key) ≠ Sum.inl (xe : Int) := fun z => by
            have z := Sum.inl.inj z
            have : x = xe := by omega
            exact nk (this ▸ hx)
          rw [if_neg ne]
          exact cn.val x hx
        · rw [List.mem_singleton] at hx
          have hx : x = xe := hx
          subst hx
          rw [if_pos rfl]
          have w0 : Way ds shut x x [] := ⟨.nil _, List.nodup_nil, fun d h => (List.not_mem_nil h).elim⟩
          rw [← ex, dep_is tree w0]
          rfl
      · rw [cn.pas y, take_par he]
        simp
    | some c =>
      obtain ⟨tt, hv, htt⟩ := r2
      rw [hv]
      obtain ⟨j, ns, hy, lt⟩ := rg.pt.st _ c.1 c.2 ks_i
      obtain ⟨py, wy⟩ := rg.way hy
      have wc := rg.child tree ks_i wy
      have htt6 := fr6 _ _ (fun z => by rw [z, npl] at htt; cases htt) (fun z => by rw [z, npp0] at htt; cases htt) (fun z => by rw [z, hq] at htt; cases htt) htt
      have yin : c.2 ∈ (ks.take i).map Prod.fst := by
        have hidx : (ks.map Prod.fst).idxOf xe = i := by
          have h2 : (ks.map Prod.fst)[i]? = some xe := by rw [List.getElem?_map, he]; rfl
          have l2 := get_lt h2
          rw [List.getElem?_eq_getElem l2] at h2
          have := List.Nodup.idxOf_getElem rg.df.nd i l2
          rw [Option.some.inj h2] at this
          exact this
        rw [List.map_take]
        have ly := List.idxOf_lt_length_iff.mpr hy
        have h3 : (ks.map Prod.fst)[(ks.map Prod.fst).idxOf c.2]? = some c.2 := by
          rw [List.getElem?_eq_getElem ly]
          exact congrArg some (List.getElem_idxOf ly)
        refine List.mem_of_getElem? (i := (ks.map Prod.fst).idxOf c.2) ?_
        rw [List.getElem?_take, if_pos (by omega)]
        exact h3
      have vy : valV (putK l1 (Sum.inl (xe : Int)) (.int 0)) (Sum.inl (c.2 : Int)) = some (.int (dep ds shut room c.2 : Int)) := by
        have ne : (Sum.inl (c.2 : Int) : Key) ≠ Sum.inl (xe : Int) := fun z => by
          have z := Sum.inl.inj z
          have : c.2 = xe := by omega
          exact nk (this ▸ yin)
        rw [valV_put, if_neg ne]
        exact cn.val _ yin
      refine ⟨_, rfl, rfl, _, rfl, iteT ?_⟩
      refine ⟨_, rfl, _, rfl, tt, _, _, _, rfl, rfl, SqT.of htt6, atI_nat (j := 1) rfl, pl, _, rfl, by rw [← vy]; exact DGet.k (k := Sum.inl (c.2 : Int)) h6l, _, _, rfl, rfl, _, rfl, _, rfl, pl, _, rfl, DPut.k (k := Sum.inl (xe : Int)) h6l (small1000 (by omega)), ?_⟩
      refine ⟨_, rfl, _, rfl, tt, _, _, _, rfl, rfl, SqT.of (by rw [upd_ne (fun z => by rw [z, h6l] at htt6; cases htt6)]; exact htt6), atI_nat (j := 1) rfl, pp, _, rfl, DPut.k (k := Sum.inl (c.2 : Int)) (by rw [upd_ne ne1.symm]; exact h6p) (small1000 (by omega)), ?_⟩
      have lp2 := putlen l2 (Sum.inl (c.2 : Int)) (.bl true)
      refine ⟨_, _, _, _, _, rfl, fun b o h1 h2 h3 z => by rw [upd_ne h2, upd_ne h1]; exact fr6 b o h1 h2 h3 z, by rw [upd_ne nq2, upd_ne nq1]; exact h6q, by rw [upd_ne ne1, upd_same], upd_same, ⟨?_, fun x hx => ?_, fun y => ?_, by omega⟩⟩
      · have z := keys_old (kvs := putK l1 (Sum.inl (xe : Int)) (.int 0)) (k := Sum.inl (xe : Int)) (v := .int ((dep ds shut room c.2 : Int) + 1)) (by
          rw [k6]
          exact inl_mem.mpr (by rw [take_keys he]; simp))
        exact z.trans k6
      · rw [valV_put]
        rw [take_keys he] at hx
        rcases List.mem_append.mp hx with hx | hx
        · have ne : (Sum.inl (x : Int) : Key) ≠ Sum.inl (xe : Int) := fun z => by
            have z := Sum.inl.inj z
            have : x = xe := by omega
            exact nk (this ▸ hx)
          rw [if_neg ne, valV_put, if_neg ne]
          exact cn.val x hx
        · rw [List.mem_singleton] at hx
          have hx : x = xe := hx
          subst hx
          rw [if_pos rfl, dep_is tree wc, dep_is tree wy, List.length_append]
          rfl
      · rw [valV_put, take_par he]
        by_cases ey : (Sum.inl (y : Int) : Key) = Sum.inl (c.2 : Int)
        · have z := Sum.inl.inj ey
          have : y = c.2 := by omega
          subst this
          rw [if_pos rfl]
          simp
        · rw [if_neg ey, cn.pas y]
          have : y ≠ c.2 := fun z => ey (by rw [z])
          simp [this]
  · rintro σ H3 ⟨l1, l2, y3, y4, y5, rfl, fr, h3q, h3l, h3p, cn⟩
    refine ⟨h3q, ?_⟩
    rw [kl] at cn
    have s4l : (upd H3 q0 (.dK kvs)) pl = some (.dK l1) := by rw [upd_ne nq1.symm]; exact h3l
    have s4p : (upd H3 q0 (.dK kvs)) pp = some (.dK l2) := by rw [upd_ne nq2.symm]; exact h3p
    have s4 : Same H (upd H3 q0 (.dK kvs)) := fun b o z => by
      by_cases c : b = q0
      · subst c
        rw [upd_same, ← hq]
        exact z
      · rw [upd_ne c]
        exact fr b o (ne_of_none z npl) (ne_of_none z npp0) c z
    generalize upd H3 q0 (.dK kvs) = H4 at s4 s4l s4p
    refine ⟨pl, _, s4l, trivial, fun od2 => ?_⟩
    have L1 : l1.map (fun kv : Key × V => kv.1) = ((ks.map Prod.fst).map fun y : Nat => (y : Int)).map Sum.inl := by
      have z := cn.keys
      rw [List.take_length] at z
      exact z
    have l1l : l1.length = ks.length := by
      have z := congrArg List.length L1
      simpa using z
    have hpL : (upd H4 pl (.frz od2 (.dK l1))) pp = some (.dK l2) := by rw [upd_ne ne1.symm]; exact s4p
    have hlL : (upd H4 pl (.frz od2 (.dK l1))) pl = some (.frz od2 (.dK l1)) := upd_same
    have frL : ∀ b o, b ≠ pl → H4 b = some o → (upd H4 pl (.frz od2 (.dK l1))) b = some o := fun b o c z => by rw [upd_ne c]; exact z
    refine ⟨_, rfl, pl, od2, rfl, .inl ⟨l1, hlL, fun pe npe => ?_⟩⟩
    have nep : pe ≠ pl := (ne_of_none hlL npe).symm
    have npe4 : H4 pe = none := by
      cases z : H4 pe with
      | none => rfl
      | some o => rw [frL pe o nep z] at npe; cases npe
    have npe0 := s4.free npe4
    refine lc_it (walk_keys (d := pl) (o := od2) (kvs := l1)) (fun i H5 => (∀ b o, b ≠ pe → (upd H4 pl (.frz od2 (.dK l1))) b = some o → H5 b = some o) ∧ H5 pe = some (.lst (nv ((((ks.take i).map Prod.fst).filter fun x => decide (x ∉ par ks)).map (dep ds shut room)))))
      ⟨fun b o c z => by rw [upd_ne c]; exact z, upd_same⟩ (fun i H5 _ h => h.1 _ _ nep.symm hlL) ?_ ?_
    · rintro i x H5 H6 hi ⟨fr5, he5⟩ ⟨rfl, k, v, hkv, rfl⟩
      obtain ⟨e, he⟩ : ∃ e, ks[i]? = some e := get_of rfl (by rw [← l1l]; exact hi)
      have hk : k = Sum.inl (e.1 : Int) := by
        have z : (l1.map (fun kv : Key × V => kv.1))[i]? = some k := by rw [List.getElem?_map, hkv]; rfl
        rw [L1, List.getElem?_map, List.getElem?_map, List.getElem?_map, he] at z
        exact (Option.some.inj z).symm
      subst hk
      have h5p := fr5 _ _ (fun z => by rw [z, npe] at hpL; cases hpL) hpL
      have h5l := fr5 _ _ nep.symm hlL
      have pas := cn.pas e.1
      rw [List.take_length] at pas
      have hkey : e.1 ∈ ks.map Prod.fst := List.mem_map.mpr ⟨_, List.mem_of_getElem? he, rfl⟩
      have vx := cn.val e.1 (by rw [List.take_length]; exact hkey)
      refine ⟨rfl, _, rfl, _, rfl, pp, _, rfl, DGet.k (k := Sum.inl (e.1 : Int)) h5p, _, rfl, ?_⟩
      rw [pas]
      by_cases c : e.1 ∈ par ks
      · rw [decide_eq_true c]
        refine iteF ⟨fr5, ?_⟩
        rw [he5, take_keys he, List.filter_append]
        simp [c]
      · rw [decide_eq_false c]
        refine iteT ⟨_, rfl, _, rfl, pl, .int (dep ds shut room e.1 : Int), rfl, .inl ⟨l1, Sum.inl (e.1 : Int), .inr ⟨od2, h5l⟩, rfl, vx.symm⟩, _, he5, ?_, fun b o d z => by rw [upd_ne d]; exact fr5 b o d z, ?_⟩
        · rw [nv_len, List.length_map]
          have h1 := List.length_filter_le (fun x => decide (x ∉ par ks)) ((ks.take i).map Prod.fst)
          rw [List.length_map, List.length_take] at h1
          exact small1000 (by omega)
        · rw [upd_same, take_keys he, List.filter_append, List.map_append]
          have e1 : [e.1].filter (fun x => decide (x ∉ par ks)) = [e.1] := by simp [c]
          rw [e1]
          show some (HO.lst (_ ++ [V.int _])) = some (HO.lst (nv (_ ++ [dep ds shut room e.1])))
          rw [nv_snoc]
    · rintro H5 ⟨fr5, he5⟩
      rw [l1l, List.take_length] at he5
      refine ⟨fr5 _ _ nep.symm hlL, ?_⟩
      have sF : Same H (upd H5 pl (.dK l1)) := fun b o z => by
        have c1 := ne_of_none z npl
        have c2 := ne_of_none z npe0
        rw [upd_ne c1]
        exact fr5 b o c2 (frL b o c1 (s4 b o z))
      have heF : (upd H5 pl (.dK l1)) pe = some (.lst (nv (((ks.map Prod.fst).filter fun x => decide (x ∉ par ks)).map (dep ds shut room)))) := by rw [upd_ne nep]; exact he5
      generalize upd H5 pl (.dK l1) = H6 at sF heF
      have mem : ∀ k, k ∈ (((ks.map Prod.fst).filter fun x => decide (x ∉ par ks)).map (dep ds shut room)) ↔ EndAt ds shut room k := by
        intro k
        rw [rg.ends tree k, List.mem_map]
        constructor
        · rintro ⟨x, hx, rfl⟩
          obtain ⟨h1, h2⟩ := List.mem_filter.mp hx
          have h2 := of_decide_eq_true h2
          obtain ⟨p, wp⟩ := rg.way h1
          exact ⟨x, p, h1, fun z => h2 (mem_par.mpr z), wp, (dep_is tree wp).symm⟩
        · rintro ⟨x, p, h1, h2, wp, rfl⟩
          exact ⟨x, List.mem_filter.mpr ⟨h1, decide_eq_true fun z => h2 (mem_par.mp z)⟩, dep_is tree wp⟩
      have pos : 0 < (((ks.map Prod.fst).filter fun x => decide (x ∉ par ks)).map (dep ds shut room)).length := by
        obtain ⟨x, h1, h2⟩ := rg.has_leaf
        exact List.length_pos_of_mem (List.mem_map.mpr ⟨x, List.mem_filter.mpr ⟨h1, decide_eq_true h2⟩, rfl⟩)
      generalize (((ks.map Prod.fst).filter fun x => decide (x ∉ par ks)).map (dep ds shut room)) = E at heF mem pos
      rw [nv_int] at heF
      refine ⟨_, rfl, pe, E.map (fun x : Nat => (x : Int)), rfl, SqL.of heF, by rw [List.length_map]; exact pos, fun m1 a1 a2 => ⟨_, rfl, pe, E.map (fun x : Nat => (x : Int)), rfl, SqL.of heF, by rw [List.length_map]; exact pos, fun m2 b1 b2 => ⟨by show 2 ≤ sizeLine; decide, fun t nt => ?_⟩⟩⟩
      obtain ⟨lo, hlo, rfl⟩ := List.mem_map.mp a1
      obtain ⟨hi, hhi, rfl⟩ := List.mem_map.mp b1
      refine q _ t lo hi (sF.trans (Same.upd nt)) (sF.free nt) upd_same ⟨(mem lo).mp hlo, (mem hi).mp hhi, fun k hk => ?_⟩
      have hk := (mem k).mpr hk
      have z1 := a2 (k : Int) (List.mem_map.mpr ⟨k, hk, rfl⟩)
      have z2 := b2 (k : Int) (List.mem_map.mpr ⟨k, hk, rfl⟩)
      omega
end
end K5

namespace K5
open PySem PySem.Spec PyProof.Rows L2
/-- the fewest and the most steps of each person -/
def Lens (ds : List (Nat × Nat)) (S : S2) (k : Nat) (l : List (Nat × Nat)) : Prop := l.length = k ∧ ∀ (p : Nat) (e : Nat × Nat), l[p]? = some e → MinMax (EndAt ds (barr S p) (S.1.getD p 0)) e.1 e.2
theorem Lens.unique {ds S k l l'} (a : Lens ds S k l) (b : Lens ds S k l') : l = l' := by
  apply List.ext_getElem?
  intro i
  by_cases h : i < k
  · obtain ⟨e, he⟩ : ∃ e, l[i]? = some e := get_of a.1 h
    obtain ⟨e', he'⟩ : ∃ e, l'[i]? = some e := get_of b.1 h
    obtain ⟨h1, h2⟩ := (a.2 i e he).unique (b.2 i e' he')
    rw [he, he']
    congr 1
    exact Prod.ext h1 h2
  · rw [List.getElem?_eq_none (by have := a.1; omega), List.getElem?_eq_none (by have := b.1; omega)]
def spLens (K : PySem.W.Frag) : Sp := fun vs H Q _ => ∃ (a s : Addr) (n : Nat) (ds : List (Nat × Nat)) (S : S2), vs = [.ref a, .ref s] ∧ HouseAt K H a ds ∧ Tree n ds ∧ n ≤ 60 ∧ StateAt K H s S ∧ StOk n ds S ∧
  ∀ (Ls : List (List Nat)), Regs n ds S S.1.length Ls → ((¬ Ls.flatten.Nodup → ∀ H', Same H H' → Q .non H') ∧ (Ls.flatten.Nodup → ∀ (H' : Hp) (q : Addr) (l : List (Nat × Nat)), Same H H' → H q = none → PairsAt H' q l → Lens ds S S.1.length l → Q (.ref q) H'))
section
variable {P : Program} {w : World} {K : PySem.W.Frag}
      {mg : Str → Option Value} {base : Heap}
theorem ok_walk_lengths (T : Bl mg) (D : Def K mg "walk_lengths" s_walk_lengths) (C_is_apart : Cal P w K mg base "is_apart" ["house", "state"] 8 (spApart K)) (C_fewest_and_most : Cal P w K mg base "fewest_and_most" ["ways"] 1 (spFew K)) (C_region_ways : Cal P w K mg base "region_ways" ["house", "state", "person"] 3 (spRegWays K)) :
    CalK P w K mg base "walk_lengths" ["house", "state"] 9 (spLens K) ["state", "house"] rev2 rev2 := by
  refine D.okK sc_walk_lengths (fun _ _ _ _ _ _ us ws hl => match us, ws, hl with | [], [_, _], _ => rfl) rev2_vals (fun _ _ _ _ _ _ us hl => match us, hl with | [_, _], _ => rfl) (fun vs H Q E h => ?_) (fun f cdv A outer s H vs Q E hr h => ?_)
  · obtain ⟨a, s, n, ds, S, rfl, _⟩ := h
    rfl
  obtain ⟨a, s, n, ds, S, rfl, hH, tree, hn, st, ok, q⟩ := h
  obtain ⟨r, b, h1, h2, h3⟩ := id st
  have few := ok.few
  obtain ⟨f_is_apart, fd_is_apart, g_is_apart, k_is_apart, b_is_apart, G_is_apart⟩ := C_is_apart
  obtain ⟨f_fewest_and_most, fd_fewest_and_most, g_fewest_and_most, k_fewest_and_most, b_fewest_and_most, G_fewest_and_most⟩ := C_fewest_and_most
  obtain ⟨f_region_ways, fd_region_ways, g_region_ways, k_region_ways, b_region_ways, G_region_ways⟩ := C_region_ways
  refine ⟨_, (pss_cons (ps_if (pt_not (pt_val (pe_call G_is_apart (hr.mono (by decide)) (by rfl) g_is_apart k_is_apart b_is_apart .nil pass0 (pa_cons (pv 0) (pa_cons (pv 1) pa_nil))))) (pss_one (ps_ret pe_non)) pss_nil)
    (pss_one (ps_ret (pe_lc (own := [("person", 2)]) (g := gName 2)  rfl sc_walk_lengths.nd (pi_range1 rfl T.range (pa_cons (pe_callB call_len_seq (by rfl) T.len PySem.boot_len (pa_cons (pe_ix ix_tup (pv 1) pe_int (fun _ _ => rfl)) pa_nil)) pa_nil)) (blkOk_by (N := N_walk_lengths) (sc := defScope s_walk_lengths) (own := [("person", 2)]) (by decide +kernel)) (fun _ _ _ _ _ => (pg_name (i := 2) sc_walk_lengths.nd rfl (.inl rfl) (.inr rfl))) (fun _ _ _ _ _ => pts_nil) (fun _ _ _ _ _ => (pe_call G_fewest_and_most (hr.mono (by decide)) (by rfl) g_fewest_and_most k_fewest_and_most b_fewest_and_most .nil pass0 (pa_cons (pe_call G_region_ways (hr.mono (by decide)) (by rfl) g_region_ways k_region_ways b_region_ways .nil pass0 (pa_cons (pv 0) (pa_cons (pv 1) (pa_cons (pv 2) pa_nil)))) pa_nil))))))), ?_⟩
  refine ⟨_, rfl, _, rfl, a, s, n, ds, S, rfl, hH, tree, hn, st, ok, fun H1 Ls s1 rg => ?_⟩
  obtain ⟨qn, qy⟩ := q Ls rg
  by_cases c : Ls.flatten.Nodup
  · rw [decide_eq_true c]
    refine ⟨_, rfl, iteF ?_⟩
    refine ⟨_, rfl, s, _, _, _, rfl, rfl, s1.tup h1, atI_nat (j := 0) rfl, _, _, rfl, .inr (s1.tup h2), (S.1.length : Int), congrArg (fun z : Nat => [V.int (z : Int)]) (nv_len _), by omega, by omega, fun pd npd => ?_⟩
    refine lc_range (lo := 0) (n := S.1.length) (fun i H2 => ∃ l, Same H1 H2 ∧ PairsAt H2 pd l ∧ Lens ds S i l) ?_ ?_ ?_
    · exact ⟨[], Same.upd npd, ⟨[], upd_same, rfl, fun i t e h => by simp at h⟩, rfl, fun p e h => by simp at h⟩
    · rintro i H2 hi ⟨l, sm, pa, ln⟩
      rw [Int.zero_add]
      refine ⟨rfl, lcYes ?_⟩
      have s12 := s1.trans sm
      refine ⟨_, rfl, _, rfl, _, rfl, a, s, i, n, ds, S, rfl, hH.same s12, tree, by omega, st.same s12, ok, hi, fun H3 q3 kvs ks s3 nq3 hq3 r3 rg3 => ?_⟩
      refine ⟨q3, n, S.1.getD i 0, ds, barr S i, kvs, ks, rfl, hq3, r3, tree, rg3, hn, fun H4 t lo hi' s4 nt ht mm => ?_⟩
      obtain ⟨ts, f1, f2, f3⟩ := (pa.same s3).same s4
      refine ⟨_, f1, by rw [List.length_map, f2, ln.1]; exact small1000 (by omega), l ++ [(lo, hi')], ((sm.trans s3).trans s4).at npd, .push (ts := ts) f1 f2 f3 (fun b o ne e => by rw [upd_ne ne]; exact e) upd_same (by rw [upd_ne (ne_lt f1 ht)]; exact ht), ?_⟩
      refine ⟨by rw [List.length_append, ln.1]; rfl, fun p e he => ?_⟩
      by_cases d : p < l.length
      · rw [List.getElem?_append_left d] at he
        exact ln.2 p e he
      · have hlt := get_lt he
        rw [List.length_append, List.length_singleton] at hlt
        have ep : p = i := by have := ln.1; omega
        subst ep
        rw [List.getElem?_append_right (by rw [ln.1]; exact Nat.le_refl _), ln.1, Nat.sub_self] at he
        cases he
        exact mm
    · rintro H2 ⟨l, sm, pa, ln⟩
      exact qy c H2 pd l (s1.trans sm) (s1.free npd) pa ln
  · rw [decide_eq_false c]
    exact ⟨_, rfl, iteT (qn c H1 s1)⟩
end
end K5

namespace K5
open PySem PySem.Spec PyProof.Rows L2
/-- all persons in one room -/
def AllAt (S : S2) (v : Nat) : Prop := ∀ u ∈ S.1, u = v
/-- each door barred for p -/
def Stuck (ds : List (Nat × Nat)) (S : S2) (p : Nat) : Prop := ∀ d x y, Joins ds d x y → S.2[d]? = some p
theorem Stuck.walk {ds : List (Nat × Nat)} {S : S2} {p : Nat} (h : Stuck ds S p) : ∀ {u : Nat} {w : List Nat} {x : Nat}, Walk ds u w x → (∀ e ∈ w, S.2[e]? ≠ some p) → w = [] ∧ x = u
  | _, _, _, .nil _, _ => ⟨rfl, rfl⟩
  | _, _, _, .cons j _, hn => absurd (h _ _ _ j) (hn _ List.mem_cons_self)
theorem only_one : ∀ {L : List Nat} {v : Nat}, L.Nodup → (∀ x, x ∈ L ↔ x = v) → L = [v]
  | [], v, _, h => absurd ((h v).mpr rfl) (by simp)
  | [a], v, _, h => by rw [(h a).mp (List.mem_singleton.mpr rfl)]
  | a :: b :: r, v, nd, h => by
    have e1 := (h a).mp List.mem_cons_self
    have e2 := (h b).mp (List.mem_cons_of_mem _ List.mem_cons_self)
    rw [e1, e2] at nd
    exact absurd nd (by simp)
theorem Stuck.set {ds : List (Nat × Nat)} {S : S2} {p room : Nat} {L : List Nat} (h : Stuck ds S p) (r : RegSet ds (barr S p) room L) : L = [room] := by
  refine only_one r.nd fun x => ?_
  rw [r.mem]
  constructor
  · rintro ⟨w, wk, hw⟩
    exact (h.walk wk fun e he z => hw e he (mem_barr.mpr z)).2
  · rintro rfl
    exact ⟨[], .nil _, fun d h => nomatch h⟩
theorem Stuck.reg {n : Nat} {ds : List (Nat × Nat)} {S : S2} {p room : Nat} {ks} {L : List Nat} (h : Stuck ds S p) (r : Reg n ds (barr S p) room ks) (pm : L.Perm (ks.map Prod.fst)) : L = [room] := h.set (r.set.of_perm pm)
theorem Stuck.lens {ds : List (Nat × Nat)} {S : S2} {l : List (Nat × Nat)} (h : Stuck ds S 0) (hl : Lens ds S 1 l) : l = [(0, 0)] := by
  obtain ⟨e1, e2⟩ := hl
  match l, e1, e2 with
  | [e], _, e2 =>
    have mm := e2 0 e rfl
    have z : ∀ k, EndAt ds (barr S 0) (S.1.getD 0 0) k → k = 0 := by
      rintro k ⟨x, p, wy, rfl, _⟩
      rw [(h.walk wy.w fun e he z => wy.un e he (mem_barr.mpr z)).1]
      rfl
    rw [show e = (0, 0) from Prod.ext (z _ mm.isLo) (z _ mm.isHi)]
theorem one_apt {ds : List (Nat × Nat)} {S : S2} (h : S.1.length = 1) : Apt ds S := fun p q x ⟨_, _, hu, _⟩ ⟨_, _, hv, _⟩ => by
  have := get_lt hu
  have := get_lt hv
  omega
section
variable {n : Nat} {ds : List (Nat × Nat)} {S : S2} {v : Nat}
theorem AllAt.get (h : AllAt S v) {p : Nat} (hp : p < S.1.length) : S.1[p]? = some v := by
  obtain ⟨u, hu⟩ : ∃ u, S.1[p]? = some u := get_of rfl hp
  rw [hu, h u (List.mem_of_getElem? hu)]
theorem AllAt.not_apt (h : AllAt S v) (h2 : 2 ≤ S.1.length) : ¬ Apt ds S := fun a =>
  absurd (a 0 1 v (Rg.here (h.get (by omega))) (Rg.here (h.get (by omega)))) (by decide)
theorem AllAt.first {m : List Mv} (T : Tree n ds) (o : StOk n ds S) (h : AllAt S v) (h2 : 2 ≤ S.1.length) (f : FirstM ds S m) : m = [] := by
  have l := (f.lst T o).2 0 1 0 (by decide) ⟨v, v, v, [], Rg.here (h.get (by omega)), Rg.here (h.get (by omega)), h.get (by omega), h.get (by omega), .nil _, List.nodup_nil, rfl⟩
  exact List.eq_nil_of_length_eq_zero (by omega)
theorem AllAt.lt (o : StOk n ds S) (h : AllAt S v) : v < n := o.rooms v (List.mem_of_getElem? (h.get (p := 0) (by have := o.one; omega)))
theorem AllAt.door (o : StOk n ds S) (h : AllAt S v) {d x y : Nat} (j : Joins ds d x y) (c : Con ds (Ex ds S) v x) : Ex ds S d := by
  have ld : d < ds.length := by rcases j with j | j <;> exact get_lt j
  obtain ⟨p, hp⟩ : ∃ p, S.2[d]? = some p := get_of rfl (by rw [o.doors]; exact ld)
  have lp := o.bars p (List.mem_of_getElem? hp)
  obtain ⟨u, w, hu⟩ := c
  exact .mk hp (h.get lp) j w hu
theorem AllAt.con (T : Tree n ds) (o : StOk n ds S) (h : AllAt S v) {x : Nat} (hx : x < n) : Con ds (Ex ds S) v x := by
  refine T.conn (fun x => Con ds (Ex ds S) v x) (fun e he => ?_) v x (h.lt o) hx (Con.refl _)
  obtain ⟨d, hd⟩ := List.mem_iff_getElem?.mp he
  have j : Joins ds d e.1 e.2 := .inl hd
  exact ⟨fun c => c.trans (.door j (h.door o j c)), fun c => c.trans (.door j.symm (h.door o j.symm c))⟩
theorem AllAt.mark {M J : List Nat} (T : Tree n ds) (o : StOk n ds S) (h : AllAt S v) (mk : Mk n ds S M J) (cl : ∀ d, d < ds.length → Closed ds S M d) {x : Nat} (hx : x < n) : M.getD x 0 = 0 := by
  have h0 : 0 < n := by omega
  have e := (mk.con_ex T cl hx h0).mpr ((h.con T o hx).symm.trans (h.con T o h0))
  have := mk.lo h0
  omega
theorem AllAt.grps {M J : List Nat} (T : Tree n ds) (o : StOk n ds S) (h : AllAt S v) (mk : Mk n ds S M J) (cl : ∀ d, d < ds.length → Closed ds S M d) : grps M = [List.range n] := by
  have h0 : 0 < n := by have := h.lt o; omega
  have g : ∀ x, x < n → M[x]? = some 0 := fun x hx => by rw [mk.get hx, h.mark T o mk cl hx]
  have r : rt M n = [0] := by
    refine only_one (List.nodup_range.filter _) fun x => ?_
    rw [mem_rt]
    constructor
    · rintro ⟨lx, e⟩
      rw [g x lx] at e
      exact (Option.some.inj e).symm
    · rintro rfl
      exact ⟨h0, g 0 h0⟩
  have k : gk M 0 n = List.range n := by
    unfold gk
    rw [List.filter_eq_self]
    intro y hy
    rw [g y (List.mem_range.mp hy)]
    simp
  unfold K5.grps
  rw [mk.len, r, List.map_cons, List.map_nil, k]
theorem AllAt.exd {M J : List Nat} (T : Tree n ds) (o : StOk n ds S) (h : AllAt S v) (mk : Mk n ds S M J) (cl : ∀ d, d < ds.length → Closed ds S M d) : exd M ds = List.range ds.length := by
  unfold K5.exd
  rw [List.filter_eq_self]
  intro d hd
  obtain ⟨e, he⟩ : ∃ e, ds[d]? = some e := get_of rfl (List.mem_range.mp hd)
  have le := T.lt e (List.mem_of_getElem? he)
  have e1 : ds.getD d (0, 0) = e := by
    rw [List.getD_eq_getElem?_getD, he]
    rfl
  rw [e1, h.mark T o mk cl le.1, h.mark T o mk cl le.2]
  simp
/-- the doors at v -/
def nears (ds : List (Nat × Nat)) (v k : Nat) : List Nat := (List.range k).filter fun d => decide (v = (ds.getD d (0, 0)).1 ∨ v = (ds.getD d (0, 0)).2)
theorem nears_succ (k : Nat) : nears ds v (k + 1) = nears ds v k ++ if v = (ds.getD k (0, 0)).1 ∨ v = (ds.getD k (0, 0)).2 then [k] else [] := by
  unfold nears
  rw [List.range_succ, List.filter_append]
  by_cases c : v = (ds.getD k (0, 0)).1 ∨ v = (ds.getD k (0, 0)).2
  · rw [if_pos c, List.filter_cons, if_pos (decide_eq_true c)]
    rfl
  · rw [if_neg c, List.filter_cons, if_neg (by rw [decide_eq_false c]; decide)]
    rfl
theorem nears_len (k : Nat) : (nears ds v k).length ≤ k := by
  have h := List.length_filter_le (fun d => decide (v = (ds.getD d (0, 0)).1 ∨ v = (ds.getD d (0, 0)).2)) (List.range k)
  rw [List.length_range] at h
  exact h
theorem AllAt.lms (o : StOk n ds S) (h : AllAt S v) : ∀ k, k ≤ ds.length → (lms ds S k).length = (nears ds v k).length
  | 0, _ => rfl
  | k + 1, hk => by
    obtain ⟨p, hp⟩ : ∃ p, S.2[k]? = some p := get_of rfl (by rw [o.doors]; omega)
    have lp := o.bars p (List.mem_of_getElem? hp)
    rw [nears_succ]
    show (K5.lms ds S k ++ lmOf (ds.getD k (0, 0)) S k (S.2.getD k 0)).length = _
    rw [List.length_append, List.length_append, AllAt.lms o h k (by omega), getD_of hp]
    unfold lmOf
    rw [getD_of (h.get lp)]
    by_cases c : v = (ds.getD k (0, 0)).1 ∨ v = (ds.getD k (0, 0)).2
    · rw [if_pos c, if_pos c]
      rfl
    · rw [if_neg c, if_neg c]
      rfl
theorem srtd_length : (srtd ds S).length = (lms ds S ds.length).length := by
  unfold srtd
  rw [List.length_mergeSort]
theorem lms_bar : ∀ (k : Nat) (x : Lm), x ∈ lms ds S k → x.2.2 = S.2.getD x.2.1 0
  | 0, x, h => nomatch h
  | k + 1, x, h => by
    have h : x ∈ lms ds S k ++ lmOf (ds.getD k (0, 0)) S k (S.2.getD k 0) := h
    rcases List.mem_append.mp h with h | h
    · exact lms_bar k x h
    · unfold lmOf at h
      split at h
      · rw [List.mem_singleton.mp h]
      · nomatch h
theorem not_bfr {k : Nat} {x : Lm} (h : (srtd ds S)[k]? = some x) : ¬ Bfr S S x := fun b => by
  have m : x ∈ lms ds S ds.length := (List.mergeSort_perm _ _).mem_iff.mp (List.mem_of_getElem? h)
  exact b.1 (lms_bar _ x m).symm
end
theorem NewLs.lists {H0 H : Hp} {q : Addr} {Ls : List (List Nat)} (h : NewLs H0 H q Ls) : ListsAt H q Ls := by
  obtain ⟨rs, a, b, _, _, c⟩ := h
  exact ⟨rs, a, b, fun i r L x y => ⟨(c i r L x y).1, (c i r L x y).2.2⟩⟩
theorem zLs_inj : ∀ {A B : List (List Nat)}, zLs A = zLs B → A = B
  | [], [], _ => rfl
  | [], _ :: _, h => by cases h
  | _ :: _, [], h => by cases h
  | x :: A, y :: B, h => by
    unfold zLs at h
    rw [List.map_cons, List.map_cons] at h
    obtain ⟨h1, h2⟩ := List.cons.inj h
    rw [zL_inj h1, zLs_inj h2]
def dP2 (e : Nat × Nat) : PyData := .tuple [.int (e.1 : Int), .int (e.2 : Int)]
theorem dp_P2s {K : PySem.W.Frag} {H : Hp} : ∀ (ts : List Addr) (l : List (Nat × Nat)), ts.length = l.length → (∀ (i : Nat) (t : Addr) (e : Nat × Nat), ts[i]? = some t → l[i]? = some e → H t = some (.tup [.int e.1, .int e.2])) → DpAll K H (ts.map V.ref) (l.map dP2)
  | [], [], _, _ => .nil
  | [], _ :: _, h, _ => by simp at h
  | _ :: _, [], h, _ => by simp at h
  | t :: ts, e :: l, h, hd => .cons (.tup (SqT.of (hd 0 t e rfl rfl)) (.cons (.int _) (.cons (.int _) .nil))) (dp_P2s ts l (by simpa using h) fun i r' L' x y => hd (i + 1) r' L' x y)
theorem dp_P2 {K : PySem.W.Frag} {H : Hp} {q : Addr} {l : List (Nat × Nat)} (h : PairsAt H q l) : Dp K H (.ref q) (.list (l.map dP2)) := by
  obtain ⟨ts, h1, h2, h3⟩ := h
  exact .lst (SqL.of h1) (dp_P2s ts l h2 h3)
end K5

namespace K5
open PySem PySem.Spec PyProof.Rows L2
/-- how many states come one move before -/
noncomputable def cnt (ds : List (Nat × Nat)) (S : S2) : Nat := (srtd ds S).length * (S.1.length - 1)
def spPrevAtX (K : PySem.W.Frag) (CT : Addr) : Sp := fun vs H Q E => ∃ (a s : Addr) (ds : List (Nat × Nat)) (n : Nat) (S : S2) (x : Int), vs = [.ref a, .ref s, .int x] ∧ HouseAt K H a ds ∧ Tree n ds ∧ n ≤ 1000 ∧ StateAt K H s S ∧ StOk n ds S ∧ ¬ (0 ≤ x ∧ x < (cnt ds S : Int)) ∧
  ∀ (H' : Hp) (d : Addr), Same H H' → H' d = some (.xd [("count", .int (cnt ds S : Nat))]) → E (.ref CT) (some d) H'
def spNoPrev (K : PySem.W.Frag) : Sp := fun vs H Q _ => ∃ (a s : Addr) (ds : List (Nat × Nat)) (n : Nat) (S : S2), vs = [.ref a, .ref s] ∧ HouseAt K H a ds ∧ Tree n ds ∧ n ≤ 1000 ∧ StateAt K H s S ∧ StOk n ds S ∧ cnt ds S = 0 ∧ ∀ H', Same H H' → Q (.bl true) H'
section
variable {P : Program} {w : World} {K : PySem.W.Frag}
      {mg : Str → Option Value} {base : Heap}
theorem ok_previous_at__xa {CT : Addr} (T : Bl mg) (E_it : ErrOkK P w K mg base "IndexTooLarge" CT ["self", "count"] ["count"] (spE1 CT "count")) (D : Def K mg "previous_at" s_previous_at) (C_count_previous : Cal P w K mg base "count_previous" ["house", "state"] 8 (spCount K))
    (C_is_index : Cal P w K mg base "is_index" ["value", "count"] 2 spIndex) : CalX P w K mg base "previous_at" ["house", "state", "index"] 9 (spPrevAtX K CT) := by
  obtain ⟨f_it, fd_it, e_it, F_it, B_it⟩ := E_it
  refine D.okX sc_previous_at (fun _ _ _ _ _ _ us hl => match us, hl with | [_, _, _], _ => rfl) (fun vs H Q E h => ?_) (fun f cdv A outer s0 H vs Q E hr h => ?_)
  · obtain ⟨a, s, ds, n, S, x, rfl, _⟩ := h
    rfl
  obtain ⟨a, s, ds, n, S, x, rfl, hH, tree, hn, st, ok, no, q1⟩ := h
  obtain ⟨f_count_previous, fd_count_previous, g_count_previous, k_count_previous, b_count_previous, G_count_previous⟩ := C_count_previous
  obtain ⟨f_is_index, fd_is_index, g_is_index, k_is_index, b_is_index, G_is_index⟩ := C_is_index
  refine ⟨_, (pss_cons (ps_set (i := 3) sc_previous_at.nd rfl (.inl rfl) (pe_call G_count_previous (hr.mono (by decide)) (by rfl) g_count_previous k_count_previous b_count_previous .nil pass0 (pa_cons (pv 0) (pa_cons (pv 1) pa_nil))))
    (pss_cons (ps_if (pt_not (pt_val (pe_call G_is_index (hr.mono (by decide)) (by rfl) g_is_index k_is_index b_is_index .nil pass0 (pa_cons (pv 2) (pa_cons (pv 3) pa_nil))))) (pss_one (ps_raise rfl (takes_of rfl rfl rfl rfl) (by exact (pmk_oex e_it.o e_it.i e_it.t F_it (hr.mono (by decide)) B_it .nil pass0 (by rfl) e_it.g (pa_cons (pv 3) pa_nil))))) pss_nil)
    pss_never)), ?_⟩
  refine ⟨_, rfl, _, rfl, a, s, ds, n, S, rfl, hH, tree, hn, st, ok, fun H1 s1 => ?_⟩
  refine ⟨_, rfl, _, rfl, x, _, rfl, ?_⟩
  have fin : tMkO CT (spE1 CT "count") [] (fun σ H Q => Q [.int (cnt ds S : Nat)] H) ([] : L2.St) H1 (fun cls d H' => E cls d H') := by
    refine ⟨by show 1 ≤ 1000; decide, fun b nb => ⟨b, _, rfl, upd_same, fun d nd ne => ?_⟩⟩
    rw [upd_ne ne] at nd
    have e1 : (upd (upd (upd H1 b (exo b CT none)) d (L2.exd d [("count", .int (cnt ds S : Nat))])) b (exo b CT (some d))) d = some (L2.exd d [("count", .int (cnt ds S : Nat))]) := by rw [upd_ne ne, upd_same]
    have sm3 := Same.err (G := upd (upd (upd H1 b (exo b CT none)) d (L2.exd d [("count", .int (cnt ds S : Nat))])) b (exo b CT (some d))) (y := .xd [("count", .int (cnt ds S : Nat))]) nb nd fun c h1 h2 => by rw [upd_ne h1, upd_ne h2, upd_ne h1]
    exact ⟨rfl, d, _, upd_same, e1, nd, q1 _ d (s1.trans sm3) upd_same⟩
  refine ⟨_, rfl, ?_⟩
  rw [decide_eq_false (show ¬ (0 ≤ x ∧ x < (((srtd ds S).length * (S.1.length - 1) : Nat) : Int)) from no)]
  exact iteT ⟨_, rfl, fin⟩
theorem ok_l_no_previous {CT : Addr} (T : Bl mg) (E_it : ErrOkK P w K mg base "IndexTooLarge" CT ["self", "count"] ["count"] (spE1 CT "count")) (D : Def K mg "_law_no_previous" s_l_no_previous) (C_previous_at : CalX P w K mg base "previous_at" ["house", "state", "index"] 9 (spPrevAtX K CT))
    (C_count_previous : Cal P w K mg base "count_previous" ["house", "state"] 8 (spCount K)) (C_previous_index : Cal P w K mg base "previous_index" ["house", "state", "previous"] 9 (spPrevIdx K)) : Cal P w K mg base "_law_no_previous" ["_law_layout", "_law_situation"] 10 (spNoPrev K) := by
  obtain ⟨f_it, fd_it, e_it, F_it, B_it⟩ := E_it
  refine D.ok sc_l_no_previous (fun _ _ _ _ _ _ us hl => match us, hl with | [_, _], _ => rfl) (fun vs H Q E h => ?_) (fun f cdv A outer s0 H vs Q E hr h => ?_)
  · obtain ⟨a, s, ds, n, S, rfl, _⟩ := h
    rfl
  obtain ⟨a, s, ds, n, S, rfl, hH, tree, hn, st, ok, no, q⟩ := h
  obtain ⟨f_previous_at, fd_previous_at, g_previous_at, k_previous_at, b_previous_at, G_previous_at⟩ := C_previous_at
  obtain ⟨f_count_previous, fd_count_previous, g_count_previous, k_count_previous, b_count_previous, G_count_previous⟩ := C_count_previous
  obtain ⟨f_previous_index, fd_previous_index, g_previous_index, k_previous_index, b_previous_index, G_previous_index⟩ := C_previous_index
  refine ⟨_, (pss_cons (ps_set (i := 2) sc_l_no_previous.nd rfl (.inl rfl) pe_non)
    (pss_cons (ps_try_keep (i := 3) (tw := fun W => tDrop (tCallS (spPrevAtX K CT) (WE W) (tCons (tVar 0) (tCons (tVar 1) (tCons (tC (.int 0)) tNil))))) (ts := fun _ _ _ => tAsg (tVar 3) (gName 2)) (Wout := fun _ _ _ _ => False) rfl rfl rfl sc_l_no_previous.nd rfl rfl ⟨rfl, by decide, Or.inl e_it.g⟩ takes0 (fun W pn xe tk _ => (pss_one (ps_expr (pe_callS G_previous_at (hr.mono (by decide)) (by rfl) g_previous_at k_previous_at b_previous_at (fun σ => passAt tk σ) (by exact (pa_cons (pv 0) (pa_cons (pv 1) (pa_cons pe_int pa_nil)))))))) (fun a oe cls d pn hz hf => (pss_one (ps_set (i := 2) sc_l_no_previous.nd rfl (.inl rfl) (pv 3)))))
    (pss_cons (ps_if (PW.pt (pw_or (pt_cmpR op_isN (pv 2) pe_non (nomark _)) (pw_or (pt_cmpR op_ne (pe_kf e_it.f (e_it.r _ (by decide +kernel)) (pv 2)) pe_int (nomark _)) (pw_or1 (pt_cmpR op_ne (pe_call G_count_previous (hr.mono (by decide)) (by rfl) g_count_previous k_count_previous b_count_previous .nil pass0 (pa_cons (pv 0) (pa_cons (pv 1) pa_nil))) pe_int (nomark _)))))) (pss_one (ps_ret pe_bl)) pss_nil)
    (pss_one (ps_ret (pe_cmpR op_isN (pe_call G_previous_index (hr.mono (by decide)) (by rfl) g_previous_index k_previous_index b_previous_index .nil pass0 (pa_cons (pv 0) (pa_cons (pv 1) (pa_cons (pv 1) pa_nil)))) pe_non (nomark _))))))), ?_⟩
  refine ⟨_, rfl, _, rfl, a, s, ds, n, S, 0, rfl, hH, tree, hn, st, ok, by rw [no]; omega, fun H' d sm hd => ?_⟩
  refine ⟨true, e_it.xm, (fun z => by cases z), fun _ ea nea => ?_⟩
  refine ⟨_, rfl, ?_⟩
  have sx : Same H' (upd H' ea (exk ea (.ref CT) (some d))) := Same.upd nea
  refine ⟨_, rfl, rfl, _, rfl, iteF ?_⟩
  refine ⟨_, rfl, ea, d, _, _, rfl, upd_same, sx _ _ hd, rfl, ?_⟩
  have s1 := sm.trans sx
  refine ⟨rfl, _, rfl, iteF' (by rw [no]; simp) ?_⟩
  refine ⟨_, rfl, _, rfl, a, s, ds, n, S, rfl, hH.same s1, tree, hn, st.same s1, ok, fun H2 s2 => ⟨rfl, _, rfl, ?_⟩⟩
  have no' : (srtd ds S).length * (S.1.length - 1) = 0 := no
  refine iteF' (by rw [no']; simp) ?_
  have s02 := s1.trans s2
  refine ⟨_, rfl, _, rfl, _, rfl, a, s, s, ds, n, S, S, rfl, hH.same s02, tree, hn, st.same s02, ok, st.same s02, ok, rfl, fun H3 s3 _ => ⟨rfl, ?_⟩, fun H3 k x s3 e b _ => absurd b (not_bfr e)⟩
  exact q H3 (s02.trans s3)
end
end K5

namespace L2
open PySem PySem.Spec PyProof.Rows
/-! own rule: t * 0 too -/
theorem tuple_mul0 (l : Addr) (items : Array Value) (n : Nat) (dd : Option Addr) (sl : Array (Option Value)) (u : Tok) (c1 : (items.isEmpty || (0 : Int) == 1) = false) :
    Meets (Builtin.«tuple.__mul__» ⟨[.ref l, .int 0 u], []⟩) (fun _ R s => s.heap.get? l = some { cls := .type "tuple", dict := dd, data := .seq items n, slots := sl } ∧
      R (.ok (.ret (Value.ref s.heap.objs.size))) { s with heap := s.heap.push { cls := Value.type "tuple", data := Data.seq #[] }, toks := s.toks }) :=
  .of_wp fun prog w A R s h => by
    obtain ⟨hp, g, d, tk, os⟩ := s
    obtain ⟨hl, h⟩ := h
    have f1 := AutoSeq1.idx_int
    wp_walk using wpAny_loadPart' hl
    repeat (first
      | (refine wpAny_ite_false (by rw [c1]; rfl) ?_; wp_walk using wpAny_loadPart' hl)
      | (refine wpAny_ite_false (by rw [c1]; exact Bool.false_ne_true) ?_; wp_walk using wpAny_loadPart' hl)
      | (refine wpAny_ite_true (by simp) ?_; wp_walk using wpAny_loadPart' hl)
      | (refine wpAny_ite_false (by decide) ?_; wp_walk using wpAny_loadPart' hl))
    exact ⟨_, rfl, h⟩
def rRepZ (K : PySem.W.Frag) : R2 := fun x y H Q => ∃ l k xs, x = .ref l ∧ y = .int k ∧ SqT K H l xs ∧ xs ≠ [] ∧ 0 ≤ k ∧ k ≤ 1000 ∧ xs.length ≤ 1000 ∧ (k = 1 → Q (.ref l) H) ∧ (k ≠ 1 → ∀ p, H p = none → Q (.ref p) (upd H p (.tup (List.replicate k.toNat xs).flatten)))
theorem op_repZ {X : Cx} : OpR X (binaryOp .Mult) (rRepZ X.K) := by
  intro pins s σ H x y v u Q I rx ry h
  obtain ⟨l, k, xs, rfl, rfl, hT, hne, h1, h2, hz, q1, q2⟩ := h
  by_cases c : k = 0
  · subst c
    cases rx
    obtain ⟨t, rfl⟩ := ry
    obtain ⟨its, r, ⟨⟨cls, dd, data, sl⟩,
          ho, hc, n, hd⟩, hs⟩ := I.tuple hT
    simp only at hc hd
    subst hc hd
    have hi : its.toArray.isEmpty = false := by
      rcases its with _ | ⟨i0, its'⟩
      · exact (hne (List.eq_nil_of_length_eq_zero r.length)).elim
      · rfl
    have c1 : (its.toArray.isEmpty || (0 : Int) == 1) = false := by rw [hi]; rfl
    refine wpAny_binaryOp_repeat_ref (T := "tuple") (U := "int") (by decide) ⟨_, ho, rfl⟩ (fun s' => typeIs_int s' 0 t) noFill_tuple_mul F.fills_int_mul F.slot_int_rmul repeat_tuple F.slot_int_index.lookup
      (call_meets F.slot_int_rmul (typeIs_int s 0 t) F.entry_int_rmul (F.args_int_rmul_2 _ _) (int_rmul_tuple 0 t l its.toArray n dd sl)
        ⟨ho, rfl, ⟨_, ho, rfl⟩, call_meets F.slot_tuple_mul ⟨_, ho, rfl⟩ F.entry_tuple_mul (F.args_tuple_mul_2 _ _) (tuple_mul0 l its.toArray n dd sl t c1) ⟨ho, ?_⟩⟩)
    refine ⟨.ref s.heap.objs.size, _, I.laid (t' := s.toks) (o := .tup []) (fun b ob q => Heap.get?_push_of_some _ q) (Nat.le_refl _) ?_, rfl, q2 (by decide) _ (I.hok.fresh (Nat.le_refl _))⟩
    exact ⟨Nat.zero_le _, [], r.rep 0, IsTup.new _ _⟩
  · exact op_repA pins s σ H _ _ v u Q I rx ry ⟨l, k, xs, rfl, rfl, hT, hne, by omega, h2, hz, q1, fun h => q2 (by omega)⟩
end L2

namespace K5
open PySem PySem.Spec PyProof.Rows L2
theorem rep_nv (c v : Nat) : (List.replicate c [V.int (v : Int)]).flatten = nv (List.replicate c v) := by
  induction c with
  | zero => rfl
  | succ c ih =>
    rw [List.replicate_succ, List.flatten_cons, ih, List.replicate_succ]
    rfl
theorem rep_both {K : PySem.W.Frag} {H : Hp} {p : Addr} {c v : Nat} {Q : VK} (hp : H p = some (.tup [.int (v : Int)])) (h1 : 1 ≤ c) (q : ∀ H' r, Same H H' → SqT K H' r (nv (List.replicate c v)) → Q (.ref r) H') :
    ((c : Int) = 1 → Q (.ref p) H) ∧ (2 ≤ (c : Int) → ∀ p', H p' = none → Q (.ref p') (upd H p' (.tup (List.replicate (c : Int).toNat [V.int (v : Int)]).flatten))) := by
  refine ⟨fun e => ?_, fun e p' np => ?_⟩
  · have e : c = 1 := by omega
    subst e
    exact q H p (Same.refl _) (SqT.of hp)
  · refine q _ p' (Same.upd np) (SqT.of ?_)
    rw [upd_same, show (c : Int).toNat = c from Int.toNat_natCast c, rep_nv]
theorem rep_bothZ {K : PySem.W.Frag} {H : Hp} {p : Addr} {c v : Nat} {Q : VK} (hp : H p = some (.tup [.int (v : Int)])) (q : ∀ H' r, Same H H' → SqT K H' r (nv (List.replicate c v)) → Q (.ref r) H') :
    ((c : Int) = 1 → Q (.ref p) H) ∧ ((c : Int) ≠ 1 → ∀ p', H p' = none → Q (.ref p') (upd H p' (.tup (List.replicate (c : Int).toNat [V.int (v : Int)]).flatten))) := by
  refine ⟨fun e => ?_, fun e p' np => ?_⟩
  · have e : c = 1 := by omega
    subst e
    exact q H p (Same.refl _) (SqT.of hp)
  · refine q _ p' (Same.upd np) (SqT.of ?_)
    rw [upd_same, show (c : Int).toNat = c from Int.toNat_natCast c, rep_nv]
def rRepN (K : PySem.W.Frag) : R2 := fun x y H Q => ∃ (l : Addr) (c v : Nat), x = .ref l ∧ y = .int (c : Int) ∧ H l = some (.tup [.int (v : Int)]) ∧ c ≤ 1000 ∧ ∀ H' r, Same H H' → SqT K H' r (nv (List.replicate c v)) → Q (.ref r) H'
theorem op_repN {X : Cx} : OpR X (binaryOp .Mult) (rRepN X.K) := by
  intro pins s σ H x y v u Q I rx ry h
  obtain ⟨l, c, v, rfl, rfl, hl, hc, q⟩ := h
  exact op_repZ pins s σ H _ _ _ u Q I rx ry ⟨l, _, _, rfl, rfl, SqT.of hl, by simp, by omega, by omega, by show 1 ≤ 1000; decide, rep_bothZ hl q⟩
theorem rep_lists (c : Nat) (r : Addr) : (List.replicate c [V.ref r]).flatten = (List.replicate c r).map V.ref := by
  induction c with
  | zero => rfl
  | succ c ih =>
    rw [List.replicate_succ, List.flatten_cons, ih, List.replicate_succ]
    rfl
mutual
theorem dp_same {K : PySem.W.Frag} {H H' : Hp} (s : Same H H') : ∀ (d : PyData) (v : V), Dp K H v d → Dp K H' v d
  | .none, _, h => by cases h; exact .non
  | .bool _, _, h => by cases h; exact .bl _
  | .int _, _, h => by cases h; exact .int _
  | .str _, _, h => by cases h; exact .str _
  | .list ds, _, h => by
    cases h with
    | lst h1 h2 => exact .lst (s.seq h1) (dps_same s ds _ h2)
  | .tuple ds, _, h => by
    cases h with
    | tup h1 h2 => exact .tup (s.tup h1) (dps_same s ds _ h2)
  | .dict _, _, h => by cases h
theorem dps_same {K : PySem.W.Frag} {H H' : Hp} (s : Same H H') : ∀ (ds : List PyData) (vs : List V), DpAll K H vs ds → DpAll K H' vs ds
  | [], _, h => by cases h; exact .nil
  | d :: ds, _, h => by
    cases h with
    | cons h1 h2 => exact .cons (dp_same s d _ h1) (dps_same s ds _ h2)
end
theorem tree1 : Tree 1 [] where
  len := rfl
  lt := fun e h => nomatch h
  side := ⟨fun _ _ => true, fun d e h => by simp at h, fun c d e h => by simp at h⟩
  conn := fun S _ x y hx hy h => by
    have e : x = y := by omega
    rw [← e]
    exact h
theorem house0 {K : PySem.W.Frag} {H : Hp} {t : Addr} (h : H t = some (.tup [])) : HouseAt K H t [] := ⟨[], SqT.of h, rfl, fun d r e x => by simp at x⟩
theorem stuck0 (S : S2) (p : Nat) : Stuck [] S p := fun d x y j => by rcases j with j | j <;> simp at j
theorem allAt_rep (c v : Nat) (b : List Nat) : AllAt (List.replicate c v, b) v := fun u h => List.eq_of_mem_replicate h
theorem dL1_shaped (x : Nat) : SeqAt.shaped (.list [.int (x : Int)]) = true := dInts_shaped [x]
theorem dLz_shaped (L : List (List Nat)) : SeqAt.shaped (dLZ (zLs L)) = true := dLZ_shaped _
theorem Stuck.trl {ds : List (Nat × Nat)} {S : S2} {p a x : Nat} {tr : List Mv} (h : Stuck ds S p) (t : Trl ds a tr x) (nb : ∀ m ∈ tr, m.1 ∉ barr S p) : tr = [] ∧ a = x := by
  cases tr with
  | nil => exact ⟨rfl, t⟩
  | cons m r => exact absurd (mem_barr.mpr (h _ _ _ t.2.1)) (nb m List.mem_cons_self)
theorem Stuck.lists {ds : List (Nat × Nat)} {S : S2} {Ls : List (List Nat)} {v : Nat} (h : ∀ p, Stuck ds S p) (all : AllAt S v) (r : RegsL ds S S.1.length Ls) : Ls = List.replicate S.1.length [v] := by
  apply List.eq_replicate_iff.mpr
  refine ⟨r.len, fun L hL => ?_⟩
  obtain ⟨p, hp⟩ := List.mem_iff_getElem?.mp hL
  have lp : p < S.1.length := by have := get_lt hp; rw [r.len] at this; exact this
  rw [(h p).set (r.at_ p L hp), getD_of (all.get lp)]
def spOneRoom (K : PySem.W.Frag) : Sp := fun vs H Q _ => ∃ c : Nat, vs = [.int (c : Int)] ∧ 1 ≤ c ∧ c ≤ 10 ∧ ∀ H', Same H H' → Q (.bl true) H'
section
variable {P : Program} {w : World} {K : PySem.W.Frag}
      {mg : Str → Option Value} {base : Heap}
theorem ok_l_one_room_holds (T : Bl mg) (D : Def K mg "_law_one_room_holds" s_l_one_room_holds) (C_walk_to : Cal P w K mg base "walk_to" ["house", "state", "person", "room"] 8 (spWalkTo K)) (C_region : Cal P w K mg base "region" ["house", "state", "person"] 8 (spRegion K))
    (C_walk_lengths : Cal P w K mg base "walk_lengths" ["house", "state"] 9 (spLens K)) (C_is_apart : Cal P w K mg base "is_apart" ["house", "state"] 8 (spApart K)) (C_first_meeting : Cal P w K mg base "first_meeting" ["house", "state"] 9 (spFirst K))
    (C_check_gathering : Cal P w K mg base "check_gathering" ["house", "state", "room", "claim"] 11 (spCheckG K)) (C_explained_doors : Cal P w K mg base "explained_doors" ["house", "state"] 8 (spExplained K)) (C_groups : Cal P w K mg base "groups" ["house", "state"] 8 (spGroups K))
    (C_gather : Cal P w K mg base "gather" ["house", "state", "room"] 10 (spGather K)) (C_l_no_previous : Cal P w K mg base "_law_no_previous" ["_law_layout", "_law_situation"] 10 (spNoPrev K)) : Cal P w K mg base "_law_one_room_holds" ["_law_count"] 12 (spOneRoom K) := by
  refine D.ok sc_l_one_room_holds (fun _ _ _ _ _ _ us hl => match us, hl with | [_], _ => rfl) (fun vs H Q E h => ?_) (fun f cdv A outer s0 H vs Q E hr h => ?_)
  · obtain ⟨c, rfl, _⟩ := h
    rfl
  obtain ⟨c, rfl, c1, c2, qn⟩ := h
  obtain ⟨f_walk_to, fd_walk_to, g_walk_to, k_walk_to, b_walk_to, G_walk_to⟩ := C_walk_to
  obtain ⟨f_region, fd_region, g_region, k_region, b_region, G_region⟩ := C_region
  obtain ⟨f_walk_lengths, fd_walk_lengths, g_walk_lengths, k_walk_lengths, b_walk_lengths, G_walk_lengths⟩ := C_walk_lengths
  obtain ⟨f_is_apart, fd_is_apart, g_is_apart, k_is_apart, b_is_apart, G_is_apart⟩ := C_is_apart
  obtain ⟨f_first_meeting, fd_first_meeting, g_first_meeting, k_first_meeting, b_first_meeting, G_first_meeting⟩ := C_first_meeting
  obtain ⟨f_check_gathering, fd_check_gathering, g_check_gathering, k_check_gathering, b_check_gathering, G_check_gathering⟩ := C_check_gathering
  obtain ⟨f_explained_doors, fd_explained_doors, g_explained_doors, k_explained_doors, b_explained_doors, G_explained_doors⟩ := C_explained_doors
  obtain ⟨f_groups, fd_groups, g_groups, k_groups, b_groups, G_groups⟩ := C_groups
  obtain ⟨f_gather, fd_gather, g_gather, k_gather, b_gather, G_gather⟩ := C_gather
  obtain ⟨f_l_no_previous, fd_l_no_previous, g_l_no_previous, k_l_no_previous, b_l_no_previous, G_l_no_previous⟩ := C_l_no_previous
  have one1 : (1 : Nat) ≤ sizeLine := by decide
  have two1 : (2 : Nat) ≤ sizeLine := by decide
  refine ⟨_, (pss_cons (ps_set (i := 1) sc_l_one_room_holds.nd rfl (.inl rfl) (pe_tup (pa_cons (pe_op op_repN (pe_tup (pa_cons pe_int pa_nil)) (pv 0)) (pa_cons (pe_tup pa_nil) pa_nil))))
    (pss_cons (ps_set (i := 2) sc_l_one_room_holds.nd rfl (.inl rfl) (pe_cmpR op_eq (pv 0) pe_int (nomark _)))
    (pss_cons (ps_for PassesOwn.never rfl (pi_range1 rfl T.range (pa_cons (pv 0) pa_nil)) (pg_name (i := 3) sc_l_one_room_holds.nd rfl (.inl rfl))
    (pss_one (ps_if (PW.pt (pw_or (pt_cmpR (op_neD hr.units) (pe_call G_region (hr.mono (by decide)) (by rfl) g_region k_region b_region .nil pass0 (pa_cons (pe_tup pa_nil) (pa_cons (pv 1) (pa_cons (pv 3) pa_nil)))) (pe_lst (pa_cons pe_int pa_nil)) (nomark _)) (pw_or1 (pt_cmpR (op_neD hr.units) (pe_call G_walk_to (hr.mono (by decide)) (by rfl) g_walk_to k_walk_to b_walk_to .nil pass0 (pa_cons (pe_tup pa_nil) (pa_cons (pv 1) (pa_cons (pv 3) (pa_cons pe_int pa_nil))))) (pe_lst pa_nil) (nomark _))))) (pss_one (ps_ret pe_bl)) pss_nil)))
    (Evl.pss_cut (ps_if (PW.pt (pw_or (pt_cmpR op_ne (pe_call G_is_apart (hr.mono (by decide)) (by rfl) g_is_apart k_is_apart b_is_apart .nil pass0 (pa_cons (pe_tup pa_nil) (pa_cons (pv 1) pa_nil))) (pv 2) (nomark _)) (pw_or1 (pt_cmpR (op_neD hr.units) (pe_call G_walk_lengths (hr.mono (by decide)) (by rfl) g_walk_lengths k_walk_lengths b_walk_lengths .nil pass0 (pa_cons (pe_tup pa_nil) (pa_cons (pv 1) pa_nil))) (pe_ix ix_list (pe_lst (pa_cons pe_non (pa_cons (pe_lst (pa_cons (pe_tup (pa_cons pe_int (pa_cons pe_int pa_nil))) pa_nil)) pa_nil))) (pe_callTy call_int1 (by rfl) T.int (by decide +kernel) (pa_cons (pv 2) pa_nil)) (fun _ _ => rfl)) (nomark _))))) (pss_one (ps_ret pe_bl)) pss_nil)
    (Evl.pss_cut (ps_if (pt_cmpR (op_neD hr.units) (pe_call G_first_meeting (hr.mono (by decide)) (by rfl) g_first_meeting k_first_meeting b_first_meeting .nil pass0 (pa_cons (pe_tup pa_nil) (pa_cons (pv 1) pa_nil))) (pe_ix ix_list (pe_lst (pa_cons (pe_tup (pa_cons pe_int (pa_cons (pe_lst pa_nil) pa_nil))) (pa_cons pe_non pa_nil))) (pe_callTy call_int1 (by rfl) T.int (by decide +kernel) (pa_cons (pv 2) pa_nil)) (fun _ _ => rfl)) (nomark _)) (pss_one (ps_ret pe_bl)) pss_nil)
    (Evl.pss_cut (ps_if (pt_cmpR op_notN (pe_call G_check_gathering (hr.mono (by decide)) (by rfl) g_check_gathering k_check_gathering b_check_gathering .nil pass0 (pa_cons (pe_tup pa_nil) (pa_cons (pv 1) (pa_cons pe_int (pa_cons (pe_tup (pa_cons pe_str (pa_cons (pe_lst pa_nil) pa_nil))) pa_nil))))) pe_non (nomark _)) (pss_one (ps_ret pe_bl)) pss_nil)
    (Evl.pss_cut (ps_if (pt_cmpR (op_neD hr.units) (pe_call G_check_gathering (hr.mono (by decide)) (by rfl) g_check_gathering k_check_gathering b_check_gathering .nil pass0 (pa_cons (pe_tup pa_nil) (pa_cons (pv 1) (pa_cons pe_int (pa_cons (pe_tup (pa_cons pe_str (pa_cons (pe_op op_rep (pe_lst (pa_cons (pe_lst (pa_cons pe_int pa_nil)) pa_nil)) (pv 0)) pa_nil))) pa_nil))))) (pe_tup (pa_cons pe_str pa_nil)) (nomark _)) (pss_one (ps_ret pe_bl)) pss_nil)
    (Evl.pss_cut (ps_if (PW.pt (pw_or (pt_cmpR op_ne (pe_ix ix_tup (pe_call G_gather (hr.mono (by decide)) (by rfl) g_gather k_gather b_gather .nil pass0 (pa_cons (pe_tup pa_nil) (pa_cons (pv 1) (pa_cons pe_int pa_nil)))) pe_int (fun _ _ => rfl)) pe_str (nomark _)) (pw_or (pt_cmpR (op_neD hr.units) (pe_call G_groups (hr.mono (by decide)) (by rfl) g_groups k_groups b_groups .nil pass0 (pa_cons (pe_tup pa_nil) (pa_cons (pv 1) pa_nil))) (pe_lst (pa_cons (pe_lst (pa_cons pe_int pa_nil)) pa_nil)) (nomark _)) (pw_or1 (pt_cmpR (op_neD hr.units) (pe_call G_explained_doors (hr.mono (by decide)) (by rfl) g_explained_doors k_explained_doors b_explained_doors .nil pass0 (pa_cons (pe_tup pa_nil) (pa_cons (pv 1) pa_nil))) (pe_lst pa_nil) (nomark _)))))) (pss_one (ps_ret pe_bl)) pss_nil)
    (pss_one (ps_ret (pe_call G_l_no_previous (hr.mono (by decide)) (by rfl) g_l_no_previous k_l_no_previous b_l_no_previous .nil pass0 (pa_cons (pe_tup pa_nil) (pa_cons (pv 1) pa_nil))))))))))))), ?_⟩
  refine ⟨one1, fun p1 np1 => ?_⟩
  have s1 := Same.upd (o := .tup [V.int 0]) np1
  refine ⟨_, rfl, p1, c, 0, rfl, rfl, upd_same, by omega, fun H1 r1 s2 hr1 => ?_⟩
  refine ⟨Nat.zero_le _, fun p2 np2 => ?_⟩
  have s3 := Same.upd (o := .tup []) np2
  refine ⟨two1, fun s np3 => ?_⟩
  have s4 := Same.upd (o := .tup [.ref r1, .ref p2]) np3
  have st : StateAt K (upd (upd H1 p2 (.tup [])) s (.tup [.ref r1, .ref p2])) s (List.replicate c 0, ([] : List Nat)) := ⟨r1, p2, SqT.of upd_same, s4.tup (s3.tup hr1), s4.tup (SqT.of upd_same)⟩
  have s14 := ((s1.trans s2).trans s3).trans s4
  generalize upd (upd H1 p2 (.tup [])) s (.tup [.ref r1, .ref p2]) = H2 at st s14 ⊢
  have ok : StOk 1 [] (List.replicate c 0, ([] : List Nat)) := ⟨by rw [List.length_replicate]; exact c1, by rw [List.length_replicate]; exact c2, fun x hx => by rw [List.eq_of_mem_replicate hx]; decide, rfl, fun y hy => nomatch hy⟩
  have all := allAt_rep c 0 []
  have len : (List.replicate c 0, ([] : List Nat)).1.length = c := List.length_replicate
  generalize (List.replicate c 0, ([] : List Nat)) = S at st ok all len
  refine ⟨_, rfl, rfl, ?_⟩
  have ek : decide (V.int (c : Int) = V.int 1) = decide (c = 1) := decide_eq_decide.mpr ⟨fun z => by have := V.int.inj z; omega, fun z => by rw [z]; rfl⟩
  obtain ⟨k, hk⟩ : ∃ k : Bool, k = decide (c = 1) := ⟨_, rfl⟩
  rw [ek, ← hk]
  have ap : Apt [] S ↔ c = 1 := ⟨fun a => Classical.byContradiction fun n => all.not_apt (by omega) a, fun e => one_apt (by omega)⟩
  refine ⟨_, rfl, (c : Int), rfl, by omega, by omega, ?_⟩
  rw [Int.toNat_natCast]
  refine for_range (lo := 0) (n := c) (fun i σ H3 => ∃ y3, σ = [some (.int (c : Int)), some (.ref s), some (.bl k), y3] ∧ Same H2 H3) ⟨_, rfl, Same.refl _⟩ ?_ ?_
  · rintro i σ H3 hi ⟨y3, rfl, s3⟩
    rw [Int.zero_add]
    have gi := getD_of (all.get (p := i) (by omega))
    refine ⟨Nat.zero_le _, fun t nt => ⟨_, rfl, _, rfl, t, s, i, 1, [], S, rfl, house0 upd_same, tree1, by decide, st.same (s3.trans (Same.upd nt)), ok, by omega, fun H4 q L ks s4 nq hq rg pm asc => ?_⟩⟩
    have e := (stuck0 S i).reg rg pm
    rw [gi] at e
    subst e
    have s34 := (s3.trans (Same.upd (o := .tup []) nt)).trans s4
    refine ⟨one1, fun t2 nt2 => ?_⟩
    have s5 := Same.upd (o := .lst [V.int 0]) nt2
    have s35 := s34.trans s5
    refine ⟨.list (dIs [0]), .list (dIs [0]), .lst (SqL.of (s5 _ _ hq)) (dp_is [0]), .lst (SqL.of upd_same) (dp_is [0]), dInts_shaped _, dInts_shaped _, _, rfl, ?_⟩
    refine iteF' (by rw [d_refl (dInts_shaped _)]; rfl) ?_
    generalize upd H4 t2 (.lst [V.int 0]) = H5 at s35 ⊢
    refine ⟨Nat.zero_le _, fun t3 nt3 => ⟨_, rfl, _, rfl, t3, s, i, 0, 1, [], S, rfl, house0 upd_same, tree1, by decide, st.same (s35.trans (Same.upd nt3)), ok, by omega, by decide, fun H6 ks s6 rg no => ?_, fun H6 q tr s6 nq tq trl nd nsh len => ?_⟩⟩
    · exact absurd (by rw [(stuck0 S i).reg rg (List.Perm.refl _), gi]; exact List.mem_singleton.mpr rfl) no
    · obtain ⟨rfl, _⟩ := (stuck0 S i).trl trl nsh
      refine ⟨Nat.zero_le _, fun t4 nt4 => ?_⟩
      have s7 := Same.upd (o := .lst []) nt4
      refine ⟨dMs [], dMs [], dp_Tris (tq.same s7), .lst (SqL.of upd_same) .nil, dMs_shaped _, dMs_shaped _, _, rfl, ?_⟩
      refine iteF' (by rw [d_refl (dMs_shaped _)]; rfl) ?_
      exact ⟨_, rfl, ((s35.trans (Same.upd nt3)).trans s6).trans s7⟩
  rintro σ H3 ⟨y3, rfl, s3⟩
  refine ⟨fun σ H4 => σ = [some (.int (c : Int)), some (.ref s), some (.bl k), y3] ∧ Same H2 H4, ?_, ?_⟩
  · refine ⟨Nat.zero_le _, fun t nt => ⟨_, rfl, t, s, 1, [], S, rfl, house0 upd_same, tree1, by decide, st.same (s3.trans (Same.upd nt)), ok, fun H4 Ls s4 rg => ?_⟩⟩
    rw [decide_eq_decide.mpr (rg.toL.apt.trans ap), ← hk]
    have s34 := (s3.trans (Same.upd (o := .tup []) nt)).trans s4
    refine ⟨_, rfl, rfl, _, rfl, ?_⟩
    refine iteF' (by simp) ?_
    refine ⟨Nat.zero_le _, fun t3 nt3 => ⟨_, rfl, t3, s, 1, [], S, rfl, house0 upd_same, tree1, by decide, st.same (s34.trans (Same.upd nt3)), ok, fun Ls rg => ⟨fun no H5 s5 => ?_, fun nd H5 q l s5 nq pq lens => ?_⟩⟩⟩
    · have nc : c ≠ 1 := fun z => no (rg.toL.apt.mpr (ap.mpr z))
      have s35 := (s34.trans (Same.upd (o := .tup []) nt3)).trans s5
      refine ⟨two1, fun a1 na1 => ⟨one1, fun a2 na2 => ⟨two1, fun a3 na3 => ?_⟩⟩⟩
      refine ⟨_, rfl, .inr ⟨_, rfl, ?_⟩⟩
      rw [show k = false by rw [hk]; exact decide_eq_false nc]
      refine ⟨a3, _, _, _, rfl, rfl, SqL.of upd_same, atI_nat (j := 0) rfl, ?_⟩
      refine ⟨.none, .none, .non, .non, by decide +kernel, by decide +kernel, _, rfl, ?_⟩
      refine iteF' (by decide +kernel) ?_
      exact ⟨rfl, ((s35.trans (Same.upd na1)).trans (Same.upd na2)).trans (Same.upd na3)⟩
    · have e1 : c = 1 := ap.mp (rg.toL.apt.mp nd)
      rw [len, e1] at lens
      have el := (stuck0 S 0).lens lens
      subst el
      have s35 := (s34.trans (Same.upd (o := .tup []) nt3)).trans s5
      refine ⟨two1, fun a1 na1 => ⟨one1, fun a2 na2 => ⟨two1, fun a3 na3 => ?_⟩⟩⟩
      refine ⟨_, rfl, .inr ⟨_, rfl, ?_⟩⟩
      rw [show k = true by rw [hk]; exact decide_eq_true e1]
      have b1 := Same.upd (o := .tup [V.int 0, V.int 0]) na1
      have b2 := Same.upd (o := .lst [V.ref a1]) na2
      have b3 := Same.upd (o := .lst [V.non, V.ref a2]) na3
      refine ⟨a3, _, _, _, rfl, rfl, SqL.of upd_same, atI_nat (j := 1) rfl, ?_⟩
      refine ⟨.list ([(0, 0)].map dP2), .list ([(0, 0)].map dP2), dp_P2 (pq.same ((b1.trans b2).trans b3)), .lst (SqL.of (b3 _ _ upd_same)) (.cons (.tup (SqT.of (b3 _ _ (b2 _ _ upd_same))) (.cons (.int _) (.cons (.int _) .nil))) .nil), by decide +kernel, by decide +kernel, _, rfl, ?_⟩
      refine iteF' (by decide +kernel) ?_
      exact ⟨rfl, ((s35.trans b1).trans b2).trans b3⟩
  rintro _ H3 ⟨rfl, s3⟩
  refine ⟨fun σ H4 => σ = [some (.int (c : Int)), some (.ref s), some (.bl k), y3] ∧ Same H2 H4, ?_, ?_⟩
  · refine ⟨Nat.zero_le _, fun t nt => ⟨_, rfl, t, s, 1, [], S, rfl, house0 upd_same, tree1, by decide, st.same (s3.trans (Same.upd nt)), ok, fun ap1 H4 s4 => ?_, fun H4 t4 pl m na s4 npl h4 tr fm => ?_⟩⟩
    · have e1 := ap.mp ap1
      refine ⟨Nat.zero_le _, fun a1 na1 => ⟨two1, fun a2 na2 => ⟨two1, fun a3 na3 => ?_⟩⟩⟩
      refine ⟨_, rfl, .inr ⟨_, rfl, ?_⟩⟩
      rw [show k = true by rw [hk]; exact decide_eq_true e1]
      refine ⟨a3, _, _, _, rfl, rfl, SqL.of upd_same, atI_nat (j := 1) rfl, ?_⟩
      refine ⟨.none, .none, .non, .non, by decide +kernel, by decide +kernel, _, rfl, ?_⟩
      refine iteF' (by decide +kernel) ?_
      exact ⟨rfl, ((((s3.trans (Same.upd nt)).trans s4).trans (Same.upd na1)).trans (Same.upd na2)).trans (Same.upd na3)⟩
    · have nc : c ≠ 1 := fun z => na (ap.mpr z)
      have em := all.first tree1 ok (by omega) fm
      subst em
      refine ⟨Nat.zero_le _, fun a1 na1 => ⟨two1, fun a2 na2 => ⟨two1, fun a3 na3 => ?_⟩⟩⟩
      refine ⟨_, rfl, .inr ⟨_, rfl, ?_⟩⟩
      rw [show k = false by rw [hk]; exact decide_eq_false nc]
      have b1 := Same.upd (o := .lst []) na1
      have b2 := Same.upd (o := .tup [V.int 0, V.ref a1]) na2
      have b3 := Same.upd (o := .lst [V.ref a2, V.non]) na3
      have b13 := (b1.trans b2).trans b3
      refine ⟨a3, _, _, _, rfl, rfl, SqL.of upd_same, atI_nat (j := 0) rfl, ?_⟩
      refine ⟨.tuple [.int 0, dMs []], .tuple [.int 0, dMs []], .tup (SqT.of (b13 _ _ h4)) (.cons (.int 0) (.cons (dp_Tris (tr.same b13)) .nil)), .tup (SqT.of (b3 _ _ upd_same)) (.cons (.int 0) (.cons (.lst (SqL.of (b3 _ _ (b2 _ _ upd_same))) .nil) .nil)), by decide +kernel, by decide +kernel, _, rfl, ?_⟩
      refine iteF' (by decide +kernel) ?_
      exact ⟨rfl, ((s3.trans (Same.upd nt)).trans s4).trans b13⟩
  rintro _ H3 ⟨rfl, s3⟩
  refine ⟨fun σ H4 => σ = [some (.int (c : Int)), some (.ref s), some (.bl k), y3] ∧ Same H2 H4, ?_, ?_⟩
  · refine ⟨Nat.zero_le _, fun t nt => ⟨_, rfl, Nat.zero_le _, fun a1 na1 => ⟨two1, fun a2 na2 => ?_⟩⟩⟩
    have b1 := Same.upd (o := .tup []) nt
    have b2 := Same.upd (o := .lst []) na1
    have b3 := Same.upd (o := .tup [V.str "plan", V.ref a1]) na2
    have s33 := ((s3.trans b1).trans b2).trans b3
    refine ⟨t, s, a2, 1, 0, [], S, .inl [], rfl, house0 (b3 _ _ (b2 _ _ upd_same)), tree1, by decide, st.same s33, ok, by decide, ⟨a1, upd_same, [], b3 _ _ upd_same, TL.nil⟩, (fun m h => nomatch h), fun H4 v d s4 vd dp => ?_⟩
    have e0 : d = .none := by
      rcases vd with ⟨i, w, e, _⟩ | ⟨A, e, h⟩
      · have e : (Sum.inr S : (Nat × String) ⊕ S2) = .inl (i, w) := e
        cases e
      · have e : (Sum.inr S : (Nat × String) ⊕ S2) = .inr A := e
        cases e
        rcases h with ⟨_, e⟩ | ⟨p, v, hv, nv, _⟩
        · exact e
        · exact absurd (all v (List.mem_of_getElem? hv)) nv
    subst e0
    cases dp
    refine ⟨rfl, _, rfl, ?_⟩
    refine iteF' (by simp) ?_
    exact ⟨rfl, s33.trans s4⟩
  rintro _ H3 ⟨rfl, s3⟩
  refine ⟨fun σ H4 => σ = [some (.int (c : Int)), some (.ref s), some (.bl k), y3] ∧ Same H2 H4, ?_, ?_⟩
  · refine ⟨Nat.zero_le _, fun t nt => ⟨_, rfl, one1, fun a1 na1 => ⟨one1, fun a2 na2 => ?_⟩⟩⟩
    refine ⟨_, rfl, a2, (c : Int), _, rfl, rfl, upd_same, by omega, by omega, by rw [Int.toNat_natCast]; exact Nat.le_of_lt (small1000 (show 1 * c ≤ 1000 by omega)), fun a3 na3 => ⟨two1, fun a4 na4 => ?_⟩⟩
    have b1 := Same.upd (o := .tup []) nt
    have b2 := Same.upd (o := .lst [V.int 0]) na1
    have b3 := Same.upd (o := .lst [V.ref a1]) na2
    have b4 := Same.upd (o := .lst (List.replicate (c : Int).toNat [V.ref a1]).flatten) na3
    have b5 := Same.upd (o := .tup [V.str "apart", V.ref a3]) na4
    have s33 := ((((s3.trans b1).trans b2).trans b3).trans b4).trans b5
    have lz : LZ (upd (upd (upd (upd (upd H3 t (.tup [])) a1 (.lst [V.int 0])) a2 (.lst [V.ref a1])) a3 (.lst (List.replicate (c : Int).toNat [V.ref a1]).flatten)) a4 (.tup [V.str "apart", V.ref a3])) a3 (zLs (List.replicate c [0])) := by
      refine ⟨List.replicate c a1, ?_, by unfold zLs; simp, fun i r L h1 h2 => ?_⟩
      · rw [b5 a3 _ upd_same, Int.toNat_natCast, rep_lists]
      · have e1 := List.eq_of_mem_replicate (List.mem_of_getElem? h1)
        unfold zLs at h2
        rw [List.map_replicate] at h2
        have e2 := List.eq_of_mem_replicate (List.mem_of_getElem? h2)
        subst e1
        subst e2
        exact b5 _ _ (b4 _ _ (b3 _ _ upd_same))
    refine ⟨t, s, a4, 1, 0, [], S, .inr (zLs (List.replicate c [0])), rfl, house0 (b5 _ _ (b4 _ _ (b3 _ _ (b2 _ _ upd_same)))), tree1, by decide, st.same s33, ok, by decide, ⟨a3, upd_same, lz⟩, ⟨by unfold zLs; simp; omega, fun L hL => by unfold zLs at hL; rw [List.map_replicate] at hL; rw [List.eq_of_mem_replicate hL]; decide⟩, fun H4 v d s4 vd dp => ?_⟩
    have e0 : d = dTo1 := by
      obtain ⟨Ls, rl, asc, h⟩ := vd
      have eL := Stuck.lists (stuck0 S) all rl
      rw [len] at eL
      rcases h with ⟨ne, _⟩ | ⟨_, ⟨_, e⟩ | ⟨_, na, _⟩⟩
      · exact absurd (by rw [eL]) ne
      · exact e
      · exact absurd all na
    subst e0
    refine ⟨one1, fun a5 na5 => ?_⟩
    have b6 := Same.upd (o := .tup [V.str "together"]) na5
    refine ⟨dTo1, dTo1, dp_same b6 _ _ dp, .tup (SqT.of upd_same) (.cons (.str _) .nil), by decide +kernel, by decide +kernel, _, rfl, ?_⟩
    refine iteF' (by decide +kernel) ?_
    exact ⟨rfl, (s33.trans s4).trans b6⟩
  rintro _ H3 ⟨rfl, s3⟩
  refine ⟨fun σ H4 => σ = [some (.int (c : Int)), some (.ref s), some (.bl k), y3] ∧ Same H2 H4, ?_, ?_⟩
  · refine ⟨Nat.zero_le _, fun t nt => ⟨_, rfl, t, s, 1, 0, [], S, rfl, house0 upd_same, tree1, by decide, st.same (s3.trans (Same.upd nt)), ok, by decide, fun H4 t4 pl A m _ npl s4 h4 tr pa fin ln pf => ?_, fun H4 t4 q Ls _ na => absurd all na⟩⟩
    refine ⟨t4, _, _, _, rfl, rfl, SqT.of h4, atI_nat (j := 0) rfl, ?_⟩
    refine ⟨rfl, _, rfl, ?_⟩
    refine iteF' (by decide) ?_
    have s34 := (s3.trans (Same.upd (o := .tup []) nt)).trans s4
    refine ⟨Nat.zero_le _, fun t5 nt5 => ⟨_, rfl, t5, s, [], 1, S, rfl, house0 upd_same, tree1, by decide, st.same (s34.trans (Same.upd nt5)), ok, fun H5 q M J s5 nl mk cl => ?_⟩⟩
    rw [all.grps tree1 ok mk.1 cl] at nl
    have s35 := (s34.trans (Same.upd (o := .tup []) nt5)).trans s5
    refine ⟨one1, fun a1 na1 => ⟨one1, fun a2 na2 => ?_⟩⟩
    have b1 := Same.upd (o := .lst [V.int 0]) na1
    have b2 := Same.upd (o := .lst [V.ref a1]) na2
    refine ⟨dLZ (zLs [[0]]), dLZ (zLs [[0]]), dp_LZ ((LZ.of nl.lists).same (b1.trans b2)), .lst (SqL.of upd_same) (.cons (.lst (SqL.of (b2 _ _ upd_same)) (.cons (.int 0) .nil)) .nil), dLZ_shaped _, dLZ_shaped _, _, rfl, ?_⟩
    refine iteF' (by decide +kernel) ?_
    have s36 := (s35.trans b1).trans b2
    generalize upd (upd H5 a1 (.lst [V.int 0])) a2 (.lst [V.ref a1]) = H6 at s36 ⊢
    refine ⟨Nat.zero_le _, fun t6 nt6 => ⟨_, rfl, t6, s, [], 1, S, rfl, house0 upd_same, tree1, by decide, st.same (s36.trans (Same.upd nt6)), ok, fun H7 q7 M7 J7 s7 nq7 hq7 mk7 cl7 => ?_⟩⟩
    rw [all.exd tree1 ok mk7.1 cl7] at hq7
    refine ⟨Nat.zero_le _, fun a3 na3 => ?_⟩
    have b3 := Same.upd (o := .lst []) na3
    refine ⟨.list [], .list [], .lst (SqL.of (b3 _ _ hq7)) .nil, .lst (SqL.of upd_same) .nil, by decide +kernel, by decide +kernel, _, rfl, ?_⟩
    refine iteF' (by decide +kernel) ?_
    exact ⟨rfl, ((s36.trans (Same.upd nt6)).trans s7).trans b3⟩
  rintro _ H3 ⟨rfl, s3⟩
  refine ⟨Nat.zero_le _, fun t nt => ⟨_, rfl, t, s, [], 1, S, rfl, house0 upd_same, tree1, by decide, st.same (s3.trans (Same.upd nt)), ok, ?_, fun H4 s4 => qn H4 (s14.trans ((s3.trans (Same.upd nt)).trans s4))⟩⟩
  unfold cnt
  rw [srtd_length]
  exact Nat.zero_mul _
end
end K5

namespace K5
open PySem PySem.Spec PyProof.Rows L2
def spOnePerson (K : PySem.W.Frag) : Sp := fun vs H Q _ => ∃ (a : Addr) (x t n : Nat) (ds : List (Nat × Nat)), vs = [.ref a, .int (x : Int), .int (t : Int)] ∧ HouseAt K H a ds ∧ Tree n ds ∧ n ≤ 60 ∧ x < n ∧ t < n ∧ ∀ H', Same H H' → Q (.bl true) H'
section
variable {P : Program} {w : World} {K : PySem.W.Frag}
      {mg : Str → Option Value} {base : Heap}
theorem ok_l_one_person_holds (T : Bl mg) (D : Def K mg "_law_one_person_holds" s_l_one_person_holds) (C_walk_to : Cal P w K mg base "walk_to" ["house", "state", "person", "room"] 8 (spWalkTo K)) (C_region : Cal P w K mg base "region" ["house", "state", "person"] 8 (spRegion K))
    (C_walk_lengths : Cal P w K mg base "walk_lengths" ["house", "state"] 9 (spLens K)) (C_is_apart : Cal P w K mg base "is_apart" ["house", "state"] 8 (spApart K)) (C_check_first_meeting : Cal P w K mg base "check_first_meeting" ["house", "state", "claim"] 11 (spCheckF K)) (C_first_meeting : Cal P w K mg base "first_meeting" ["house", "state"] 9 (spFirst K))
    (C_check_gathering : Cal P w K mg base "check_gathering" ["house", "state", "room", "claim"] 11 (spCheckG K)) (C_gather : Cal P w K mg base "gather" ["house", "state", "room"] 10 (spGather K)) (C_groups : Cal P w K mg base "groups" ["house", "state"] 8 (spGroups K))
    (C_l_no_previous : Cal P w K mg base "_law_no_previous" ["_law_layout", "_law_situation"] 10 (spNoPrev K)) (C_explained_doors : Cal P w K mg base "explained_doors" ["house", "state"] 8 (spExplained K)) : Cal P w K mg base "_law_one_person_holds" ["_law_layout", "_law_start", "_law_target"] 12 (spOnePerson K) := by
  refine D.ok sc_l_one_person_holds (fun _ _ _ _ _ _ us hl => match us, hl with | [_, _, _], _ => rfl) (fun vs H Q E h => ?_) (fun f cdv A outer s0 H vs Q E hr h => ?_)
  · obtain ⟨a, x, t, n, ds, rfl, _⟩ := h
    rfl
  obtain ⟨a, x, t, n, ds, rfl, hH, tree, hn, hx, ht, qn⟩ := h
  obtain ⟨rs, hrs, hlen, hds⟩ := id hH
  have hdn := tree.len
  obtain ⟨f_walk_to, fd_walk_to, g_walk_to, k_walk_to, b_walk_to, G_walk_to⟩ := C_walk_to
  obtain ⟨f_region, fd_region, g_region, k_region, b_region, G_region⟩ := C_region
  obtain ⟨f_walk_lengths, fd_walk_lengths, g_walk_lengths, k_walk_lengths, b_walk_lengths, G_walk_lengths⟩ := C_walk_lengths
  obtain ⟨f_is_apart, fd_is_apart, g_is_apart, k_is_apart, b_is_apart, G_is_apart⟩ := C_is_apart
  obtain ⟨f_check_first_meeting, fd_check_first_meeting, g_check_first_meeting, k_check_first_meeting, b_check_first_meeting, G_check_first_meeting⟩ := C_check_first_meeting
  obtain ⟨f_first_meeting, fd_first_meeting, g_first_meeting, k_first_meeting, b_first_meeting, G_first_meeting⟩ := C_first_meeting
  obtain ⟨f_check_gathering, fd_check_gathering, g_check_gathering, k_check_gathering, b_check_gathering, G_check_gathering⟩ := C_check_gathering
  obtain ⟨f_gather, fd_gather, g_gather, k_gather, b_gather, G_gather⟩ := C_gather
  obtain ⟨f_groups, fd_groups, g_groups, k_groups, b_groups, G_groups⟩ := C_groups
  obtain ⟨f_l_no_previous, fd_l_no_previous, g_l_no_previous, k_l_no_previous, b_l_no_previous, G_l_no_previous⟩ := C_l_no_previous
  obtain ⟨f_explained_doors, fd_explained_doors, g_explained_doors, k_explained_doors, b_explained_doors, G_explained_doors⟩ := C_explained_doors
  have one1 : (1 : Nat) ≤ sizeLine := by decide
  have two1 : (2 : Nat) ≤ sizeLine := by decide
  have en : (((rs.map V.ref).length : Nat) : Int) = ((ds.length : Nat) : Int) := by rw [List.length_map, hlen]
  refine ⟨_, (pss_cons (ps_set (i := 3) sc_l_one_person_holds.nd rfl (.inl rfl) (pe_tup (pa_cons (pe_tup (pa_cons (pv 1) pa_nil)) (pa_cons (pe_op op_repN (pe_tup (pa_cons pe_int pa_nil)) (pe_callB call_len_seq (by rfl) T.len PySem.boot_len (pa_cons (pv 0) pa_nil))) pa_nil))))
    (Evl.pss_cut (ps_set (i := 4) sc_l_one_person_holds.nd rfl (.inl rfl) (pe_ix ix_list (pe_lst (pa_cons pe_non (pa_cons (pe_lst pa_nil) pa_nil))) (pe_callTy call_int1 (by rfl) T.int (by decide +kernel) (pa_cons (pe_cmpR op_eq (pv 1) (pv 2) (nomark _)) pa_nil)) (fun _ _ => rfl)))
    (Evl.pss_cut (ps_if (PW.pt (pw_or (pt_cmpR (op_neD hr.units) (pe_call G_region (hr.mono (by decide)) (by rfl) g_region k_region b_region .nil pass0 (pa_cons (pv 0) (pa_cons (pv 3) (pa_cons pe_int pa_nil)))) (pe_lst (pa_cons (pv 1) pa_nil)) (nomark _)) (pw_or1 (pt_cmpR (op_neD hr.units) (pe_call G_walk_to (hr.mono (by decide)) (by rfl) g_walk_to k_walk_to b_walk_to .nil pass0 (pa_cons (pv 0) (pa_cons (pv 3) (pa_cons pe_int (pa_cons (pv 2) pa_nil))))) (pv 4) (nomark _))))) (pss_one (ps_ret pe_bl)) pss_nil)
    (Evl.pss_cut (ps_if (PW.pt (pw_or (pt_cmpR op_isnot_bl (pe_call G_is_apart (hr.mono (by decide)) (by rfl) g_is_apart k_is_apart b_is_apart .nil pass0 (pa_cons (pv 0) (pa_cons (pv 3) pa_nil))) pe_bl (nomark _)) (pw_or1 (pt_cmpR (op_neD hr.units) (pe_call G_walk_lengths (hr.mono (by decide)) (by rfl) g_walk_lengths k_walk_lengths b_walk_lengths .nil pass0 (pa_cons (pv 0) (pa_cons (pv 3) pa_nil))) (pe_lst (pa_cons (pe_tup (pa_cons pe_int (pa_cons pe_int pa_nil))) pa_nil)) (nomark _))))) (pss_one (ps_ret pe_bl)) pss_nil)
    (Evl.pss_cut (ps_if (PW.pt (pw_or (pt_cmpR op_notN (pe_call G_first_meeting (hr.mono (by decide)) (by rfl) g_first_meeting k_first_meeting b_first_meeting .nil pass0 (pa_cons (pv 0) (pa_cons (pv 3) pa_nil))) pe_non (nomark _)) (pw_or1 (pt_cmpR (op_neD hr.units) (pe_call G_check_first_meeting (hr.mono (by decide)) (by rfl) g_check_first_meeting k_check_first_meeting b_check_first_meeting .nil pass0 (pa_cons (pv 0) (pa_cons (pv 3) (pa_cons (pe_tup (pa_cons pe_int (pa_cons (pe_lst pa_nil) pa_nil))) pa_nil)))) (pe_tup (pa_cons pe_str pa_nil)) (nomark _))))) (pss_one (ps_ret pe_bl)) pss_nil)
    (Evl.pss_cut (ps_if (PW.pt (pw_and (pt_cmpR op_eq (pv 1) (pv 2) (nomark _)) (pw_and1 (pt_cmpR (op_neD hr.units) (pe_call G_check_gathering (hr.mono (by decide)) (by rfl) g_check_gathering k_check_gathering b_check_gathering .nil pass0 (pa_cons (pv 0) (pa_cons (pv 3) (pa_cons (pv 2) (pa_cons (pe_tup (pa_cons pe_str (pa_cons (pe_lst (pa_cons (pe_lst (pa_cons (pv 1) pa_nil)) pa_nil)) pa_nil))) pa_nil))))) (pe_tup (pa_cons pe_str pa_nil)) (nomark _))))) (pss_one (ps_ret pe_bl)) pss_nil)
    (Evl.pss_cut (ps_if (PW.pt (pw_and (pt_cmpR op_ne (pv 1) (pv 2) (nomark _)) (pw_and1 (pt_cmpR (op_neD hr.units) (pe_call G_gather (hr.mono (by decide)) (by rfl) g_gather k_gather b_gather .nil pass0 (pa_cons (pv 0) (pa_cons (pv 3) (pa_cons (pv 2) pa_nil)))) (pe_tup (pa_cons pe_str (pa_cons (pe_lst (pa_cons (pe_lst (pa_cons (pv 1) pa_nil)) pa_nil)) pa_nil))) (nomark _))))) (pss_one (ps_ret pe_bl)) pss_nil)
    (Evl.pss_cut (ps_if (pt_cmpR (op_neD hr.units) (pe_call G_groups (hr.mono (by decide)) (by rfl) g_groups k_groups b_groups .nil pass0 (pa_cons (pv 0) (pa_cons (pv 3) pa_nil))) (pe_lst (pa_cons (pe_listRg rfl (by rfl) T.list (prg_1 (by rfl) T.range (pe_op op_add (pe_callB call_len_seq (by rfl) T.len PySem.boot_len (pa_cons (pv 0) pa_nil)) pe_int))) pa_nil)) (nomark _)) (pss_one (ps_ret pe_bl)) pss_nil)
    (pss_one (ps_ret (pe_and (pe_cmpR (op_eqD hr.units) (pe_call G_explained_doors (hr.mono (by decide)) (by rfl) g_explained_doors k_explained_doors b_explained_doors .nil pass0 (pa_cons (pv 0) (pa_cons (pv 3) pa_nil))) (pe_listRg rfl (by rfl) T.list (prg_1 (by rfl) T.range (pe_callB call_len_seq (by rfl) T.len PySem.boot_len (pa_cons (pv 0) pa_nil)))) (nomark _)) (pe_one (pe_call G_l_no_previous (hr.mono (by decide)) (by rfl) g_l_no_previous k_l_no_previous b_l_no_previous .nil pass0 (pa_cons (pv 0) (pa_cons (pv 3) pa_nil))))))))))))))), ?_⟩
  refine ⟨_, rfl, one1, fun p1 np1 => ⟨one1, fun p2 np2 => ?_⟩⟩
  have s1 := Same.upd (o := .tup [V.int (x : Int)]) np1
  have s2 := Same.upd (o := .tup [V.int 0]) np2
  have s12 := s1.trans s2
  refine ⟨_, rfl, _, _, rfl, .inr (s12.tup hrs), ?_⟩
  refine ⟨p2, ds.length, 0, rfl, congrArg V.int en, upd_same, by omega, fun H1 r1 s3 hr1 => ?_⟩
  refine ⟨two1, fun s np3 => ?_⟩
  have s4 := Same.upd (o := .tup [.ref p1, .ref r1]) np3
  have s14 := (s12.trans s3).trans s4
  have st : StateAt K (upd H1 s (.tup [.ref p1, .ref r1])) s ([x], List.replicate ds.length 0) := ⟨p1, r1, SqT.of upd_same, SqT.of (s4 _ _ (s3 _ _ (s2 _ _ upd_same))), s4.tup hr1⟩
  generalize upd H1 s (.tup [.ref p1, .ref r1]) = H2 at st s14 ⊢
  have hH2 := hH.same s14
  have ok : StOk n ds ([x], List.replicate ds.length 0) := ⟨by show 1 ≤ 1; decide, by show 1 ≤ 10; decide, fun u hu => by rw [List.mem_singleton.mp hu]; exact hx, by show (List.replicate ds.length 0).length = _; rw [List.length_replicate], fun y hy => by rw [List.eq_of_mem_replicate hy]; show 0 < 1; decide⟩
  have all : AllAt ([x], List.replicate ds.length 0) x := fun u hu => List.mem_singleton.mp hu
  have stuck : Stuck ds ([x], List.replicate ds.length 0) 0 := fun d u v j => by
    have ld : d < ds.length := by rcases j with j | j <;> exact get_lt j
    show (List.replicate ds.length 0)[d]? = some 0
    rw [List.getElem?_replicate, if_pos ld]
  have len : ([x], List.replicate ds.length 0).1.length = 1 := rfl
  have g0 : ([x], List.replicate ds.length 0).1.getD 0 0 = x := rfl
  generalize ([x], List.replicate ds.length 0) = S at st ok all stuck len g0
  have apt : Apt ds S := one_apt len
  have lp : 0 < S.1.length := by omega
  refine ⟨fun σ H3 => ∃ v, σ = [some (.ref a), some (.int (x : Int)), some (.int (t : Int)), some (.ref s), some v] ∧ Same H2 H3 ∧ ((x = t ∧ ∃ b, v = .ref b ∧ H3 b = some (.lst [])) ∨ (x ≠ t ∧ v = .non)), ?_, ?_⟩
  · refine ⟨Nat.zero_le _, fun b1 nb1 => ⟨two1, fun b2 nb2 => ?_⟩⟩
    have c1 := Same.upd (o := .lst []) nb1
    have c2 := Same.upd (o := .lst [V.non, V.ref b1]) nb2
    refine ⟨_, rfl, _, rfl, rfl, .inr ⟨_, rfl, ?_⟩⟩
    by_cases e : x = t
    · rw [decide_eq_true (show V.int (x : Int) = V.int (t : Int) by rw [e])]
      refine ⟨b2, _, _, _, rfl, rfl, SqL.of upd_same, atI_nat (j := 1) rfl, ?_⟩
      exact ⟨_, rfl, c1.trans c2, .inl ⟨e, b1, rfl, c2 _ _ upd_same⟩⟩
    · rw [decide_eq_false (show ¬ V.int (x : Int) = V.int (t : Int) from fun z => e (by have := V.int.inj z; omega))]
      refine ⟨b2, _, _, _, rfl, rfl, SqL.of upd_same, atI_nat (j := 0) rfl, ?_⟩
      exact ⟨_, rfl, c1.trans c2, .inr ⟨e, rfl⟩⟩
  rintro _ H3 ⟨v, rfl, s3', hv⟩
  refine ⟨fun σ H4 => σ = [some (.ref a), some (.int (x : Int)), some (.int (t : Int)), some (.ref s), some v] ∧ Same H2 H4, ?_, ?_⟩
  · refine ⟨_, rfl, _, rfl, a, s, 0, n, ds, S, rfl, hH2.same s3', tree, hn, st.same s3', ok, lp, fun H4 q L ks s4 nq hq rg pm asc => ?_⟩
    have e := stuck.reg rg pm
    rw [g0] at e
    subst e
    have s34 := s3'.trans s4
    refine ⟨_, rfl, one1, fun t2 nt2 => ?_⟩
    have s5 := Same.upd (o := .lst [V.int (x : Int)]) nt2
    have s35 := s34.trans s5
    refine ⟨.list (dIs [x]), .list (dIs [x]), .lst (SqL.of (s5 _ _ hq)) (dp_is [x]), .lst (SqL.of upd_same) (dp_is [x]), dInts_shaped _, dInts_shaped _, _, rfl, ?_⟩
    refine iteF' (by rw [d_refl (dInts_shaped _)]; rfl) ?_
    have s45 := s4.trans s5
    generalize upd H4 t2 (.lst [V.int (x : Int)]) = H5 at s35 s45 ⊢
    refine ⟨_, rfl, _, rfl, _, rfl, a, s, 0, t, n, ds, S, rfl, hH2.same s35, tree, by omega, st.same s35, ok, lp, ht, fun H6 ks s6 rg no => ?_, fun H6 q6 tr s6 nq6 tq trl nd nsh lntr => ?_⟩
    · rcases hv with ⟨e, _⟩ | ⟨e, rfl⟩
      · exact absurd (by rw [stuck.reg rg (List.Perm.refl _), g0, e]; exact List.mem_singleton.mpr rfl) no
      · refine ⟨_, rfl, .none, .none, .non, .non, by decide +kernel, by decide +kernel, _, rfl, ?_⟩
        refine iteF' (by decide +kernel) ?_
        exact ⟨rfl, s35.trans s6⟩
    · obtain ⟨rfl, ex⟩ := stuck.trl trl nsh
      rw [g0] at ex
      rcases hv with ⟨e, b, rfl, hb⟩ | ⟨e, _⟩
      · refine ⟨_, rfl, dMs [], dMs [], dp_Tris tq, .lst (SqL.of (s6 _ _ (s45 _ _ hb))) .nil, dMs_shaped _, dMs_shaped _, _, rfl, ?_⟩
        refine iteF' (by rw [d_refl (dMs_shaped _)]; rfl) ?_
        exact ⟨rfl, s35.trans s6⟩
      · exact absurd ex e
  clear hv s3'
  rintro _ H3 ⟨rfl, s3⟩
  refine ⟨fun σ H4 => σ = [some (.ref a), some (.int (x : Int)), some (.int (t : Int)), some (.ref s), some v] ∧ Same H2 H4, ?_, ?_⟩
  · refine ⟨_, rfl, _, rfl, a, s, n, ds, S, rfl, hH2.same s3, tree, hn, st.same s3, ok, fun H4 Ls s4 rg => ?_⟩
    rw [decide_eq_true (rg.toL.apt.mpr apt)]
    have s34 := s3.trans s4
    refine ⟨_, _, rfl, rfl, _, rfl, ?_⟩
    refine iteF' (by simp) ?_
    refine ⟨_, rfl, _, rfl, a, s, n, ds, S, rfl, hH2.same s34, tree, hn, st.same s34, ok, fun Ls rg => ⟨fun no H5 s5 => ?_, fun nd H5 q l s5 nq pq lens => ?_⟩⟩
    · exact absurd (rg.toL.apt.mpr apt) no
    · rw [len] at lens
      have el := stuck.lens lens
      subst el
      have s35 := s34.trans s5
      refine ⟨two1, fun a1 na1 => ⟨one1, fun a2 na2 => ?_⟩⟩
      have b1 := Same.upd (o := .tup [V.int 0, V.int 0]) na1
      have b2 := Same.upd (o := .lst [V.ref a1]) na2
      refine ⟨.list ([(0, 0)].map dP2), .list ([(0, 0)].map dP2), dp_P2 (pq.same (b1.trans b2)), .lst (SqL.of upd_same) (.cons (.tup (SqT.of (b2 _ _ upd_same)) (.cons (.int 0) (.cons (.int 0) .nil))) .nil), by decide +kernel, by decide +kernel, _, rfl, ?_⟩
      refine iteF' (by decide +kernel) ?_
      exact ⟨rfl, (s35.trans b1).trans b2⟩
  rintro _ H3 ⟨rfl, s3⟩
  refine ⟨fun σ H4 => σ = [some (.ref a), some (.int (x : Int)), some (.int (t : Int)), some (.ref s), some v] ∧ Same H2 H4, ?_, ?_⟩
  · refine ⟨_, rfl, _, rfl, a, s, n, ds, S, rfl, hH2.same s3, tree, hn, st.same s3, ok, fun ap1 H4 s4 => ?_, fun H4 t4 pl m na => absurd apt na⟩
    refine ⟨rfl, _, rfl, ?_⟩
    refine iteF' (by simp) ?_
    have s34 := s3.trans s4
    refine ⟨_, rfl, _, rfl, Nat.zero_le _, fun a1 na1 => ⟨two1, fun a2 na2 => ?_⟩⟩
    have b1 := Same.upd (o := .lst []) na1
    have b2 := Same.upd (o := .tup [V.int 0, V.ref a1]) na2
    have s35 := (s34.trans b1).trans b2
    refine ⟨a, s, .ref a2, n, ds, S, some (0, []), rfl, hH2.same s35, tree, hn, st.same s35, ok, .inr ⟨a2, a1, 0, [], rfl, rfl, upd_same, [], b2 _ _ upd_same, TL.nil⟩, (fun k l e m h => by cases e; nomatch h), fun H5 v5 d s5 vd dp => ?_⟩
    have e0 : d = dAp1 := by
      rcases vd with ⟨_, e⟩ | ⟨na, _⟩
      · exact e
      · exact absurd apt na
    subst e0
    refine ⟨one1, fun a5 na5 => ?_⟩
    have b6 := Same.upd (o := .tup [V.str "apart"]) na5
    refine ⟨dAp1, dAp1, dp_same b6 _ _ dp, .tup (SqT.of upd_same) (.cons (.str _) .nil), by decide +kernel, by decide +kernel, _, rfl, ?_⟩
    refine iteF' (by decide +kernel) ?_
    exact ⟨rfl, (s35.trans s5).trans b6⟩
  rintro _ H3 ⟨rfl, s3⟩
  refine ⟨fun σ H4 => σ = [some (.ref a), some (.int (x : Int)), some (.int (t : Int)), some (.ref s), some v] ∧ Same H2 H4, ?_, ?_⟩
  · refine ⟨_, rfl, _, rfl, rfl, _, rfl, ?_⟩
    by_cases e : x = t
    rotate_left
    · exact iteF' (by rw [decide_eq_false (show ¬ V.int (x : Int) = V.int (t : Int) from fun z => e (by have := V.int.inj z; omega))]) ⟨rfl, s3⟩
    refine iteT' (by rw [decide_eq_true (show V.int (x : Int) = V.int (t : Int) by rw [e])]) ?_
    refine ⟨_, rfl, _, rfl, _, rfl, _, rfl, one1, fun a1 na1 => ⟨one1, fun a2 na2 => ⟨two1, fun a3 na3 => ?_⟩⟩⟩
    have b1 := Same.upd (o := .lst [V.int (x : Int)]) na1
    have b2 := Same.upd (o := .lst [V.ref a1]) na2
    have b3 := Same.upd (o := .tup [V.str "apart", V.ref a2]) na3
    have s33 := ((s3.trans b1).trans b2).trans b3
    have lz : LZ (upd (upd (upd H3 a1 (.lst [V.int (x : Int)])) a2 (.lst [V.ref a1])) a3 (.tup [V.str "apart", V.ref a2])) a2 (zLs [[x]]) := by
      refine ⟨[a1], b3 _ _ upd_same, rfl, fun i r L h1 h2 => ?_⟩
      match i, h1, h2 with
      | 0, h1, h2 =>
        cases h1
        cases h2
        exact b3 _ _ (b2 _ _ upd_same)
      | i + 1, h1, _ => simp at h1
    refine ⟨a, s, a3, n, t, ds, S, .inr (zLs [[x]]), rfl, hH2.same s33, tree, hn, st.same s33, ok, ht, ⟨a2, upd_same, lz⟩, ⟨by show 1 ≤ 500; decide, fun L hL => by rw [List.mem_singleton.mp hL]; show 1 ≤ 500; decide⟩, fun H4 v4 d s4 vd dp => ?_⟩
    have e0 : d = dTo1 := by
      obtain ⟨Ls, rl, asc, h⟩ := vd
      have eL : Ls = [[x]] := by
        have l1 := rl.len
        rw [len] at l1
        match Ls, l1, rl with
        | [L], _, rl => rw [stuck.set (rl.at_ 0 L rfl), g0]
      rcases h with ⟨ne, _⟩ | ⟨_, ⟨_, e⟩ | ⟨_, na, _⟩⟩
      · exact absurd (by rw [eL]) ne
      · exact e
      · exact absurd (fun u hu => by rw [all u hu, e]) na
    subst e0
    refine ⟨one1, fun a5 na5 => ?_⟩
    have b6 := Same.upd (o := .tup [V.str "together"]) na5
    refine ⟨dTo1, dTo1, dp_same b6 _ _ dp, .tup (SqT.of upd_same) (.cons (.str _) .nil), by decide +kernel, by decide +kernel, _, rfl, ?_⟩
    refine iteF' (by decide +kernel) ?_
    exact ⟨rfl, (s33.trans s4).trans b6⟩
  rintro _ H3 ⟨rfl, s3⟩
  refine ⟨fun σ H4 => σ = [some (.ref a), some (.int (x : Int)), some (.int (t : Int)), some (.ref s), some v] ∧ Same H2 H4, ?_, ?_⟩
  · refine ⟨_, rfl, _, rfl, rfl, _, rfl, ?_⟩
    by_cases e : x = t
    · exact iteF' (by rw [decide_eq_true (show V.int (x : Int) = V.int (t : Int) by rw [e])]; rfl) ⟨rfl, s3⟩
    refine iteT' (by rw [decide_eq_false (show ¬ V.int (x : Int) = V.int (t : Int) from fun z => e (by have := V.int.inj z; omega))]; rfl) ?_
    have nal : ¬ ∀ u ∈ S.1, u = t := fun h => by
      obtain ⟨u, hu⟩ : ∃ u, S.1[0]? = some u := get_of rfl lp
      have m := List.mem_of_getElem? hu
      exact e ((all u m).symm.trans (h u m))
    refine ⟨_, rfl, _, rfl, _, rfl, a, s, n, t, ds, S, rfl, hH2.same s3, tree, hn, st.same s3, ok, ht, fun H4 t4 pl A m h => ?_, fun H4 t4 q Ls _ na nq s4 h4 la rl asc fr => ?_⟩
    · rcases h with h | h
      · exact absurd apt h
      · exact absurd h nal
    have eL : Ls = [[x]] := by
      have l1 := rl.len
      rw [len] at l1
      match Ls, l1, rl with
      | [L], _, rl => rw [stuck.set (rl.at_ 0 L rfl), g0]
    subst eL
    refine ⟨_, rfl, one1, fun a1 na1 => ⟨one1, fun a2 na2 => ⟨two1, fun a3 na3 => ?_⟩⟩⟩
    have b1 := Same.upd (o := .lst [V.int (x : Int)]) na1
    have b2 := Same.upd (o := .lst [V.ref a1]) na2
    have b3 := Same.upd (o := .tup [V.str "apart", V.ref a2]) na3
    have b13 := (b1.trans b2).trans b3
    have sh : SeqAt.shaped (.tuple [.str "apart", dLZ (zLs [[x]])]) = true := shaped_mk (by simp [PyData.canLay0, PyData.canLayAll0, dLZ, zLs, zL, dZ]; decide +kernel) (by simp [PyData.depth, PyData.depthAll, dLZ, zLs, zL, dZ])
    refine ⟨.tuple [.str "apart", dLZ (zLs [[x]])], .tuple [.str "apart", dLZ (zLs [[x]])], .tup (SqT.of (b13 _ _ h4)) (.cons (.str _) (.cons (dp_LZ ((LZ.of la).same b13)) .nil)), .tup (SqT.of upd_same) (.cons (.str _) (.cons (.lst (SqL.of (b3 _ _ upd_same)) (.cons (.lst (SqL.of (b3 _ _ (b2 _ _ upd_same))) (.cons (.int _) .nil)) .nil)) .nil)), sh, sh, _, rfl, ?_⟩
    refine iteF' (by rw [d_refl sh]; rfl) ?_
    exact ⟨rfl, (s3.trans s4).trans b13⟩
  rintro _ H3 ⟨rfl, s3⟩
  refine ⟨fun σ H4 => σ = [some (.ref a), some (.int (x : Int)), some (.int (t : Int)), some (.ref s), some v] ∧ Same H2 H4, ?_, ?_⟩
  · refine ⟨_, rfl, _, rfl, a, s, ds, n, S, rfl, hH2.same s3, tree, by omega, st.same s3, ok, fun H5 q M J s5 nl mk cl => ?_⟩
    rw [all.grps tree ok mk.1 cl] at nl
    have s35 := s3.trans s5
    refine ⟨_, rfl, _, _, rfl, .inr ((s14.trans s35).tup hrs), ?_⟩
    refine ⟨_, _, rfl, rfl, _, rfl, ?_⟩
    rw [show (((rs.map V.ref).length : Nat) : Int) + 1 = ((n : Nat) : Int) by rw [en]; omega]
    refine ⟨RgOk.of_le (by omega) (by omega) (by omega) (by omega), fun q7 nq7 => ?_⟩
    rw [rgV_nat]
    refine ⟨one1, fun q8 nq8 => ?_⟩
    have b7 := Same.upd (o := .lst (nv (List.range n))) nq7
    have b8 := Same.upd (o := .lst [V.ref q7]) nq8
    have lz : LZ (upd (upd H5 q7 (.lst (nv (List.range n)))) q8 (.lst [V.ref q7])) q8 (zLs [List.range n]) := by
      refine ⟨[q7], upd_same, rfl, fun i r L h1 h2 => ?_⟩
      match i, h1, h2 with
      | 0, h1, h2 =>
        cases h1
        cases h2
        rw [zv_nv]
        exact b8 _ _ upd_same
      | i + 1, h1, _ => simp at h1
    refine ⟨dLZ (zLs [List.range n]), dLZ (zLs [List.range n]), dp_LZ ((LZ.of nl.lists).same (b7.trans b8)), dp_LZ lz, dLZ_shaped _, dLZ_shaped _, _, rfl, ?_⟩
    refine iteF' (by rw [d_refl (dLZ_shaped _)]; rfl) ?_
    exact ⟨rfl, (s35.trans b7).trans b8⟩
  rintro _ H3 ⟨rfl, s3⟩
  refine ⟨_, rfl, _, rfl, a, s, ds, n, S, rfl, hH2.same s3, tree, by omega, st.same s3, ok, fun H5 q M J s5 nq hq mk cl => ?_⟩
  rw [all.exd tree ok mk.1 cl] at hq
  have s35 := s3.trans s5
  refine ⟨_, rfl, _, _, rfl, .inr ((s14.trans s35).tup hrs), ?_⟩
  refine ⟨_, rfl, ?_⟩
  rw [en]
  refine ⟨RgOk.of_le (by omega) (by omega) (by omega) (by omega), fun q7 nq7 => ?_⟩
  rw [rgV_nat]
  have b7 := Same.upd (o := .lst (nv (List.range ds.length))) nq7
  have s37 := s35.trans b7
  refine ⟨.list (dIs (List.range ds.length)), .list (dIs (List.range ds.length)), .lst (SqL.of (b7 _ _ hq)) (dp_is _), .lst (SqL.of upd_same) (dp_is _), dInts_shaped _, dInts_shaped _, ?_⟩
  rw [d_refl (dInts_shaped _)]
  generalize upd H5 q7 (.lst (nv (List.range ds.length))) = H7 at s37 ⊢
  refine ⟨_, rfl, iteT ?_⟩
  refine ⟨_, rfl, _, rfl, a, s, ds, n, S, rfl, hH2.same s37, tree, by omega, st.same s37, ok, ?_, fun H8 s8 => qn H8 (s14.trans (s37.trans s8))⟩
  unfold cnt
  rw [len]
  exact Nat.mul_zero _
end
end K5

namespace K5
open PySem PySem.Spec PyProof.Rows L2
def spOnePlace (K : PySem.W.Frag) : Sp := fun vs H Q _ => ∃ (g a : Addr) (b c n : Nat) (ds : List (Nat × Nat)), vs = [.ref g, .ref a, .int (c : Int)] ∧ GenAt H g b ∧ HouseAt K H a ds ∧ Tree n ds ∧ n ≤ 60 ∧ 2 ≤ c ∧ c ≤ 10 ∧ b < 2 ^ 55 ∧
  ∀ (H' : Hp), But g H H' → GenAt H' g (b + 1000) → Q (.bl true) H'
section
variable {P : Program} {w : World} {K : PySem.W.Frag}
      {mg : Str → Option Value} {base : Heap}
theorem ok_l_one_place_holds (T : Bl mg) (D : Def K mg "_law_one_place_holds" s_l_one_place_holds) (C_l_random : Cal P w K mg base "_law_random" ["_law_generator_here", "_law_bound"] 2 spRand) (C_walk_lengths : Cal P w K mg base "walk_lengths" ["house", "state"] 9 (spLens K)) (C_is_apart : Cal P w K mg base "is_apart" ["house", "state"] 8 (spApart K))
    (C_check_first_meeting : Cal P w K mg base "check_first_meeting" ["house", "state", "claim"] 11 (spCheckF K)) (C_first_meeting : Cal P w K mg base "first_meeting" ["house", "state"] 9 (spFirst K)) (C_groups : Cal P w K mg base "groups" ["house", "state"] 8 (spGroups K))
    (C_count_previous : Cal P w K mg base "count_previous" ["house", "state"] 8 (spCount K)) : Cal P w K mg base "_law_one_place_holds" ["_law_generator_here", "_law_layout", "_law_count"] 12 (spOnePlace K) := by
  refine D.ok sc_l_one_place_holds (fun _ _ _ _ _ _ us hl => match us, hl with | [_, _, _], _ => rfl) (fun vs H Q E h => ?_) (fun f cdv A outer s0 H vs Q E hr h => ?_)
  · obtain ⟨g, a, b, c, n, ds, rfl, _⟩ := h
    rfl
  obtain ⟨g, a, b, c, n, ds, rfl, hg, hH, tree, hn, c1, c2, hb, qn⟩ := h
  obtain ⟨rs, hrs, hlen, hds⟩ := id hH
  have hdn := tree.len
  obtain ⟨f_l_random, fd_l_random, g_l_random, k_l_random, b_l_random, G_l_random⟩ := C_l_random
  obtain ⟨f_walk_lengths, fd_walk_lengths, g_walk_lengths, k_walk_lengths, b_walk_lengths, G_walk_lengths⟩ := C_walk_lengths
  obtain ⟨f_is_apart, fd_is_apart, g_is_apart, k_is_apart, b_is_apart, G_is_apart⟩ := C_is_apart
  obtain ⟨f_check_first_meeting, fd_check_first_meeting, g_check_first_meeting, k_check_first_meeting, b_check_first_meeting, G_check_first_meeting⟩ := C_check_first_meeting
  obtain ⟨f_first_meeting, fd_first_meeting, g_first_meeting, k_first_meeting, b_first_meeting, G_first_meeting⟩ := C_first_meeting
  obtain ⟨f_groups, fd_groups, g_groups, k_groups, b_groups, G_groups⟩ := C_groups
  obtain ⟨f_count_previous, fd_count_previous, g_count_previous, k_count_previous, b_count_previous, G_count_previous⟩ := C_count_previous
  have one1 : (1 : Nat) ≤ sizeLine := by decide
  have two1 : (2 : Nat) ≤ sizeLine := by decide
  have en : (((rs.map V.ref).length : Nat) : Int) + 1 = ((n : Nat) : Int) := by
    rw [List.length_map, hlen]
    omega
  obtain ⟨gx, hgx⟩ := hg.lst
  refine ⟨_, (pss_cons (ps_set (i := 3) sc_l_one_place_holds.nd rfl (.inr rfl) (pe_call G_l_random (hr.mono (by decide)) (by rfl) g_l_random k_l_random b_l_random .nil pass0 (pa_cons (pv 0) (pa_cons (pe_op op_add (pe_callB call_len_seq (by rfl) T.len PySem.boot_len (pa_cons (pv 1) pa_nil)) pe_int) pa_nil))))
    (pss_cons (ps_set (i := 4) sc_l_one_place_holds.nd rfl (.inl rfl) (pe_tup (pa_cons (pe_op op_repN (pe_tup (pa_cons (pv 3) pa_nil)) (pv 2)) (pa_cons (pe_callTy call_tuple_of (by rfl) T.tuple (by decide +kernel) (pa_cons (pe_lc (own := [("_law_door", 5)]) (g := gName 5)  rfl sc_l_one_place_holds.nd (pi_tup (pv 1)) (blkOk_by (N := N_l_one_place_holds) (sc := defScope s_l_one_place_holds) (own := [("_law_door", 5)]) (by decide +kernel)) (fun _ _ _ _ _ => (pg_name (i := 5) sc_l_one_place_holds.nd rfl (.inl rfl) (.inr rfl))) (fun _ _ _ _ _ => pts_nil) (fun _ _ _ _ _ => (pe_call G_l_random (hr.mono (by decide)) (by rfl) g_l_random k_l_random b_l_random .nil pass0 (pa_cons (pv 0) (pa_cons (pv 2) pa_nil))))) pa_nil)) pa_nil))))
    (Evl.pss_cut (ps_if (PW.pt (pw_or (pt_cmpR op_isnot_bl (pe_call G_is_apart (hr.mono (by decide)) (by rfl) g_is_apart k_is_apart b_is_apart .nil pass0 (pa_cons (pv 1) (pa_cons (pv 4) pa_nil))) pe_bl (nomark _)) (pw_or1 (pt_cmpR op_notN (pe_call G_walk_lengths (hr.mono (by decide)) (by rfl) g_walk_lengths k_walk_lengths b_walk_lengths .nil pass0 (pa_cons (pv 1) (pa_cons (pv 4) pa_nil))) pe_non (nomark _))))) (pss_one (ps_ret pe_bl)) pss_nil)
    (Evl.pss_cut (ps_if (PW.pt (pw_or (pt_cmpR (op_neD hr.units) (pe_call G_first_meeting (hr.mono (by decide)) (by rfl) g_first_meeting k_first_meeting b_first_meeting .nil pass0 (pa_cons (pv 1) (pa_cons (pv 4) pa_nil))) (pe_tup (pa_cons pe_int (pa_cons (pe_lst pa_nil) pa_nil))) (nomark _)) (pw_or1 (pt_cmpR (op_neD hr.units) (pe_call G_check_first_meeting (hr.mono (by decide)) (by rfl) g_check_first_meeting k_check_first_meeting b_check_first_meeting .nil pass0 (pa_cons (pv 1) (pa_cons (pv 4) (pa_cons pe_non pa_nil)))) (pe_tup (pa_cons pe_str pa_nil)) (nomark _))))) (pss_one (ps_ret pe_bl)) pss_nil)
    (Evl.pss_cut (ps_if (pt_cmpR (op_neD hr.units) (pe_call G_groups (hr.mono (by decide)) (by rfl) g_groups k_groups b_groups .nil pass0 (pa_cons (pv 1) (pa_cons (pv 4) pa_nil))) (pe_lst (pa_cons (pe_listRg rfl (by rfl) T.list (prg_1 (by rfl) T.range (pe_op op_add (pe_callB call_len_seq (by rfl) T.len PySem.boot_len (pa_cons (pv 1) pa_nil)) pe_int))) pa_nil)) (nomark _)) (pss_one (ps_ret pe_bl)) pss_nil)
    (pss_cons (ps_setLc (i := 6) (own := [("_law_door", 5), ("_law_ends", 7)]) (g := gTup K 2 (gCons (gName 5) (gCons (gName 7) gNil)))  (tt := (tTest (tOp (rIn K false) (tVar 3) (tVar 7)))) rfl sc_l_one_place_holds.nd rfl rfl (sw_true rfl rfl rfl (by decide +kernel)) (pi_enumT (by rfl) T.enumerate (pa_cons (pv 1) pa_nil)) (blkOk_by (N := N_l_one_place_holds) (sc := defScope s_l_one_place_holds) (own := [("_law_door", 5), ("_law_ends", 7)]) (by decide +kernel)) (fun _ _ _ _ _ => (pg_tup (n := 2) rfl (pgs_cons (pg_name (i := 5) sc_l_one_place_holds.nd rfl (.inl rfl) (.inr rfl)) (pgs_cons (pg_name (i := 7) sc_l_one_place_holds.nd rfl (.inl rfl) (.inr rfl)) pgs_nil)))) (fun _ _ _ _ _ => (pts_one (pt_cmpR op_in_seq (pv 3) (pv 7) (by rfl)))) (fun _ _ _ _ _ => (pv 5)))
    (pss_one (ps_ret (pe_cmpR op_eq (pe_call G_count_previous (hr.mono (by decide)) (by rfl) g_count_previous k_count_previous b_count_previous .nil pass0 (pa_cons (pv 1) (pa_cons (pv 4) pa_nil))) (pe_op op_mul (pe_callB call_len_seq (by rfl) T.len PySem.boot_len (pa_cons (pv 6) pa_nil)) (pe_op op_sub (pv 2) pe_int)) (nomark _)))))))))), ?_⟩
  refine ⟨_, rfl, _, rfl, _, _, rfl, .inr hrs, _, _, rfl, rfl, ?_⟩
  refine ⟨g, b, n, congrArg (fun z => [V.ref g, V.int z]) en, hg, by omega, by omega, by omega, fun H1 v bt1 g1 hv => ?_⟩
  refine ⟨_, rfl, one1, fun p1 np1 => ?_⟩
  have s1 := Same.upd (o := .tup [V.int (v : Int)]) np1
  refine ⟨_, rfl, p1, c, v, rfl, rfl, upd_same, by omega, fun H2 r1 s2 hr1 => ?_⟩
  have s12 := s1.trans s2
  have g2 := g1.same s12
  have bt2 := bt1.trans s12.but
  refine ⟨_, rfl, a, rfl, ⟨_, bt2.tup hgx hrs⟩, fun pd npd => ?_⟩
  have npdg : pd ≠ g := g2.ne npd
  refine lc_it (walk_tup (K := K) (a := a) (xs := rs.map V.ref)) (fun i H3 => ∃ L : List Nat, But g H2 H3 ∧ GenAt H3 g (b + 1 + i) ∧ H3 pd = some (.lst (nv L)) ∧ L.length = i ∧ ∀ y ∈ L, y < c)
    ⟨[], (Same.upd npd).but, g2.at npdg, upd_same, rfl, fun y hy => (List.not_mem_nil hy).elim⟩ (fun i H3 _ ⟨_, bt3, _⟩ => (bt2.trans bt3).tup hgx hrs) ?_ ?_
  · rintro i y H3 H4 hi ⟨L, bt3, g3, hL, hl, lt⟩ ⟨rfl, ex⟩
    have hi' : i < ds.length := by
      rw [List.length_map, hlen] at hi
      exact hi
    refine ⟨rfl, lcYes ?_⟩
    refine ⟨_, rfl, _, rfl, g, b + 1 + i, c, rfl, g3, by omega, by omega, by omega, fun H4 z bt4 g4 hz => ?_⟩
    refine ⟨_, bt4 _ _ npdg hL, by rw [nv_len]; exact small1000 (by omega), L ++ [z], (bt3.trans bt4).at npd _, g4.at npdg, by rw [upd_same, nv_snoc], by simp [hl], fun x hx => ?_⟩
    rcases List.mem_append.mp hx with hx | hx
    · exact lt x hx
    · rw [List.mem_singleton] at hx
      rw [hx]
      exact hz
  rintro H3 ⟨L, bt3, g3, hL, hl, lt⟩
  rw [List.length_map, hlen] at hl g3
  have bt13 := bt2.trans bt3
  refine ⟨pd, _, rfl, .inl ⟨SqL.of hL, fun p2 np2 => ⟨two1, fun s np3 => ?_⟩⟩⟩
  have s4 := Same.upd (o := .tup (nv L)) np2
  have s5 := Same.upd (o := .tup [.ref r1, .ref p2]) np3
  have g4 := g3.same (s4.trans s5)
  have bt14 := bt13.trans (s4.trans s5).but
  obtain ⟨gy, hgy⟩ := g2.lst
  have st : StateAt K (upd (upd H3 p2 (.tup (nv L))) s (.tup [.ref r1, .ref p2])) s (List.replicate c v, L) := ⟨r1, p2, SqT.of upd_same, s5.tup (s4.tup (bt3.tup hgy hr1)), SqT.of (s5 _ _ upd_same)⟩
  generalize upd (upd H3 p2 (.tup (nv L))) s (.tup [.ref r1, .ref p2]) = H4 at st bt14 g4 ⊢
  have hH4 := hH.but hgx bt14
  have len : (List.replicate c v, L).1.length = c := List.length_replicate
  have ok : StOk n ds (List.replicate c v, L) := ⟨by rw [len]; omega, by rw [len]; omega, fun x hx => by rw [List.eq_of_mem_replicate hx]; exact hv, hl, fun y hy => by rw [len]; exact lt y hy⟩
  have all := allAt_rep c v L
  generalize (List.replicate c v, L) = S at st ok all len
  have napt : ¬ Apt ds S := all.not_apt (by omega)
  have two : 2 ≤ S.1.length := by omega
  refine ⟨fun σ H5 => σ = [some (.ref g), some (.ref a), some (.int (c : Int)), some (.int (v : Int)), some (.ref s), none, none, none] ∧ Same H4 H5, ?_, ?_⟩
  · refine ⟨_, rfl, _, rfl, a, s, n, ds, S, rfl, hH4, tree, hn, st, ok, fun H5 Ls s5 rg => ?_⟩
    rw [decide_eq_false fun z => napt (rg.toL.apt.mp z)]
    refine ⟨_, _, rfl, rfl, _, rfl, ?_⟩
    refine iteF' (by simp) ?_
    refine ⟨_, rfl, _, rfl, a, s, n, ds, S, rfl, hH4.same s5, tree, hn, st.same s5, ok, fun Ls rg => ⟨fun no H6 s6 => ?_, fun nd => absurd (rg.toL.apt.mp nd) napt⟩⟩
    refine ⟨rfl, _, rfl, ?_⟩
    refine iteF' (by simp) ?_
    exact ⟨rfl, s5.trans s6⟩
  rintro _ H5 ⟨rfl, s5⟩
  refine ⟨fun σ H5 => σ = [some (.ref g), some (.ref a), some (.int (c : Int)), some (.int (v : Int)), some (.ref s), none, none, none] ∧ Same H4 H5, ?_, ?_⟩
  · refine ⟨_, rfl, _, rfl, a, s, n, ds, S, rfl, hH4.same s5, tree, hn, st.same s5, ok, fun ap => absurd ap napt, fun H6 t4 pl m na s6 npl h4 tr fm => ?_⟩
    have em := all.first tree ok two fm
    subst em
    have s56 := s5.trans s6
    refine ⟨Nat.zero_le _, fun a1 na1 => ⟨two1, fun a2 na2 => ?_⟩⟩
    have b1 := Same.upd (o := .lst []) na1
    have b2 := Same.upd (o := .tup [V.int 0, V.ref a1]) na2
    have b12 := b1.trans b2
    refine ⟨.tuple [.int 0, dMs []], .tuple [.int 0, dMs []], .tup (SqT.of (b12 _ _ h4)) (.cons (.int 0) (.cons (dp_Tris (tr.same b12)) .nil)), .tup (SqT.of upd_same) (.cons (.int 0) (.cons (.lst (SqL.of (b2 _ _ upd_same)) .nil) .nil)), by decide +kernel, by decide +kernel, _, rfl, ?_⟩
    refine iteF' (by decide +kernel) ?_
    have s57 := s56.trans b12
    generalize upd (upd H6 a1 (.lst [])) a2 (.tup [V.int 0, V.ref a1]) = H7 at s57 ⊢
    refine ⟨_, rfl, _, rfl, a, s, .non, n, ds, S, none, rfl, hH4.same s57, tree, hn, st.same s57, ok, .inl ⟨rfl, rfl⟩, (fun k l e => nomatch e), fun H8 v5 d s8 vd dp => ?_⟩
    have e0 : d = dAp1 := by
      rcases vd with ⟨ap, _⟩ | ⟨_, e⟩
      · exact absurd ap napt
      · exact e
    subst e0
    refine ⟨one1, fun a5 na5 => ?_⟩
    have b6 := Same.upd (o := .tup [V.str "apart"]) na5
    refine ⟨dAp1, dAp1, dp_same b6 _ _ dp, .tup (SqT.of upd_same) (.cons (.str _) .nil), by decide +kernel, by decide +kernel, _, rfl, ?_⟩
    refine iteF' (by decide +kernel) ?_
    exact ⟨rfl, (s57.trans s8).trans b6⟩
  rintro _ H5 ⟨rfl, s5⟩
  refine ⟨fun σ H5 => σ = [some (.ref g), some (.ref a), some (.int (c : Int)), some (.int (v : Int)), some (.ref s), none, none, none] ∧ Same H4 H5, ?_, ?_⟩
  · refine ⟨_, rfl, _, rfl, a, s, ds, n, S, rfl, hH4.same s5, tree, by omega, st.same s5, ok, fun H6 q M J s6 nl mk cl => ?_⟩
    rw [all.grps tree ok mk.1 cl] at nl
    have s56 := s5.trans s6
    refine ⟨_, rfl, _, _, rfl, .inr (s56.tup (bt14.tup hgx hrs)), ?_⟩
    refine ⟨_, _, rfl, rfl, _, rfl, ?_⟩
    rw [en]
    refine ⟨RgOk.of_le (by omega) (by omega) (by omega) (by omega), fun q7 nq7 => ?_⟩
    rw [rgV_nat]
    refine ⟨one1, fun q8 nq8 => ?_⟩
    have b7 := Same.upd (o := .lst (nv (List.range n))) nq7
    have b8 := Same.upd (o := .lst [V.ref q7]) nq8
    have lz : LZ (upd (upd H6 q7 (.lst (nv (List.range n)))) q8 (.lst [V.ref q7])) q8 (zLs [List.range n]) := by
      refine ⟨[q7], upd_same, rfl, fun i r L h1 h2 => ?_⟩
      match i, h1, h2 with
      | 0, h1, h2 =>
        cases h1
        cases h2
        rw [zv_nv]
        exact b8 _ _ upd_same
      | i + 1, h1, _ => simp at h1
    refine ⟨dLZ (zLs [List.range n]), dLZ (zLs [List.range n]), dp_LZ ((LZ.of nl.lists).same (b7.trans b8)), dp_LZ lz, dLZ_shaped _, dLZ_shaped _, _, rfl, ?_⟩
    refine iteF' (by rw [d_refl (dLZ_shaped _)]; rfl) ?_
    exact ⟨rfl, (s56.trans b7).trans b8⟩
  rintro _ H5 ⟨rfl, s5⟩
  refine ⟨_, rfl, a, _, rfl, s5.tup (bt14.tup hgx hrs), fun p6 np6 => ?_⟩
  refine lc_it (walk_enumT (K := K) (a := a) (xs := rs.map V.ref)) (fun i H6 => Same H5 H6 ∧ H6 p6 = some (.lst (nv (nears ds v i)))) ⟨Same.upd np6, upd_same⟩ (fun i H6 _ h => h.1.tup (s5.tup (bt14.tup hgx hrs))) ?_ ?_
  · rintro i x H6 H7 hi ⟨sm, hp⟩ ⟨t, x1, x2, rfl, nt, rfl, ex1, ex2⟩
    cases ex1
    have hi' : i < ds.length := by
      rw [List.length_map, hlen] at hi
      exact hi
    obtain ⟨r, hr1⟩ : ∃ r, rs[i]? = some r := get_of rfl (by rw [hlen]; exact hi')
    obtain ⟨e, he⟩ : ∃ e, ds[i]? = some e := get_of rfl hi'
    have ex2 : (rs.map V.ref)[i]? = some x2 := ex2
    rw [List.getElem?_map, hr1] at ex2
    cases ex2
    have st7 : Same H6 (upd H6 t (.tup [.int (i : Nat), .ref r])) := Same.upd nt
    have hre := (s5.trans (sm.trans st7)).tup (bt14.tup hgx (hds i r e hr1 he))
    have hp4 := st7 _ _ hp
    have eg : ds.getD i (0, 0) = e := by
      rw [List.getD_eq_getElem?_getD, he]
      rfl
    have ns := nears_succ (ds := ds) (v := v) i
    rw [eg] at ns
    refine ⟨t, _, rfl, SqT.of upd_same, rfl, _, _, rfl, _, _, rfl, rfl, rfl, ?_⟩
    refine ⟨_, rfl, _, rfl, r, _, rfl, .inr hre, rfl, rfl, _, rfl, ?_⟩
    show if inV (V.int (v : Int)) [.int (e.1 : Int), .int (e.2 : Int)] = true then _ else _
    have din : inV (V.int (v : Int)) [.int (e.1 : Int), .int (e.2 : Int)] = decide (v = e.1 ∨ v = e.2) := by
      rw [in_pair, ← Bool.decide_or, decide_eq_decide]
      omega
    rw [din]
    by_cases near : v = e.1 ∨ v = e.2
    · rw [decide_eq_true near]
      rw [if_pos near] at ns
      refine iteT ⟨_, rfl, _, hp4, ?_, (sm.trans st7).at np6, by rw [upd_same, ns, nv_snoc]⟩
      have := nears_len (ds := ds) (v := v) i
      rw [nv_len]
      exact small1000 (by omega)
    · rw [decide_eq_false near]
      rw [if_neg near, List.append_nil] at ns
      refine iteF ⟨sm.trans st7, ?_⟩
      rw [ns]
      exact hp4
  rintro H6 ⟨sm, hp⟩
  rw [List.length_map, hlen] at hp
  have s46 := s5.trans sm
  refine ⟨_, rfl, _, rfl, a, s, ds, n, S, rfl, hH4.same s46, tree, by omega, st.same s46, ok, fun H7 s7 => ?_⟩
  have nl := nears_len (ds := ds) (v := v) ds.length
  have lz : (nv (nears ds v ds.length)).length = (nears ds v ds.length).length := nv_len _
  refine ⟨_, rfl, p6, _, rfl, .inl (SqL.of (s7 _ _ hp)), ?_⟩
  refine ⟨_, rfl, _, _, rfl, rfl, ?_⟩
  refine ⟨_, _, rfl, rfl, .inl ⟨by omega, by omega⟩, ?_⟩
  refine ⟨rfl, ?_⟩
  have ev : decide (V.int (((srtd ds S).length * (S.1.length - 1) : Nat) : Int) = V.int ((((nv (nears ds v ds.length)).length : Nat) : Int) * ((c : Int) - 1))) = true := by
    rw [srtd_length, all.lms ok ds.length (Nat.le_refl _), len, lz, decide_eq_true_eq, Int.natCast_mul, show ((c - 1 : Nat) : Int) = (c : Int) - 1 by omega]
  show Q (V.bl (decide (V.int (((srtd ds S).length * (S.1.length - 1) : Nat) : Int) = V.int ((((nv (nears ds v ds.length)).length : Nat) : Int) * ((c : Int) - 1))))) H7
  rw [ev]
  exact qn H7 (bt14.trans (s46.trans s7).but) ((g4.same (s46.trans s7)).mono (by omega))
end
end K5

namespace K5
open PySem PySem.Spec PyProof.Rows L2
def spLaw (K : PySem.W.Frag) : Sp := fun vs H Q _ => ∃ (a : Addr) (ns : List Int), vs = [.ref a] ∧ SqL K H a (ns.map V.int) ∧ ns.length ≤ 63 ∧ ∀ H', Q (.bl true) H'
section
variable {P : Program} {w : World} {K : PySem.W.Frag}
      {mg : Str → Option Value} {base : Heap}
theorem ok_law {f0 : Addr} {fd0 : FuncData} (T : Bl mg) (F : Fun K "law" "law" s_law f0 fd0) (C_l_generator : Cal P w K mg base "_law_generator" ["_law_script", "_law_index"] 2 (spGen K)) (C_l_random : Cal P w K mg base "_law_random" ["_law_generator_here", "_law_bound"] 2 spRand)
    (C_l_random_house : Cal P w K mg base "_law_random_house" ["_law_generator_here", "_law_size"] 4 (spHouse K)) (C_l_one_person_holds : Cal P w K mg base "_law_one_person_holds" ["_law_layout", "_law_start", "_law_target"] 12 (spOnePerson K)) (C_l_one_room_holds : Cal P w K mg base "_law_one_room_holds" ["_law_count"] 12 (spOneRoom K))
    (C_l_one_place_holds : Cal P w K mg base "_law_one_place_holds" ["_law_generator_here", "_law_layout", "_law_count"] 12 (spOnePlace K)) : FnG P w K mg base 13 f0 fd0 ["_law_script"] (spLaw K) := by
  refine F.okG sc_law (fun vs H Q E h => ?_) (fun cdv A outer s0 H vs Q E hr hq h => ?_)
  · obtain ⟨a, ns, rfl, _⟩ := h
    rfl
  obtain ⟨a, ns, rfl, hs, hns, qn⟩ := h
  obtain ⟨f_l_generator, fd_l_generator, g_l_generator, k_l_generator, b_l_generator, G_l_generator⟩ := C_l_generator
  obtain ⟨f_l_random_house, fd_l_random_house, g_l_random_house, k_l_random_house, b_l_random_house, G_l_random_house⟩ := C_l_random_house
  obtain ⟨f_l_random, fd_l_random, g_l_random, k_l_random, b_l_random, G_l_random⟩ := C_l_random
  obtain ⟨f_l_one_person_holds, fd_l_one_person_holds, g_l_one_person_holds, k_l_one_person_holds, b_l_one_person_holds, G_l_one_person_holds⟩ := C_l_one_person_holds
  obtain ⟨f_l_one_room_holds, fd_l_one_room_holds, g_l_one_room_holds, k_l_one_room_holds, b_l_one_room_holds, G_l_one_room_holds⟩ := C_l_one_room_holds
  obtain ⟨f_l_one_place_holds, fd_l_one_place_holds, g_l_one_place_holds, k_l_one_place_holds, b_l_one_place_holds, G_l_one_place_holds⟩ := C_l_one_place_holds
  refine ⟨_, (pss_cons (ps_for PassesOwn.never rfl (pi_range1 rfl T.range (pa_cons pe_int pa_nil)) (pg_name (i := 1) sc_law.nd rfl (.inl rfl))
    (pss_cons (ps_set (i := 2) sc_law.nd rfl (.inl rfl) (pe_call G_l_generator (hr.mono (by decide)) (by rfl) g_l_generator k_l_generator b_l_generator .nil pass0 (pa_cons (pv 0) (pa_cons (pv 1) pa_nil))))
    (pss_cons (ps_set (i := 3) sc_law.nd rfl (.inl rfl) (pe_call G_l_random_house (hr.mono (by decide)) (by rfl) g_l_random_house k_l_random_house b_l_random_house .nil pass0 (pa_cons (pv 2) (pa_cons (pe_op op_add pe_int (pe_call G_l_random (hr.mono (by decide)) (by rfl) g_l_random k_l_random b_l_random .nil pass0 (pa_cons (pv 2) (pa_cons pe_int pa_nil)))) pa_nil))))
    (pss_cons (ps_par (i := 4) (j := 5) (by rfl) sc_law.nd rfl rfl (by decide) rfl rfl (pa_cons (pe_call G_l_random (hr.mono (by decide)) (by rfl) g_l_random k_l_random b_l_random .nil pass0 (pa_cons (pv 2) (pa_cons (pe_op op_add (pe_callB call_len_seq (by rfl) T.len PySem.boot_len (pa_cons (pv 3) pa_nil)) pe_int) pa_nil))) (pa_cons (pe_call G_l_random (hr.mono (by decide)) (by rfl) g_l_random k_l_random b_l_random .nil pass0 (pa_cons (pv 2) (pa_cons (pe_op op_add (pe_callB call_len_seq (by rfl) T.len PySem.boot_len (pa_cons (pv 3) pa_nil)) pe_int) pa_nil))) pa_nil)) (by rfl))
    (pss_cons (ps_if (PW.pt (pw_or (pt_not (pt_val (pe_call G_l_one_room_holds (hr.mono (by decide)) (by rfl) g_l_one_room_holds k_l_one_room_holds b_l_one_room_holds .nil pass0 (pa_cons (pe_op op_add pe_int (pe_call G_l_random (hr.mono (by decide)) (by rfl) g_l_random k_l_random b_l_random .nil pass0 (pa_cons (pv 2) (pa_cons pe_int pa_nil)))) pa_nil)))) (pw_or1 (pt_not (pt_val (pe_call G_l_one_person_holds (hr.mono (by decide)) (by rfl) g_l_one_person_holds k_l_one_person_holds b_l_one_person_holds .nil pass0 (pa_cons (pv 3) (pa_cons (pv 4) (pa_cons (pv 5) pa_nil))))))))) (pss_one (ps_ret pe_bl)) pss_nil)
    (pss_cons (ps_if (pt_not (pt_val (pe_call G_l_one_person_holds (hr.mono (by decide)) (by rfl) g_l_one_person_holds k_l_one_person_holds b_l_one_person_holds .nil pass0 (pa_cons (pv 3) (pa_cons (pv 4) (pa_cons (pv 4) pa_nil)))))) (pss_one (ps_ret pe_bl)) pss_nil)
    (pss_one (ps_if (pt_not (pt_val (pe_call G_l_one_place_holds (hr.mono (by decide)) (by rfl) g_l_one_place_holds k_l_one_place_holds b_l_one_place_holds .nil pass0 (pa_cons (pv 2) (pa_cons (pv 3) (pa_cons (pe_op op_add pe_int (pe_call G_l_random (hr.mono (by decide)) (by rfl) g_l_random k_l_random b_l_random .nil pass0 (pa_cons (pv 2) (pa_cons pe_int pa_nil)))) pa_nil)))))) (pss_one (ps_ret pe_bl)) pss_nil))))))))
    (pss_one (ps_ret pe_bl))), ?_⟩
  refine ⟨2, rfl, by decide, by decide, ?_⟩
  refine for_range (lo := 0) (n := 2) (fun i σ H1 => ∃ y1 y2 y3 y4 y5, σ = [some (.ref a), y1, y2, y3, y4, y5] ∧ Same H H1) ⟨_, _, _, _, _, rfl, Same.refl _⟩ ?_ ?_
  · rintro i σ H1 hi ⟨y1, y2, y3, y4, y5, rfl, s1⟩
    rw [Int.zero_add]
    refine ⟨_, rfl, _, rfl, a, ns, i, rfl, s1.seq hs, by omega, fun H2 g s2 ng gen => ?_⟩
    refine ⟨_, rfl, _, rfl, g, 1000000, 30, rfl, gen, by decide, by decide, by omega, fun H3 u bt3 g3 hu => ?_⟩
    refine ⟨_, _, rfl, rfl, ?_⟩
    dsimp only
    rw [show (1 : Int) + (u : Int) = ((1 + u : Nat) : Int) by omega]
    have hun : 1 + u ≤ 30 := by omega
    have hn0 : 0 < 1 + u := by omega
    generalize 1 + u = n at hun hn0 ⊢
    refine ⟨g, 1000001, n, rfl, g3, by omega, by omega, by decide, fun H4 a4 ds bt4 g4 nag hH tree => ?_⟩
    have hdn := tree.len
    obtain ⟨rs, hrs, hlen, hds⟩ := id hH
    have en : (((rs.map V.ref).length : Nat) : Int) + 1 = ((n : Nat) : Int) := by
      rw [List.length_map, hlen]
      omega
    obtain ⟨gx, hgx⟩ := g4.lst
    refine ⟨_, rfl, _, rfl, _, _, rfl, .inr hrs, _, _, rfl, rfl, g, 1001001, n, congrArg (fun z : Int => [V.ref g, V.int z]) en, g4, by omega, by omega, by decide, fun H5 x bt5 g5 hx => ?_⟩
    have hH5 := hH.but hgx bt5
    refine ⟨_, rfl, _, rfl, _, _, rfl, .inr (bt5.tup hgx hrs), _, _, rfl, rfl, g, 1001002, n, congrArg (fun z : Int => [V.ref g, V.int z]) en, g5, by omega, by omega, by decide, fun H6 t bt6 g6 ht => ?_⟩
    obtain ⟨gy, hgy⟩ := g5.lst
    have hH6 := hH5.but hgy bt6
    have bt26 := ((bt3.trans bt4).trans bt5).trans bt6
    refine ⟨_, _, rfl, ?_⟩
    refine ⟨_, rfl, g, 1001003, 6, rfl, g6, by decide, by decide, by decide, fun H7 u7 bt7 g7 hu7 => ⟨_, _, rfl, rfl, ?_⟩⟩
    obtain ⟨gz, hgz⟩ := g6.lst
    have hH7 := hH6.but hgz bt7
    refine ⟨1 + u7, congrArg (fun z : Int => [V.int z]) (show (1 : Int) + (u7 : Int) = ((1 + u7 : Nat) : Int) by omega), by omega, by omega, fun H8 s8 => ?_⟩
    refine ⟨_, rfl, ?_⟩
    refine iteF' (by simp) ?_
    have h8 := hH7.same s8
    refine ⟨_, rfl, _, rfl, _, rfl, a4, x, t, n, ds, rfl, h8, tree, by omega, hx, ht, fun H9 s9 => ⟨_, rfl, iteF' (by simp) ?_⟩⟩
    have h9 := h8.same s9
    refine ⟨_, rfl, _, rfl, _, rfl, a4, x, x, n, ds, rfl, h9, tree, by omega, hx, hx, fun H10 s10 => ⟨_, rfl, iteF' (by simp) ?_⟩⟩
    have s810 := (s8.trans s9).trans s10
    have g10 := g7.same s810
    refine ⟨_, rfl, _, rfl, _, rfl, g, 1001004, 5, rfl, g10, by decide, by decide, by decide, fun H11 u9 bt11 g11 hu9 => ⟨_, _, rfl, rfl, ?_⟩⟩
    obtain ⟨gw, hgw⟩ := g10.lst
    refine ⟨g, a4, 1001005, 2 + u9, n, ds, congrArg (fun z : Int => [V.ref g, V.ref a4, V.int z]) (show (2 : Int) + (u9 : Int) = ((2 + u9 : Nat) : Int) by omega), g11, (h9.same s10).but hgw bt11, tree, by omega, by omega, by omega, by decide, fun H12 bt12 g12 => ⟨_, rfl, iteF' (by simp) ?_⟩⟩
    exact ⟨_, _, _, _, _, rfl, But.same (s1.trans s2) (s1.free ng) ((((bt26.trans bt7).trans s810.but).trans bt11).trans bt12)⟩
  · rintro σ H1 ⟨y1, y2, y3, y4, y5, rfl, s1⟩
    exact qn H1
end
end K5

namespace K5
open PySem PySem.Spec PyProof.Rows L2
theorem def_mk {K : PySem.W.Frag} {h : Heap} {mg : Str → Option Value} {x : Str} {st : Stmt} (X : K.In h) (G : h.Ns mainGlobals mg) {f : Addr} {oc : Value} {od an : Option Addr} {osl : Array (Option Value)} {kV doc pm cdv ct : Value} (a : PySem.W.nsIn K mainGlobals x = some (some (.ref f)))
    (l : K.lookup f = some ⟨oc, od, .func (PySem.W.fnOf x x (defArgs st) (defBody st) (defScope st) .none kV doc pm an cdv ct), osl⟩) (c : PySem.W.codeIn K cdv x = true) (k : PySem.W.keepIn K (.ref f) = true) : Def K mg x st :=
  ⟨f, _, fun_mk l c k, PySem.W.mg_of X G a⟩
theorem all_mk {l : PySem.W.OpenLaw} {w : World} {K : PySem.W.Frag} {h : Heap} {mg : Str → Option Value} {fa : Addr} (X : K.In h) (G : h.Ns mainGlobals mg) (hfa : mg "law" = some (.ref fa))
    {f0 : Addr} {od0 an0 : Option Addr} {sl0 : Array (Option Value)} {oc0 kV0 dc0 pm0 cd0 ct0 : Value}
    (a0 : PySem.W.nsIn K mainGlobals "is_whole" = some (some (.ref f0))) (l0 : K.lookup f0 = some ⟨oc0, od0, .func (PySem.W.fnOf "is_whole" "is_whole" (defArgs s_is_whole) (defBody s_is_whole) (defScope s_is_whole) .none kV0 dc0 pm0 an0 cd0 ct0), sl0⟩) (c0 : PySem.W.codeIn K cd0 "is_whole" = true) (k0 : PySem.W.keepIn K (.ref f0) = true)
    {f1 : Addr} {od1 an1 : Option Addr} {sl1 : Array (Option Value)} {oc1 kV1 dc1 pm1 cd1 ct1 : Value}
    (a1 : PySem.W.nsIn K mainGlobals "is_index" = some (some (.ref f1))) (l1 : K.lookup f1 = some ⟨oc1, od1, .func (PySem.W.fnOf "is_index" "is_index" (defArgs s_is_index) (defBody s_is_index) (defScope s_is_index) .none kV1 dc1 pm1 an1 cd1 ct1), sl1⟩) (c1 : PySem.W.codeIn K cd1 "is_index" = true) (k1 : PySem.W.keepIn K (.ref f1) = true)
    {f2 : Addr} {od2 an2 : Option Addr} {sl2 : Array (Option Value)} {oc2 kV2 dc2 pm2 cd2 ct2 : Value}
    (a2 : PySem.W.nsIn K mainGlobals "is_door" = some (some (.ref f2))) (l2 : K.lookup f2 = some ⟨oc2, od2, .func (PySem.W.fnOf "is_door" "is_door" (defArgs s_is_door) (defBody s_is_door) (defScope s_is_door) .none kV2 dc2 pm2 an2 cd2 ct2), sl2⟩) (c2 : PySem.W.codeIn K cd2 "is_door" = true) (k2 : PySem.W.keepIn K (.ref f2) = true)
    {f3 : Addr} {od3 an3 : Option Addr} {sl3 : Array (Option Value)} {oc3 kV3 dc3 pm3 cd3 ct3 : Value}
    (a3 : PySem.W.nsIn K mainGlobals "check_house" = some (some (.ref f3))) (l3 : K.lookup f3 = some ⟨oc3, od3, .func (PySem.W.fnOf "check_house" "check_house" (defArgs s_check_house) (defBody s_check_house) (defScope s_check_house) .none kV3 dc3 pm3 an3 cd3 ct3), sl3⟩) (c3 : PySem.W.codeIn K cd3 "check_house" = true) (k3 : PySem.W.keepIn K (.ref f3) = true)
    {f4 : Addr} {od4 an4 : Option Addr} {sl4 : Array (Option Value)} {oc4 kV4 dc4 pm4 cd4 ct4 : Value}
    (a4 : PySem.W.nsIn K mainGlobals "first_ring" = some (some (.ref f4))) (l4 : K.lookup f4 = some ⟨oc4, od4, .func (PySem.W.fnOf "first_ring" "first_ring" (defArgs s_first_ring) (defBody s_first_ring) (defScope s_first_ring) .none kV4 dc4 pm4 an4 cd4 ct4), sl4⟩) (c4 : PySem.W.codeIn K cd4 "first_ring" = true) (k4 : PySem.W.keepIn K (.ref f4) = true)
    {f5 : Addr} {od5 an5 : Option Addr} {sl5 : Array (Option Value)} {oc5 kV5 dc5 pm5 cd5 ct5 : Value}
    (a5 : PySem.W.nsIn K mainGlobals "find_root" = some (some (.ref f5))) (l5 : K.lookup f5 = some ⟨oc5, od5, .func (PySem.W.fnOf "find_root" "find_root" (defArgs s_find_root) (defBody s_find_root) (defScope s_find_root) .none kV5 dc5 pm5 an5 cd5 ct5), sl5⟩) (c5 : PySem.W.codeIn K cd5 "find_root" = true) (k5 : PySem.W.keepIn K (.ref f5) = true)
    {f6 : Addr} {od6 an6 : Option Addr} {sl6 : Array (Option Value)} {oc6 kV6 dc6 pm6 cd6 ct6 : Value}
    (a6 : PySem.W.nsIn K mainGlobals "need_house" = some (some (.ref f6))) (l6 : K.lookup f6 = some ⟨oc6, od6, .func (PySem.W.fnOf "need_house" "need_house" (defArgs s_need_house) (defBody s_need_house) (defScope s_need_house) .none kV6 dc6 pm6 an6 cd6 ct6), sl6⟩) (c6 : PySem.W.codeIn K cd6 "need_house" = true) (k6 : PySem.W.keepIn K (.ref f6) = true)
    {f7 : Addr} {od7 an7 : Option Addr} {sl7 : Array (Option Value)} {oc7 kV7 dc7 pm7 cd7 ct7 : Value}
    (a7 : PySem.W.nsIn K mainGlobals "need_room" = some (some (.ref f7))) (l7 : K.lookup f7 = some ⟨oc7, od7, .func (PySem.W.fnOf "need_room" "need_room" (defArgs s_need_room) (defBody s_need_room) (defScope s_need_room) .none kV7 dc7 pm7 an7 cd7 ct7), sl7⟩) (c7 : PySem.W.codeIn K cd7 "need_room" = true) (k7 : PySem.W.keepIn K (.ref f7) = true)
    {f8 : Addr} {od8 an8 : Option Addr} {sl8 : Array (Option Value)} {oc8 kV8 dc8 pm8 cd8 ct8 : Value}
    (a8 : PySem.W.nsIn K mainGlobals "exits_of" = some (some (.ref f8))) (l8 : K.lookup f8 = some ⟨oc8, od8, .func (PySem.W.fnOf "exits_of" "exits_of" (defArgs s_exits_of) (defBody s_exits_of) (defScope s_exits_of) .none kV8 dc8 pm8 an8 cd8 ct8), sl8⟩) (c8 : PySem.W.codeIn K cd8 "exits_of" = true) (k8 : PySem.W.keepIn K (.ref f8) = true)
    {f9 : Addr} {od9 an9 : Option Addr} {sl9 : Array (Option Value)} {oc9 kV9 dc9 pm9 cd9 ct9 : Value}
    (a9 : PySem.W.nsIn K mainGlobals "doors_by_ends" = some (some (.ref f9))) (l9 : K.lookup f9 = some ⟨oc9, od9, .func (PySem.W.fnOf "doors_by_ends" "doors_by_ends" (defArgs s_doors_by_ends) (defBody s_doors_by_ends) (defScope s_doors_by_ends) .none kV9 dc9 pm9 an9 cd9 ct9), sl9⟩) (c9 : PySem.W.codeIn K cd9 "doors_by_ends" = true) (k9 : PySem.W.keepIn K (.ref f9) = true)
    {f10 : Addr} {od10 an10 : Option Addr} {sl10 : Array (Option Value)} {oc10 kV10 dc10 pm10 cd10 ct10 : Value}
    (a10 : PySem.W.nsIn K mainGlobals "ways_from" = some (some (.ref f10))) (l10 : K.lookup f10 = some ⟨oc10, od10, .func (PySem.W.fnOf "ways_from" "ways_from" (defArgs s_ways_from) (defBody s_ways_from) (defScope s_ways_from) .none kV10 dc10 pm10 an10 cd10 ct10), sl10⟩) (c10 : PySem.W.codeIn K cd10 "ways_from" = true) (k10 : PySem.W.keepIn K (.ref f10) = true)
    {f11 : Addr} {od11 an11 : Option Addr} {sl11 : Array (Option Value)} {oc11 kV11 dc11 pm11 cd11 ct11 : Value}
    (a11 : PySem.W.nsIn K mainGlobals "steps_along" = some (some (.ref f11))) (l11 : K.lookup f11 = some ⟨oc11, od11, .func (PySem.W.fnOf "steps_along" "steps_along" (defArgs s_steps_along) (defBody s_steps_along) (defScope s_steps_along) .none kV11 dc11 pm11 an11 cd11 ct11), sl11⟩) (c11 : PySem.W.codeIn K cd11 "steps_along" = true) (k11 : PySem.W.keepIn K (.ref f11) = true)
    {f12 : Addr} {od12 an12 : Option Addr} {sl12 : Array (Option Value)} {oc12 kV12 dc12 pm12 cd12 ct12 : Value}
    (a12 : PySem.W.nsIn K mainGlobals "steps_between" = some (some (.ref f12))) (l12 : K.lookup f12 = some ⟨oc12, od12, .func (PySem.W.fnOf "steps_between" "steps_between" (defArgs s_steps_between) (defBody s_steps_between) (defScope s_steps_between) .none kV12 dc12 pm12 an12 cd12 ct12), sl12⟩) (c12 : PySem.W.codeIn K cd12 "steps_between" = true) (k12 : PySem.W.keepIn K (.ref f12) = true)
    {f13 : Addr} {od13 an13 : Option Addr} {sl13 : Array (Option Value)} {oc13 kV13 dc13 pm13 cd13 ct13 : Value}
    (a13 : PySem.W.nsIn K mainGlobals "doors_between" = some (some (.ref f13))) (l13 : K.lookup f13 = some ⟨oc13, od13, .func (PySem.W.fnOf "doors_between" "doors_between" (defArgs s_doors_between) (defBody s_doors_between) (defScope s_doors_between) .none kV13 dc13 pm13 an13 cd13 ct13), sl13⟩) (c13 : PySem.W.codeIn K cd13 "doors_between" = true) (k13 : PySem.W.keepIn K (.ref f13) = true)
    {f14 : Addr} {od14 an14 : Option Addr} {sl14 : Array (Option Value)} {oc14 kV14 dc14 pm14 cd14 ct14 : Value}
    (a14 : PySem.W.nsIn K mainGlobals "is_numbered" = some (some (.ref f14))) (l14 : K.lookup f14 = some ⟨oc14, od14, .func (PySem.W.fnOf "is_numbered" "is_numbered" (defArgs s_is_numbered) (defBody s_is_numbered) (defScope s_is_numbered) .none kV14 dc14 pm14 an14 cd14 ct14), sl14⟩) (c14 : PySem.W.codeIn K cd14 "is_numbered" = true) (k14 : PySem.W.keepIn K (.ref f14) = true)
    {f15 : Addr} {od15 an15 : Option Addr} {sl15 : Array (Option Value)} {oc15 kV15 dc15 pm15 cd15 ct15 : Value}
    (a15 : PySem.W.nsIn K mainGlobals "shared_path" = some (some (.ref f15))) (l15 : K.lookup f15 = some ⟨oc15, od15, .func (PySem.W.fnOf "shared_path" "shared_path" (defArgs s_shared_path) (defBody s_shared_path) (defScope s_shared_path) .none kV15 dc15 pm15 an15 cd15 ct15), sl15⟩) (c15 : PySem.W.codeIn K cd15 "shared_path" = true) (k15 : PySem.W.keepIn K (.ref f15) = true)
    {f16 : Addr} {od16 an16 : Option Addr} {sl16 : Array (Option Value)} {oc16 kV16 dc16 pm16 cd16 ct16 : Value}
    (a16 : PySem.W.nsIn K mainGlobals "soonest_meeting" = some (some (.ref f16))) (l16 : K.lookup f16 = some ⟨oc16, od16, .func (PySem.W.fnOf "soonest_meeting" "soonest_meeting" (defArgs s_soonest_meeting) (defBody s_soonest_meeting) (defScope s_soonest_meeting) .none kV16 dc16 pm16 an16 cd16 ct16), sl16⟩) (c16 : PySem.W.codeIn K cd16 "soonest_meeting" = true) (k16 : PySem.W.keepIn K (.ref f16) = true)
    {f17 : Addr} {od17 an17 : Option Addr} {sl17 : Array (Option Value)} {oc17 kV17 dc17 pm17 cd17 ct17 : Value}
    (a17 : PySem.W.nsIn K mainGlobals "doors_not_barring" = some (some (.ref f17))) (l17 : K.lookup f17 = some ⟨oc17, od17, .func (PySem.W.fnOf "doors_not_barring" "doors_not_barring" (defArgs s_doors_not_barring) (defBody s_doors_not_barring) (defScope s_doors_not_barring) .none kV17 dc17 pm17 an17 cd17 ct17), sl17⟩) (c17 : PySem.W.codeIn K cd17 "doors_not_barring" = true) (k17 : PySem.W.keepIn K (.ref f17) = true)
    {f18 : Addr} {od18 an18 : Option Addr} {sl18 : Array (Option Value)} {oc18 kV18 dc18 pm18 cd18 ct18 : Value}
    (a18 : PySem.W.nsIn K mainGlobals "meet_soonest" = some (some (.ref f18))) (l18 : K.lookup f18 = some ⟨oc18, od18, .func (PySem.W.fnOf "meet_soonest" "meet_soonest" (defArgs s_meet_soonest) (defBody s_meet_soonest) (defScope s_meet_soonest) .none kV18 dc18 pm18 an18 cd18 ct18), sl18⟩) (c18 : PySem.W.codeIn K cd18 "meet_soonest" = true) (k18 : PySem.W.keepIn K (.ref f18) = true)
    {f19 : Addr} {od19 an19 : Option Addr} {sl19 : Array (Option Value)} {oc19 kV19 dc19 pm19 cd19 ct19 : Value}
    (a19 : PySem.W.nsIn K mainGlobals "gather_in" = some (some (.ref f19))) (l19 : K.lookup f19 = some ⟨oc19, od19, .func (PySem.W.fnOf "gather_in" "gather_in" (defArgs s_gather_in) (defBody s_gather_in) (defScope s_gather_in) .none kV19 dc19 pm19 an19 cd19 ct19), sl19⟩) (c19 : PySem.W.codeIn K cd19 "gather_in" = true) (k19 : PySem.W.keepIn K (.ref f19) = true)
    {f20 : Addr} {od20 an20 : Option Addr} {sl20 : Array (Option Value)} {oc20 kV20 dc20 pm20 cd20 ct20 : Value}
    (a20 : PySem.W.nsIn K mainGlobals "has_state_shape" = some (some (.ref f20))) (l20 : K.lookup f20 = some ⟨oc20, od20, .func (PySem.W.fnOf "has_state_shape" "has_state_shape" (defArgs s_has_state_shape) (defBody s_has_state_shape) (defScope s_has_state_shape) .none kV20 dc20 pm20 an20 cd20 ct20), sl20⟩) (c20 : PySem.W.codeIn K cd20 "has_state_shape" = true) (k20 : PySem.W.keepIn K (.ref f20) = true)
    {f21 : Addr} {od21 an21 : Option Addr} {sl21 : Array (Option Value)} {oc21 kV21 dc21 pm21 cd21 ct21 : Value}
    (a21 : PySem.W.nsIn K mainGlobals "check_state" = some (some (.ref f21))) (l21 : K.lookup f21 = some ⟨oc21, od21, .func (PySem.W.fnOf "check_state" "check_state" (defArgs s_check_state) (defBody s_check_state) (defScope s_check_state) .none kV21 dc21 pm21 an21 cd21 ct21), sl21⟩) (c21 : PySem.W.codeIn K cd21 "check_state" = true) (k21 : PySem.W.keepIn K (.ref f21) = true)
    {f22 : Addr} {od22 an22 : Option Addr} {sl22 : Array (Option Value)} {oc22 kV22 dc22 pm22 cd22 ct22 : Value}
    (a22 : PySem.W.nsIn K mainGlobals "is_move" = some (some (.ref f22))) (l22 : K.lookup f22 = some ⟨oc22, od22, .func (PySem.W.fnOf "is_move" "is_move" (defArgs s_is_move) (defBody s_is_move) (defScope s_is_move) .none kV22 dc22 pm22 an22 cd22 ct22), sl22⟩) (c22 : PySem.W.codeIn K cd22 "is_move" = true) (k22 : PySem.W.keepIn K (.ref f22) = true)
    {f23 : Addr} {od23 an23 : Option Addr} {sl23 : Array (Option Value)} {oc23 kV23 dc23 pm23 cd23 ct23 : Value}
    (a23 : PySem.W.nsIn K mainGlobals "check_plan" = some (some (.ref f23))) (l23 : K.lookup f23 = some ⟨oc23, od23, .func (PySem.W.fnOf "check_plan" "check_plan" (defArgs s_check_plan) (defBody s_check_plan) (defScope s_check_plan) .none kV23 dc23 pm23 an23 cd23 ct23), sl23⟩) (c23 : PySem.W.codeIn K cd23 "check_plan" = true) (k23 : PySem.W.keepIn K (.ref f23) = true)
    {f24 : Addr} {od24 an24 : Option Addr} {sl24 : Array (Option Value)} {oc24 kV24 dc24 pm24 cd24 ct24 : Value}
    (a24 : PySem.W.nsIn K mainGlobals "need_people" = some (some (.ref f24))) (l24 : K.lookup f24 = some ⟨oc24, od24, .func (PySem.W.fnOf "need_people" "need_people" (defArgs s_need_people) (defBody s_need_people) (defScope s_need_people) .none kV24 dc24 pm24 an24 cd24 ct24), sl24⟩) (c24 : PySem.W.codeIn K cd24 "need_people" = true) (k24 : PySem.W.keepIn K (.ref f24) = true)
    {f25 : Addr} {od25 an25 : Option Addr} {sl25 : Array (Option Value)} {oc25 kV25 dc25 pm25 cd25 ct25 : Value}
    (a25 : PySem.W.nsIn K mainGlobals "need_state" = some (some (.ref f25))) (l25 : K.lookup f25 = some ⟨oc25, od25, .func (PySem.W.fnOf "need_state" "need_state" (defArgs s_need_state) (defBody s_need_state) (defScope s_need_state) .none kV25 dc25 pm25 an25 cd25 ct25), sl25⟩) (c25 : PySem.W.codeIn K cd25 "need_state" = true) (k25 : PySem.W.keepIn K (.ref f25) = true)
    {f26 : Addr} {od26 an26 : Option Addr} {sl26 : Array (Option Value)} {oc26 kV26 dc26 pm26 cd26 ct26 : Value}
    (a26 : PySem.W.nsIn K mainGlobals "need_state_of_as_many" = some (some (.ref f26))) (l26 : K.lookup f26 = some ⟨oc26, od26, .func (PySem.W.fnOf "need_state_of_as_many" "need_state_of_as_many" (defArgs s_need_state_of_as_many) (defBody s_need_state_of_as_many) (defScope s_need_state_of_as_many) .none kV26 dc26 pm26 an26 cd26 ct26), sl26⟩) (c26 : PySem.W.codeIn K cd26 "need_state_of_as_many" = true) (k26 : PySem.W.keepIn K (.ref f26) = true)
    {f27 : Addr} {od27 an27 : Option Addr} {sl27 : Array (Option Value)} {oc27 kV27 dc27 pm27 cd27 ct27 : Value}
    (a27 : PySem.W.nsIn K mainGlobals "need_plan" = some (some (.ref f27))) (l27 : K.lookup f27 = some ⟨oc27, od27, .func (PySem.W.fnOf "need_plan" "need_plan" (defArgs s_need_plan) (defBody s_need_plan) (defScope s_need_plan) .none kV27 dc27 pm27 an27 cd27 ct27), sl27⟩) (c27 : PySem.W.codeIn K cd27 "need_plan" = true) (k27 : PySem.W.keepIn K (.ref f27) = true)
    {f28 : Addr} {od28 an28 : Option Addr} {sl28 : Array (Option Value)} {oc28 kV28 dc28 pm28 cd28 ct28 : Value}
    (a28 : PySem.W.nsIn K mainGlobals "need_person" = some (some (.ref f28))) (l28 : K.lookup f28 = some ⟨oc28, od28, .func (PySem.W.fnOf "need_person" "need_person" (defArgs s_need_person) (defBody s_need_person) (defScope s_need_person) .none kV28 dc28 pm28 an28 cd28 ct28), sl28⟩) (c28 : PySem.W.codeIn K cd28 "need_person" = true) (k28 : PySem.W.keepIn K (.ref f28) = true)
    {f29 : Addr} {od29 an29 : Option Addr} {sl29 : Array (Option Value)} {oc29 kV29 dc29 pm29 cd29 ct29 : Value}
    (a29 : PySem.W.nsIn K mainGlobals "replaced" = some (some (.ref f29))) (l29 : K.lookup f29 = some ⟨oc29, od29, .func (PySem.W.fnOf "replaced" "replaced" (defArgs s_replaced) (defBody s_replaced) (defScope s_replaced) .none kV29 dc29 pm29 an29 cd29 ct29), sl29⟩) (c29 : PySem.W.codeIn K cd29 "replaced" = true) (k29 : PySem.W.keepIn K (.ref f29) = true)
    {f30 : Addr} {od30 an30 : Option Addr} {sl30 : Array (Option Value)} {oc30 kV30 dc30 pm30 cd30 ct30 : Value}
    (a30 : PySem.W.nsIn K mainGlobals "played" = some (some (.ref f30))) (l30 : K.lookup f30 = some ⟨oc30, od30, .func (PySem.W.fnOf "played" "played" (defArgs s_played) (defBody s_played) (defScope s_played) .none kV30 dc30 pm30 an30 cd30 ct30), sl30⟩) (c30 : PySem.W.codeIn K cd30 "played" = true) (k30 : PySem.W.keepIn K (.ref f30) = true)
    {f31 : Addr} {od31 an31 : Option Addr} {sl31 : Array (Option Value)} {oc31 kV31 dc31 pm31 cd31 ct31 : Value}
    (a31 : PySem.W.nsIn K mainGlobals "play" = some (some (.ref f31))) (l31 : K.lookup f31 = some ⟨oc31, od31, .func (PySem.W.fnOf "play" "play" (defArgs s_play) (defBody s_play) (defScope s_play) .none kV31 dc31 pm31 an31 cd31 ct31), sl31⟩) (c31 : PySem.W.codeIn K cd31 "play" = true) (k31 : PySem.W.keepIn K (.ref f31) = true)
    {f32 : Addr} {od32 an32 : Option Addr} {sl32 : Array (Option Value)} {oc32 kV32 dc32 pm32 cd32 ct32 : Value}
    (a32 : PySem.W.nsIn K mainGlobals "doors_barring" = some (some (.ref f32))) (l32 : K.lookup f32 = some ⟨oc32, od32, .func (PySem.W.fnOf "doors_barring" "doors_barring" (defArgs s_doors_barring) (defBody s_doors_barring) (defScope s_doors_barring) .none kV32 dc32 pm32 an32 cd32 ct32), sl32⟩) (c32 : PySem.W.codeIn K cd32 "doors_barring" = true) (k32 : PySem.W.keepIn K (.ref f32) = true)
    {f33 : Addr} {od33 an33 : Option Addr} {sl33 : Array (Option Value)} {oc33 kV33 dc33 pm33 cd33 ct33 : Value}
    (a33 : PySem.W.nsIn K mainGlobals "region_ways" = some (some (.ref f33))) (l33 : K.lookup f33 = some ⟨oc33, od33, .func (PySem.W.fnOf "region_ways" "region_ways" (defArgs s_region_ways) (defBody s_region_ways) (defScope s_region_ways) .none kV33 dc33 pm33 an33 cd33 ct33), sl33⟩) (c33 : PySem.W.codeIn K cd33 "region_ways" = true) (k33 : PySem.W.keepIn K (.ref f33) = true)
    {f34 : Addr} {od34 an34 : Option Addr} {sl34 : Array (Option Value)} {oc34 kV34 dc34 pm34 cd34 ct34 : Value}
    (a34 : PySem.W.nsIn K mainGlobals "region" = some (some (.ref f34))) (l34 : K.lookup f34 = some ⟨oc34, od34, .func (PySem.W.fnOf "region" "region" (defArgs s_region) (defBody s_region) (defScope s_region) .none kV34 dc34 pm34 an34 cd34 ct34), sl34⟩) (c34 : PySem.W.codeIn K cd34 "region" = true) (k34 : PySem.W.keepIn K (.ref f34) = true)
    {f35 : Addr} {od35 an35 : Option Addr} {sl35 : Array (Option Value)} {oc35 kV35 dc35 pm35 cd35 ct35 : Value}
    (a35 : PySem.W.nsIn K mainGlobals "walk_to" = some (some (.ref f35))) (l35 : K.lookup f35 = some ⟨oc35, od35, .func (PySem.W.fnOf "walk_to" "walk_to" (defArgs s_walk_to) (defBody s_walk_to) (defScope s_walk_to) .none kV35 dc35 pm35 an35 cd35 ct35), sl35⟩) (c35 : PySem.W.codeIn K cd35 "walk_to" = true) (k35 : PySem.W.keepIn K (.ref f35) = true)
    {f36 : Addr} {od36 an36 : Option Addr} {sl36 : Array (Option Value)} {oc36 kV36 dc36 pm36 cd36 ct36 : Value}
    (a36 : PySem.W.nsIn K mainGlobals "is_apart" = some (some (.ref f36))) (l36 : K.lookup f36 = some ⟨oc36, od36, .func (PySem.W.fnOf "is_apart" "is_apart" (defArgs s_is_apart) (defBody s_is_apart) (defScope s_is_apart) .none kV36 dc36 pm36 an36 cd36 ct36), sl36⟩) (c36 : PySem.W.codeIn K cd36 "is_apart" = true) (k36 : PySem.W.keepIn K (.ref f36) = true)
    {f37 : Addr} {od37 an37 : Option Addr} {sl37 : Array (Option Value)} {oc37 kV37 dc37 pm37 cd37 ct37 : Value}
    (a37 : PySem.W.nsIn K mainGlobals "walk_lengths" = some (some (.ref f37))) (l37 : K.lookup f37 = some ⟨oc37, od37, .func (PySem.W.fnOf "walk_lengths" "walk_lengths" (defArgs s_walk_lengths) (defBody s_walk_lengths) (defScope s_walk_lengths) .none kV37 dc37 pm37 an37 cd37 ct37), sl37⟩) (c37 : PySem.W.codeIn K cd37 "walk_lengths" = true) (k37 : PySem.W.keepIn K (.ref f37) = true)
    {f38 : Addr} {od38 an38 : Option Addr} {sl38 : Array (Option Value)} {oc38 kV38 dc38 pm38 cd38 ct38 : Value}
    (a38 : PySem.W.nsIn K mainGlobals "fewest_and_most" = some (some (.ref f38))) (l38 : K.lookup f38 = some ⟨oc38, od38, .func (PySem.W.fnOf "fewest_and_most" "fewest_and_most" (defArgs s_fewest_and_most) (defBody s_fewest_and_most) (defScope s_fewest_and_most) .none kV38 dc38 pm38 an38 cd38 ct38), sl38⟩) (c38 : PySem.W.codeIn K cd38 "fewest_and_most" = true) (k38 : PySem.W.keepIn K (.ref f38) = true)
    {f39 : Addr} {od39 an39 : Option Addr} {sl39 : Array (Option Value)} {oc39 kV39 dc39 pm39 cd39 ct39 : Value}
    (a39 : PySem.W.nsIn K mainGlobals "people_of" = some (some (.ref f39))) (l39 : K.lookup f39 = some ⟨oc39, od39, .func (PySem.W.fnOf "people_of" "people_of" (defArgs s_people_of) (defBody s_people_of) (defScope s_people_of) .none kV39 dc39 pm39 an39 cd39 ct39), sl39⟩) (c39 : PySem.W.codeIn K cd39 "people_of" = true) (k39 : PySem.W.keepIn K (.ref f39) = true)
    {f40 : Addr} {od40 an40 : Option Addr} {sl40 : Array (Option Value)} {oc40 kV40 dc40 pm40 cd40 ct40 : Value}
    (a40 : PySem.W.nsIn K mainGlobals "first_meeting" = some (some (.ref f40))) (l40 : K.lookup f40 = some ⟨oc40, od40, .func (PySem.W.fnOf "first_meeting" "first_meeting" (defArgs s_first_meeting) (defBody s_first_meeting) (defScope s_first_meeting) .none kV40 dc40 pm40 an40 cd40 ct40), sl40⟩) (c40 : PySem.W.codeIn K cd40 "first_meeting" = true) (k40 : PySem.W.keepIn K (.ref f40) = true)
    {f41 : Addr} {od41 an41 : Option Addr} {sl41 : Array (Option Value)} {oc41 kV41 dc41 pm41 cd41 ct41 : Value}
    (a41 : PySem.W.nsIn K mainGlobals "is_plan" = some (some (.ref f41))) (l41 : K.lookup f41 = some ⟨oc41, od41, .func (PySem.W.fnOf "is_plan" "is_plan" (defArgs s_is_plan) (defBody s_is_plan) (defScope s_is_plan) .none kV41 dc41 pm41 an41 cd41 ct41), sl41⟩) (c41 : PySem.W.codeIn K cd41 "is_plan" = true) (k41 : PySem.W.keepIn K (.ref f41) = true)
    {f42 : Addr} {od42 an42 : Option Addr} {sl42 : Array (Option Value)} {oc42 kV42 dc42 pm42 cd42 ct42 : Value}
    (a42 : PySem.W.nsIn K mainGlobals "check_first_meeting" = some (some (.ref f42))) (l42 : K.lookup f42 = some ⟨oc42, od42, .func (PySem.W.fnOf "check_first_meeting" "check_first_meeting" (defArgs s_check_first_meeting) (defBody s_check_first_meeting) (defScope s_check_first_meeting) .none kV42 dc42 pm42 an42 cd42 ct42), sl42⟩) (c42 : PySem.W.codeIn K cd42 "check_first_meeting" = true) (k42 : PySem.W.keepIn K (.ref f42) = true)
    {f43 : Addr} {od43 an43 : Option Addr} {sl43 : Array (Option Value)} {oc43 kV43 dc43 pm43 cd43 ct43 : Value}
    (a43 : PySem.W.nsIn K mainGlobals "first_meeting_fault" = some (some (.ref f43))) (l43 : K.lookup f43 = some ⟨oc43, od43, .func (PySem.W.fnOf "first_meeting_fault" "first_meeting_fault" (defArgs s_first_meeting_fault) (defBody s_first_meeting_fault) (defScope s_first_meeting_fault) .none kV43 dc43 pm43 an43 cd43 ct43), sl43⟩) (c43 : PySem.W.codeIn K cd43 "first_meeting_fault" = true) (k43 : PySem.W.keepIn K (.ref f43) = true)
    {f44 : Addr} {od44 an44 : Option Addr} {sl44 : Array (Option Value)} {oc44 kV44 dc44 pm44 cd44 ct44 : Value}
    (a44 : PySem.W.nsIn K mainGlobals "all_regions" = some (some (.ref f44))) (l44 : K.lookup f44 = some ⟨oc44, od44, .func (PySem.W.fnOf "all_regions" "all_regions" (defArgs s_all_regions) (defBody s_all_regions) (defScope s_all_regions) .none kV44 dc44 pm44 an44 cd44 ct44), sl44⟩) (c44 : PySem.W.codeIn K cd44 "all_regions" = true) (k44 : PySem.W.keepIn K (.ref f44) = true)
    {f45 : Addr} {od45 an45 : Option Addr} {sl45 : Array (Option Value)} {oc45 kV45 dc45 pm45 cd45 ct45 : Value}
    (a45 : PySem.W.nsIn K mainGlobals "first_elsewhere" = some (some (.ref f45))) (l45 : K.lookup f45 = some ⟨oc45, od45, .func (PySem.W.fnOf "first_elsewhere" "first_elsewhere" (defArgs s_first_elsewhere) (defBody s_first_elsewhere) (defScope s_first_elsewhere) .none kV45 dc45 pm45 an45 cd45 ct45), sl45⟩) (c45 : PySem.W.codeIn K cd45 "first_elsewhere" = true) (k45 : PySem.W.keepIn K (.ref f45) = true)
    {f46 : Addr} {od46 an46 : Option Addr} {sl46 : Array (Option Value)} {oc46 kV46 dc46 pm46 cd46 ct46 : Value}
    (a46 : PySem.W.nsIn K mainGlobals "gather" = some (some (.ref f46))) (l46 : K.lookup f46 = some ⟨oc46, od46, .func (PySem.W.fnOf "gather" "gather" (defArgs s_gather) (defBody s_gather) (defScope s_gather) .none kV46 dc46 pm46 an46 cd46 ct46), sl46⟩) (c46 : PySem.W.codeIn K cd46 "gather" = true) (k46 : PySem.W.keepIn K (.ref f46) = true)
    {f47 : Addr} {od47 an47 : Option Addr} {sl47 : Array (Option Value)} {oc47 kV47 dc47 pm47 cd47 ct47 : Value}
    (a47 : PySem.W.nsIn K mainGlobals "is_list_of_rooms" = some (some (.ref f47))) (l47 : K.lookup f47 = some ⟨oc47, od47, .func (PySem.W.fnOf "is_list_of_rooms" "is_list_of_rooms" (defArgs s_is_list_of_rooms) (defBody s_is_list_of_rooms) (defScope s_is_list_of_rooms) .none kV47 dc47 pm47 an47 cd47 ct47), sl47⟩) (c47 : PySem.W.codeIn K cd47 "is_list_of_rooms" = true) (k47 : PySem.W.keepIn K (.ref f47) = true)
    {f48 : Addr} {od48 an48 : Option Addr} {sl48 : Array (Option Value)} {oc48 kV48 dc48 pm48 cd48 ct48 : Value}
    (a48 : PySem.W.nsIn K mainGlobals "is_list_of_regions" = some (some (.ref f48))) (l48 : K.lookup f48 = some ⟨oc48, od48, .func (PySem.W.fnOf "is_list_of_regions" "is_list_of_regions" (defArgs s_is_list_of_regions) (defBody s_is_list_of_regions) (defScope s_is_list_of_regions) .none kV48 dc48 pm48 an48 cd48 ct48), sl48⟩) (c48 : PySem.W.codeIn K cd48 "is_list_of_regions" = true) (k48 : PySem.W.keepIn K (.ref f48) = true)
    {f49 : Addr} {od49 an49 : Option Addr} {sl49 : Array (Option Value)} {oc49 kV49 dc49 pm49 cd49 ct49 : Value}
    (a49 : PySem.W.nsIn K mainGlobals "is_gathering" = some (some (.ref f49))) (l49 : K.lookup f49 = some ⟨oc49, od49, .func (PySem.W.fnOf "is_gathering" "is_gathering" (defArgs s_is_gathering) (defBody s_is_gathering) (defScope s_is_gathering) .none kV49 dc49 pm49 an49 cd49 ct49), sl49⟩) (c49 : PySem.W.codeIn K cd49 "is_gathering" = true) (k49 : PySem.W.keepIn K (.ref f49) = true)
    {f50 : Addr} {od50 an50 : Option Addr} {sl50 : Array (Option Value)} {oc50 kV50 dc50 pm50 cd50 ct50 : Value}
    (a50 : PySem.W.nsIn K mainGlobals "check_gathering" = some (some (.ref f50))) (l50 : K.lookup f50 = some ⟨oc50, od50, .func (PySem.W.fnOf "check_gathering" "check_gathering" (defArgs s_check_gathering) (defBody s_check_gathering) (defScope s_check_gathering) .none kV50 dc50 pm50 an50 cd50 ct50), sl50⟩) (c50 : PySem.W.codeIn K cd50 "check_gathering" = true) (k50 : PySem.W.keepIn K (.ref f50) = true)
    {f51 : Addr} {od51 an51 : Option Addr} {sl51 : Array (Option Value)} {oc51 kV51 dc51 pm51 cd51 ct51 : Value}
    (a51 : PySem.W.nsIn K mainGlobals "gathering_fault" = some (some (.ref f51))) (l51 : K.lookup f51 = some ⟨oc51, od51, .func (PySem.W.fnOf "gathering_fault" "gathering_fault" (defArgs s_gathering_fault) (defBody s_gathering_fault) (defScope s_gathering_fault) .none kV51 dc51 pm51 an51 cd51 ct51), sl51⟩) (c51 : PySem.W.codeIn K cd51 "gathering_fault" = true) (k51 : PySem.W.keepIn K (.ref f51) = true)
    {f52 : Addr} {od52 an52 : Option Addr} {sl52 : Array (Option Value)} {oc52 kV52 dc52 pm52 cd52 ct52 : Value}
    (a52 : PySem.W.nsIn K mainGlobals "regions_fault" = some (some (.ref f52))) (l52 : K.lookup f52 = some ⟨oc52, od52, .func (PySem.W.fnOf "regions_fault" "regions_fault" (defArgs s_regions_fault) (defBody s_regions_fault) (defScope s_regions_fault) .none kV52 dc52 pm52 an52 cd52 ct52), sl52⟩) (c52 : PySem.W.codeIn K cd52 "regions_fault" = true) (k52 : PySem.W.keepIn K (.ref f52) = true)
    {f53 : Addr} {od53 an53 : Option Addr} {sl53 : Array (Option Value)} {oc53 kV53 dc53 pm53 cd53 ct53 : Value}
    (a53 : PySem.W.nsIn K mainGlobals "group_marks" = some (some (.ref f53))) (l53 : K.lookup f53 = some ⟨oc53, od53, .func (PySem.W.fnOf "group_marks" "group_marks" (defArgs s_group_marks) (defBody s_group_marks) (defScope s_group_marks) .none kV53 dc53 pm53 an53 cd53 ct53), sl53⟩) (c53 : PySem.W.codeIn K cd53 "group_marks" = true) (k53 : PySem.W.keepIn K (.ref f53) = true)
    {f54 : Addr} {od54 an54 : Option Addr} {sl54 : Array (Option Value)} {oc54 kV54 dc54 pm54 cd54 ct54 : Value}
    (a54 : PySem.W.nsIn K mainGlobals "groups" = some (some (.ref f54))) (l54 : K.lookup f54 = some ⟨oc54, od54, .func (PySem.W.fnOf "groups" "groups" (defArgs s_groups) (defBody s_groups) (defScope s_groups) .none kV54 dc54 pm54 an54 cd54 ct54), sl54⟩) (c54 : PySem.W.codeIn K cd54 "groups" = true) (k54 : PySem.W.keepIn K (.ref f54) = true)
    {f55 : Addr} {od55 an55 : Option Addr} {sl55 : Array (Option Value)} {oc55 kV55 dc55 pm55 cd55 ct55 : Value}
    (a55 : PySem.W.nsIn K mainGlobals "explained_doors" = some (some (.ref f55))) (l55 : K.lookup f55 = some ⟨oc55, od55, .func (PySem.W.fnOf "explained_doors" "explained_doors" (defArgs s_explained_doors) (defBody s_explained_doors) (defScope s_explained_doors) .none kV55 dc55 pm55 an55 cd55 ct55), sl55⟩) (c55 : PySem.W.codeIn K cd55 "explained_doors" = true) (k55 : PySem.W.keepIn K (.ref f55) = true)
    {f56 : Addr} {od56 an56 : Option Addr} {sl56 : Array (Option Value)} {oc56 kV56 dc56 pm56 cd56 ct56 : Value}
    (a56 : PySem.W.nsIn K mainGlobals "last_moves" = some (some (.ref f56))) (l56 : K.lookup f56 = some ⟨oc56, od56, .func (PySem.W.fnOf "last_moves" "last_moves" (defArgs s_last_moves) (defBody s_last_moves) (defScope s_last_moves) .none kV56 dc56 pm56 an56 cd56 ct56), sl56⟩) (c56 : PySem.W.codeIn K cd56 "last_moves" = true) (k56 : PySem.W.keepIn K (.ref f56) = true)
    {f57 : Addr} {od57 an57 : Option Addr} {sl57 : Array (Option Value)} {oc57 kV57 dc57 pm57 cd57 ct57 : Value}
    (a57 : PySem.W.nsIn K mainGlobals "count_previous" = some (some (.ref f57))) (l57 : K.lookup f57 = some ⟨oc57, od57, .func (PySem.W.fnOf "count_previous" "count_previous" (defArgs s_count_previous) (defBody s_count_previous) (defScope s_count_previous) .none kV57 dc57 pm57 an57 cd57 ct57), sl57⟩) (c57 : PySem.W.codeIn K cd57 "count_previous" = true) (k57 : PySem.W.keepIn K (.ref f57) = true)
    {f58 : Addr} {od58 an58 : Option Addr} {sl58 : Array (Option Value)} {oc58 kV58 dc58 pm58 cd58 ct58 : Value}
    (a58 : PySem.W.nsIn K mainGlobals "state_before" = some (some (.ref f58))) (l58 : K.lookup f58 = some ⟨oc58, od58, .func (PySem.W.fnOf "state_before" "state_before" (defArgs s_state_before) (defBody s_state_before) (defScope s_state_before) .none kV58 dc58 pm58 an58 cd58 ct58), sl58⟩) (c58 : PySem.W.codeIn K cd58 "state_before" = true) (k58 : PySem.W.keepIn K (.ref f58) = true)
    {f59 : Addr} {od59 an59 : Option Addr} {sl59 : Array (Option Value)} {oc59 kV59 dc59 pm59 cd59 ct59 : Value}
    (a59 : PySem.W.nsIn K mainGlobals "previous_at" = some (some (.ref f59))) (l59 : K.lookup f59 = some ⟨oc59, od59, .func (PySem.W.fnOf "previous_at" "previous_at" (defArgs s_previous_at) (defBody s_previous_at) (defScope s_previous_at) .none kV59 dc59 pm59 an59 cd59 ct59), sl59⟩) (c59 : PySem.W.codeIn K cd59 "previous_at" = true) (k59 : PySem.W.keepIn K (.ref f59) = true)
    {f60 : Addr} {od60 an60 : Option Addr} {sl60 : Array (Option Value)} {oc60 kV60 dc60 pm60 cd60 ct60 : Value}
    (a60 : PySem.W.nsIn K mainGlobals "previous_index" = some (some (.ref f60))) (l60 : K.lookup f60 = some ⟨oc60, od60, .func (PySem.W.fnOf "previous_index" "previous_index" (defArgs s_previous_index) (defBody s_previous_index) (defScope s_previous_index) .none kV60 dc60 pm60 an60 cd60 ct60), sl60⟩) (c60 : PySem.W.codeIn K cd60 "previous_index" = true) (k60 : PySem.W.keepIn K (.ref f60) = true)
    {f61 : Addr} {od61 an61 : Option Addr} {sl61 : Array (Option Value)} {oc61 kV61 dc61 pm61 cd61 ct61 : Value}
    (a61 : PySem.W.nsIn K mainGlobals "_law_cell" = some (some (.ref f61))) (l61 : K.lookup f61 = some ⟨oc61, od61, .func (PySem.W.fnOf "_law_cell" "_law_cell" (defArgs s_l_cell) (defBody s_l_cell) (defScope s_l_cell) .none kV61 dc61 pm61 an61 cd61 ct61), sl61⟩) (c61 : PySem.W.codeIn K cd61 "_law_cell" = true) (k61 : PySem.W.keepIn K (.ref f61) = true)
    {f62 : Addr} {od62 an62 : Option Addr} {sl62 : Array (Option Value)} {oc62 kV62 dc62 pm62 cd62 ct62 : Value}
    (a62 : PySem.W.nsIn K mainGlobals "_law_hash" = some (some (.ref f62))) (l62 : K.lookup f62 = some ⟨oc62, od62, .func (PySem.W.fnOf "_law_hash" "_law_hash" (defArgs s_l_hash) (defBody s_l_hash) (defScope s_l_hash) .none kV62 dc62 pm62 an62 cd62 ct62), sl62⟩) (c62 : PySem.W.codeIn K cd62 "_law_hash" = true) (k62 : PySem.W.keepIn K (.ref f62) = true)
    {f63 : Addr} {od63 an63 : Option Addr} {sl63 : Array (Option Value)} {oc63 kV63 dc63 pm63 cd63 ct63 : Value}
    (a63 : PySem.W.nsIn K mainGlobals "_law_generator" = some (some (.ref f63))) (l63 : K.lookup f63 = some ⟨oc63, od63, .func (PySem.W.fnOf "_law_generator" "_law_generator" (defArgs s_l_generator) (defBody s_l_generator) (defScope s_l_generator) .none kV63 dc63 pm63 an63 cd63 ct63), sl63⟩) (c63 : PySem.W.codeIn K cd63 "_law_generator" = true) (k63 : PySem.W.keepIn K (.ref f63) = true)
    {f64 : Addr} {od64 an64 : Option Addr} {sl64 : Array (Option Value)} {oc64 kV64 dc64 pm64 cd64 ct64 : Value}
    (a64 : PySem.W.nsIn K mainGlobals "_law_random" = some (some (.ref f64))) (l64 : K.lookup f64 = some ⟨oc64, od64, .func (PySem.W.fnOf "_law_random" "_law_random" (defArgs s_l_random) (defBody s_l_random) (defScope s_l_random) .none kV64 dc64 pm64 an64 cd64 ct64), sl64⟩) (c64 : PySem.W.codeIn K cd64 "_law_random" = true) (k64 : PySem.W.keepIn K (.ref f64) = true)
    {f65 : Addr} {od65 an65 : Option Addr} {sl65 : Array (Option Value)} {oc65 kV65 dc65 pm65 cd65 ct65 : Value}
    (a65 : PySem.W.nsIn K mainGlobals "_law_shuffled" = some (some (.ref f65))) (l65 : K.lookup f65 = some ⟨oc65, od65, .func (PySem.W.fnOf "_law_shuffled" "_law_shuffled" (defArgs s_l_shuffled) (defBody s_l_shuffled) (defScope s_l_shuffled) .none kV65 dc65 pm65 an65 cd65 ct65), sl65⟩) (c65 : PySem.W.codeIn K cd65 "_law_shuffled" = true) (k65 : PySem.W.keepIn K (.ref f65) = true)
    {f66 : Addr} {od66 an66 : Option Addr} {sl66 : Array (Option Value)} {oc66 kV66 dc66 pm66 cd66 ct66 : Value}
    (a66 : PySem.W.nsIn K mainGlobals "_law_random_house" = some (some (.ref f66))) (l66 : K.lookup f66 = some ⟨oc66, od66, .func (PySem.W.fnOf "_law_random_house" "_law_random_house" (defArgs s_l_random_house) (defBody s_l_random_house) (defScope s_l_random_house) .none kV66 dc66 pm66 an66 cd66 ct66), sl66⟩) (c66 : PySem.W.codeIn K cd66 "_law_random_house" = true) (k66 : PySem.W.keepIn K (.ref f66) = true)
    {f69 : Addr} {od69 an69 : Option Addr} {sl69 : Array (Option Value)} {oc69 kV69 dc69 pm69 cd69 ct69 : Value}
    (a69 : PySem.W.nsIn K mainGlobals "_law_no_previous" = some (some (.ref f69))) (l69 : K.lookup f69 = some ⟨oc69, od69, .func (PySem.W.fnOf "_law_no_previous" "_law_no_previous" (defArgs s_l_no_previous) (defBody s_l_no_previous) (defScope s_l_no_previous) .none kV69 dc69 pm69 an69 cd69 ct69), sl69⟩) (c69 : PySem.W.codeIn K cd69 "_law_no_previous" = true) (k69 : PySem.W.keepIn K (.ref f69) = true)
    {f70 : Addr} {od70 an70 : Option Addr} {sl70 : Array (Option Value)} {oc70 kV70 dc70 pm70 cd70 ct70 : Value}
    (a70 : PySem.W.nsIn K mainGlobals "_law_one_room_holds" = some (some (.ref f70))) (l70 : K.lookup f70 = some ⟨oc70, od70, .func (PySem.W.fnOf "_law_one_room_holds" "_law_one_room_holds" (defArgs s_l_one_room_holds) (defBody s_l_one_room_holds) (defScope s_l_one_room_holds) .none kV70 dc70 pm70 an70 cd70 ct70), sl70⟩) (c70 : PySem.W.codeIn K cd70 "_law_one_room_holds" = true) (k70 : PySem.W.keepIn K (.ref f70) = true)
    {f71 : Addr} {od71 an71 : Option Addr} {sl71 : Array (Option Value)} {oc71 kV71 dc71 pm71 cd71 ct71 : Value}
    (a71 : PySem.W.nsIn K mainGlobals "_law_one_person_holds" = some (some (.ref f71))) (l71 : K.lookup f71 = some ⟨oc71, od71, .func (PySem.W.fnOf "_law_one_person_holds" "_law_one_person_holds" (defArgs s_l_one_person_holds) (defBody s_l_one_person_holds) (defScope s_l_one_person_holds) .none kV71 dc71 pm71 an71 cd71 ct71), sl71⟩) (c71 : PySem.W.codeIn K cd71 "_law_one_person_holds" = true) (k71 : PySem.W.keepIn K (.ref f71) = true)
    {f72 : Addr} {od72 an72 : Option Addr} {sl72 : Array (Option Value)} {oc72 kV72 dc72 pm72 cd72 ct72 : Value}
    (a72 : PySem.W.nsIn K mainGlobals "_law_one_place_holds" = some (some (.ref f72))) (l72 : K.lookup f72 = some ⟨oc72, od72, .func (PySem.W.fnOf "_law_one_place_holds" "_law_one_place_holds" (defArgs s_l_one_place_holds) (defBody s_l_one_place_holds) (defScope s_l_one_place_holds) .none kV72 dc72 pm72 an72 cd72 ct72), sl72⟩) (c72 : PySem.W.codeIn K cd72 "_law_one_place_holds" = true) (k72 : PySem.W.keepIn K (.ref f72) = true)
    {f73 : Addr} {od73 an73 : Option Addr} {sl73 : Array (Option Value)} {oc73 kV73 dc73 pm73 cd73 ct73 : Value}
    (a73 : PySem.W.nsIn K mainGlobals "law" = some (some (.ref f73))) (l73 : K.lookup f73 = some ⟨oc73, od73, .func (PySem.W.fnOf "law" "law" (defArgs s_law) (defBody s_law) (defScope s_law) .none kV73 dc73 pm73 an73 cd73 ct73), sl73⟩) (c73 : PySem.W.codeIn K cd73 "law" = true) (k73 : PySem.W.keepIn K (.ref f73) = true)
    {C_Walk : Addr}
    (cgWalk : PySem.W.nsIn K mainGlobals "Walk" = some (some (.ref C_Walk)))
    (cpWalk : PySem.W.plainGet K C_Walk Str.empty = true)
    (chWalk : PySem.W.hasDictIn K C_Walk = true)
    (coWalk : PySem.W.plainOver K C_Walk = true)
    (csWalk : PySem.W.findIn K (.ref C_Walk) "__setattr__" = some (some (.builtin "object.__setattr__")))
    (ccWalk : PySem.W.findIn K (.ref C_Walk) "__class__" = some (some (.builtin "object.__class__")))
    (cnWalk : PySem.W.specialIn K (.builtin "object.__class__") "__get__" = some (some (.builtin "getset_descriptor.__get__")))
    (ctWalk : PySem.W.takesIn K (.builtin "object.__class__") = some true)
    (cmWalk : PySem.W.mroIn K C_Walk (.type "object") = some true)
    (ceWalk : PySem.W.kitOne K (.ref C_Walk) (.ref C_Walk) = some true)
    (cqWalk : PySem.W.findIn K (.ref C_Walk) "__ne__" = some (some (.builtin "object.__ne__")))
    (ckWalk : PySem.W.makesIn K C_Walk = true)
    (ckpWalk : PySem.W.keepIn K (.ref C_Walk) = true)
    (cf0_Walk : PySem.W.findIn K (.ref C_Walk) "house" = some none)
    (cf1_Walk : PySem.W.findIn K (.ref C_Walk) "rooms" = some none)
    (cf2_Walk : PySem.W.findIn K (.ref C_Walk) "barred" = some none)
    (cf3_Walk : PySem.W.findIn K (.ref C_Walk) "plan" = some none)
    {mfWalk_init : Addr} {moWalk_init maWalk_init : Option Addr} {mslWalk_init : Array (Option Value)} {mocWalk_init mkVWalk_init mdcWalk_init mpmWalk_init mcdWalk_init mctWalk_init : Value}
    (mtWalk_init : PySem.W.findIn K (.ref C_Walk) "__init__" = some (some (.ref mfWalk_init)))
    (miWalk_init : PySem.W.isFn K (.ref mfWalk_init) = true)
    (mlWalk_init : K.lookup mfWalk_init = some ⟨mocWalk_init, moWalk_init, .func (PySem.W.fnOf "__init__" "Walk.__init__" (defArgs s_Walk_init) (defBody s_Walk_init) (defScope s_Walk_init) .none mkVWalk_init mdcWalk_init mpmWalk_init maWalk_init mcdWalk_init mctWalk_init), mslWalk_init⟩)
    (mcWalk_init : PySem.W.codeIn K mcdWalk_init "Walk.__init__" = true)
    (mkWalk_init : PySem.W.keepIn K (.ref mfWalk_init) = true)
    {mfWalk_step : Addr} {moWalk_step maWalk_step : Option Addr} {mslWalk_step : Array (Option Value)} {mocWalk_step mkVWalk_step mdcWalk_step mpmWalk_step mcdWalk_step mctWalk_step : Value}
    (mtWalk_step : PySem.W.findIn K (.ref C_Walk) "step" = some (some (.ref mfWalk_step)))
    (miWalk_step : PySem.W.isFn K (.ref mfWalk_step) = true)
    (mlWalk_step : K.lookup mfWalk_step = some ⟨mocWalk_step, moWalk_step, .func (PySem.W.fnOf "step" "Walk.step" (defArgs s_Walk_step) (defBody s_Walk_step) (defScope s_Walk_step) .none mkVWalk_step mdcWalk_step mpmWalk_step maWalk_step mcdWalk_step mctWalk_step), mslWalk_step⟩)
    (mcWalk_step : PySem.W.codeIn K mcdWalk_step "Walk.step" = true)
    (mkWalk_step : PySem.W.keepIn K (.ref mfWalk_step) = true)
    {mfWalk_cross : Addr} {moWalk_cross maWalk_cross : Option Addr} {mslWalk_cross : Array (Option Value)} {mocWalk_cross mkVWalk_cross mdcWalk_cross mpmWalk_cross mcdWalk_cross mctWalk_cross : Value}
    (mtWalk_cross : PySem.W.findIn K (.ref C_Walk) "cross" = some (some (.ref mfWalk_cross)))
    (miWalk_cross : PySem.W.isFn K (.ref mfWalk_cross) = true)
    (mlWalk_cross : K.lookup mfWalk_cross = some ⟨mocWalk_cross, moWalk_cross, .func (PySem.W.fnOf "cross" "Walk.cross" (defArgs s_Walk_cross) (defBody s_Walk_cross) (defScope s_Walk_cross) .none mkVWalk_cross mdcWalk_cross mpmWalk_cross maWalk_cross mcdWalk_cross mctWalk_cross), mslWalk_cross⟩)
    (mcWalk_cross : PySem.W.codeIn K mcdWalk_cross "Walk.cross" = true)
    (mkWalk_cross : PySem.W.keepIn K (.ref mfWalk_cross) = true)
    {mfWalk_lead : Addr} {moWalk_lead maWalk_lead : Option Addr} {mslWalk_lead : Array (Option Value)} {mocWalk_lead mkVWalk_lead mdcWalk_lead mpmWalk_lead mcdWalk_lead mctWalk_lead : Value}
    (mtWalk_lead : PySem.W.findIn K (.ref C_Walk) "lead" = some (some (.ref mfWalk_lead)))
    (miWalk_lead : PySem.W.isFn K (.ref mfWalk_lead) = true)
    (mlWalk_lead : K.lookup mfWalk_lead = some ⟨mocWalk_lead, moWalk_lead, .func (PySem.W.fnOf "lead" "Walk.lead" (defArgs s_Walk_lead) (defBody s_Walk_lead) (defScope s_Walk_lead) .none mkVWalk_lead mdcWalk_lead mpmWalk_lead maWalk_lead mcdWalk_lead mctWalk_lead), mslWalk_lead⟩)
    (mcWalk_lead : PySem.W.codeIn K mcdWalk_lead "Walk.lead" = true)
    (mkWalk_lead : PySem.W.keepIn K (.ref mfWalk_lead) = true)
    {mfWalk_doors_to : Addr} {moWalk_doors_to maWalk_doors_to : Option Addr} {mslWalk_doors_to : Array (Option Value)} {mocWalk_doors_to mkVWalk_doors_to mdcWalk_doors_to mpmWalk_doors_to mcdWalk_doors_to mctWalk_doors_to : Value}
    (mtWalk_doors_to : PySem.W.findIn K (.ref C_Walk) "doors_to" = some (some (.ref mfWalk_doors_to)))
    (miWalk_doors_to : PySem.W.isFn K (.ref mfWalk_doors_to) = true)
    (mlWalk_doors_to : K.lookup mfWalk_doors_to = some ⟨mocWalk_doors_to, moWalk_doors_to, .func (PySem.W.fnOf "doors_to" "Walk.doors_to" (defArgs s_Walk_doors_to) (defBody s_Walk_doors_to) (defScope s_Walk_doors_to) .none mkVWalk_doors_to mdcWalk_doors_to mpmWalk_doors_to maWalk_doors_to mcdWalk_doors_to mctWalk_doors_to), mslWalk_doors_to⟩)
    (mcWalk_doors_to : PySem.W.codeIn K mcdWalk_doors_to "Walk.doors_to" = true)
    (mkWalk_doors_to : PySem.W.keepIn K (.ref mfWalk_doors_to) = true)
    (z0 : PySem.W.nsIn K mainGlobals "len" = some none)
    (z1 : PySem.W.nsIn K mainGlobals "isinstance" = some none)
    (z2 : PySem.W.nsIn K mainGlobals "enumerate" = some none)
    (z3 : PySem.W.nsIn K mainGlobals "range" = some none)
    (z4 : PySem.W.nsIn K mainGlobals "list" = some none)
    (z5 : PySem.W.nsIn K mainGlobals "set" = some none)
    (z6 : PySem.W.nsIn K mainGlobals "sorted" = some none)
    (z7 : PySem.W.nsIn K mainGlobals "max" = some none)
    (z8 : PySem.W.nsIn K mainGlobals "min" = some none)
    (z9 : PySem.W.nsIn K mainGlobals "tuple" = some none)
    (z10 : PySem.W.nsIn K mainGlobals "int" = some none)
    (z11 : PySem.W.nsIn K mainGlobals "bool" = some none)
    (z12 : PySem.W.nsIn K mainGlobals "all" = some none)
    (z13 : PySem.W.nsIn K mainGlobals "sum" = some none)
    (z14 : PySem.W.nsIn K mainGlobals "divmod" = some none)
    {CL : Addr}
    {CM fmb Tmb Nmb : Addr} {nmmb qmb : Str} {bsmb : List Value} {snmb : List Str} {submb : List Value} {abmb : Bool} {colmb : Option Bool} {ddmb odmb anmb otmb : Option Addr} {umb vmb wmb xmb ymb : Option Value} {ocmb kVmb dcmb pmmb cdmb ctmb tcmb : Value} {slmb stmb : Array (Option Value)} {ntmb : Nat}
    (gmb : PySem.W.nsIn K mainGlobals "MoveBlocked" = some (some (.ref CM)))
    (xmb : K.lookup CM = some (excClassObj nmmb qmb CM Nmb bsmb (.ref CL :: PySem.HandSPX.veTail) true snmb submb abmb colmb ddmb umb vmb wmb xmb ymb "ValueError.__new__"))
    (samb : PySem.W.findIn K (.ref CM) "__setattr__" = some (some (.builtin "object.__setattr__")))
    (gamb : PySem.W.findIn K (.ref CM) "__getattribute__" = some (some (.builtin "BaseException.__getattribute__")))
    (ggmb : PySem.W.findIn K (.ref CM) "__getattr__" = some none)
    (n0_mb : PySem.W.findIn K (.ref CM) "index" = some none)
    (n1_mb : PySem.W.findIn K (.ref CM) "reason" = some none)
    (imb : PySem.W.findIn K (.ref CM) "__init__" = some (some (.ref fmb)))
    (tmb : PySem.W.typeIn K (.ref fmb) = some (.type "function"))
    (lmb : K.lookup fmb = some ⟨ocmb, odmb, .func (PySem.W.fnOf "__init__" "MoveBlocked.__init__" (defArgs s_mb) (defBody s_mb) (defScope s_mb) (.ref Tmb) kVmb dcmb pmmb anmb cdmb ctmb), slmb⟩)
    (cmb : PySem.W.codeIn K cdmb "MoveBlocked.__init__" = true)
    (kmb : PySem.W.keepIn K (.ref fmb) = true)
    (pmb : K.lookup Tmb = some ⟨tcmb, otmb, .seq [Value.none, Value.none].toArray ntmb, stmb⟩)
    (kcmb : PySem.W.keepIn K (.ref CM) = true)
    (emb : PySem.W.subIn K (.ref CM) (.type "BaseException") = some true)
    (tymb : PySem.W.typeIn K (.ref CM) = some (.type "type"))
    (hdmb : PySem.W.hasDictIn K CM = true)
    (smb : PySem.W.subIn K (.ref CM) (.ref CM) = some true)
    {CT fit Tit Nit : Addr} {nmit qit : Str} {bsit : List Value} {snit : List Str} {subit : List Value} {abit : Bool} {colit : Option Bool} {ddit odit anit otit : Option Addr} {uit vit wit xit yit : Option Value} {ocit kVit dcit pmit cdit ctit tcit : Value} {slit stit : Array (Option Value)} {ntit : Nat}
    (git : PySem.W.nsIn K mainGlobals "IndexTooLarge" = some (some (.ref CT)))
    (xit : K.lookup CT = some (excClassObj nmit qit CT Nit bsit (.ref CL :: PySem.HandSPX.veTail) true snit subit abit colit ddit uit vit wit xit yit "ValueError.__new__"))
    (sait : PySem.W.findIn K (.ref CT) "__setattr__" = some (some (.builtin "object.__setattr__")))
    (gait : PySem.W.findIn K (.ref CT) "__getattribute__" = some (some (.builtin "BaseException.__getattribute__")))
    (ggit : PySem.W.findIn K (.ref CT) "__getattr__" = some none)
    (n0_it : PySem.W.findIn K (.ref CT) "count" = some none)
    (iit : PySem.W.findIn K (.ref CT) "__init__" = some (some (.ref fit)))
    (tit : PySem.W.typeIn K (.ref fit) = some (.type "function"))
    (lit : K.lookup fit = some ⟨ocit, odit, .func (PySem.W.fnOf "__init__" "IndexTooLarge.__init__" (defArgs s_it) (defBody s_it) (defScope s_it) (.ref Tit) kVit dcit pmit anit cdit ctit), slit⟩)
    (cit : PySem.W.codeIn K cdit "IndexTooLarge.__init__" = true)
    (kit : PySem.W.keepIn K (.ref fit) = true)
    (pit : K.lookup Tit = some ⟨tcit, otit, .seq [Value.none].toArray ntit, stit⟩)
    (kcit : PySem.W.keepIn K (.ref CT) = true)
    (eit : PySem.W.subIn K (.ref CT) (.type "BaseException") = some true)
    (tyit : PySem.W.typeIn K (.ref CT) = some (.type "type"))
    (hdit : PySem.W.hasDictIn K CT = true)
    (sit : PySem.W.subIn K (.ref CT) (.ref CT) = some true)
    : ∃ fd : FuncData, (∀ (s : Shared) (v : Value), BindsTo s fd ⟨[v], []⟩ [("_law_script", v)]) ∧ ∀ base : Heap, K.In base → base.Ns mainGlobals mg → FnG l.prog w K mg base 13 fa fd ["_law_script"] (spLaw K) := by
  have e := hfa.symm.trans (PySem.W.mg_of X G a73)
  cases e
  have T : Bl mg := ⟨PySem.W.mg_none_of X G z0, PySem.W.mg_none_of X G z1, PySem.W.mg_none_of X G z2, PySem.W.mg_none_of X G z3, PySem.W.mg_none_of X G z4, PySem.W.mg_none_of X G z5, PySem.W.mg_none_of X G z6, PySem.W.mg_none_of X G z7, PySem.W.mg_none_of X G z8, PySem.W.mg_none_of X G z9, PySem.W.mg_none_of X G z10, PySem.W.mg_none_of X G z11, PySem.W.mg_none_of X G z12, PySem.W.mg_none_of X G z13, PySem.W.mg_none_of X G z14⟩
  have D_is_whole : Def K mg "is_whole" s_is_whole := def_mk X G a0 l0 c0 k0
  have D_is_index : Def K mg "is_index" s_is_index := def_mk X G a1 l1 c1 k1
  have D_is_door : Def K mg "is_door" s_is_door := def_mk X G a2 l2 c2 k2
  have D_check_house : Def K mg "check_house" s_check_house := def_mk X G a3 l3 c3 k3
  have D_first_ring : Def K mg "first_ring" s_first_ring := def_mk X G a4 l4 c4 k4
  have D_find_root : Def K mg "find_root" s_find_root := def_mk X G a5 l5 c5 k5
  have D_need_house : Def K mg "need_house" s_need_house := def_mk X G a6 l6 c6 k6
  have D_need_room : Def K mg "need_room" s_need_room := def_mk X G a7 l7 c7 k7
  have D_exits_of : Def K mg "exits_of" s_exits_of := def_mk X G a8 l8 c8 k8
  have D_doors_by_ends : Def K mg "doors_by_ends" s_doors_by_ends := def_mk X G a9 l9 c9 k9
  have D_ways_from : Def K mg "ways_from" s_ways_from := def_mk X G a10 l10 c10 k10
  have D_steps_along : Def K mg "steps_along" s_steps_along := def_mk X G a11 l11 c11 k11
  have D_steps_between : Def K mg "steps_between" s_steps_between := def_mk X G a12 l12 c12 k12
  have D_doors_between : Def K mg "doors_between" s_doors_between := def_mk X G a13 l13 c13 k13
  have D_is_numbered : Def K mg "is_numbered" s_is_numbered := def_mk X G a14 l14 c14 k14
  have D_shared_path : Def K mg "shared_path" s_shared_path := def_mk X G a15 l15 c15 k15
  have D_soonest_meeting : Def K mg "soonest_meeting" s_soonest_meeting := def_mk X G a16 l16 c16 k16
  have D_doors_not_barring : Def K mg "doors_not_barring" s_doors_not_barring := def_mk X G a17 l17 c17 k17
  have D_meet_soonest : Def K mg "meet_soonest" s_meet_soonest := def_mk X G a18 l18 c18 k18
  have D_gather_in : Def K mg "gather_in" s_gather_in := def_mk X G a19 l19 c19 k19
  have D_has_state_shape : Def K mg "has_state_shape" s_has_state_shape := def_mk X G a20 l20 c20 k20
  have D_check_state : Def K mg "check_state" s_check_state := def_mk X G a21 l21 c21 k21
  have D_is_move : Def K mg "is_move" s_is_move := def_mk X G a22 l22 c22 k22
  have D_check_plan : Def K mg "check_plan" s_check_plan := def_mk X G a23 l23 c23 k23
  have D_need_people : Def K mg "need_people" s_need_people := def_mk X G a24 l24 c24 k24
  have D_need_state : Def K mg "need_state" s_need_state := def_mk X G a25 l25 c25 k25
  have D_need_state_of_as_many : Def K mg "need_state_of_as_many" s_need_state_of_as_many := def_mk X G a26 l26 c26 k26
  have D_need_plan : Def K mg "need_plan" s_need_plan := def_mk X G a27 l27 c27 k27
  have D_need_person : Def K mg "need_person" s_need_person := def_mk X G a28 l28 c28 k28
  have D_replaced : Def K mg "replaced" s_replaced := def_mk X G a29 l29 c29 k29
  have D_played : Def K mg "played" s_played := def_mk X G a30 l30 c30 k30
  have D_play : Def K mg "play" s_play := def_mk X G a31 l31 c31 k31
  have D_doors_barring : Def K mg "doors_barring" s_doors_barring := def_mk X G a32 l32 c32 k32
  have D_region_ways : Def K mg "region_ways" s_region_ways := def_mk X G a33 l33 c33 k33
  have D_region : Def K mg "region" s_region := def_mk X G a34 l34 c34 k34
  have D_walk_to : Def K mg "walk_to" s_walk_to := def_mk X G a35 l35 c35 k35
  have D_is_apart : Def K mg "is_apart" s_is_apart := def_mk X G a36 l36 c36 k36
  have D_walk_lengths : Def K mg "walk_lengths" s_walk_lengths := def_mk X G a37 l37 c37 k37
  have D_fewest_and_most : Def K mg "fewest_and_most" s_fewest_and_most := def_mk X G a38 l38 c38 k38
  have D_people_of : Def K mg "people_of" s_people_of := def_mk X G a39 l39 c39 k39
  have D_first_meeting : Def K mg "first_meeting" s_first_meeting := def_mk X G a40 l40 c40 k40
  have D_is_plan : Def K mg "is_plan" s_is_plan := def_mk X G a41 l41 c41 k41
  have D_check_first_meeting : Def K mg "check_first_meeting" s_check_first_meeting := def_mk X G a42 l42 c42 k42
  have D_first_meeting_fault : Def K mg "first_meeting_fault" s_first_meeting_fault := def_mk X G a43 l43 c43 k43
  have D_all_regions : Def K mg "all_regions" s_all_regions := def_mk X G a44 l44 c44 k44
  have D_first_elsewhere : Def K mg "first_elsewhere" s_first_elsewhere := def_mk X G a45 l45 c45 k45
  have D_gather : Def K mg "gather" s_gather := def_mk X G a46 l46 c46 k46
  have D_is_list_of_rooms : Def K mg "is_list_of_rooms" s_is_list_of_rooms := def_mk X G a47 l47 c47 k47
  have D_is_list_of_regions : Def K mg "is_list_of_regions" s_is_list_of_regions := def_mk X G a48 l48 c48 k48
  have D_is_gathering : Def K mg "is_gathering" s_is_gathering := def_mk X G a49 l49 c49 k49
  have D_check_gathering : Def K mg "check_gathering" s_check_gathering := def_mk X G a50 l50 c50 k50
  have D_gathering_fault : Def K mg "gathering_fault" s_gathering_fault := def_mk X G a51 l51 c51 k51
  have D_regions_fault : Def K mg "regions_fault" s_regions_fault := def_mk X G a52 l52 c52 k52
  have D_group_marks : Def K mg "group_marks" s_group_marks := def_mk X G a53 l53 c53 k53
  have D_groups : Def K mg "groups" s_groups := def_mk X G a54 l54 c54 k54
  have D_explained_doors : Def K mg "explained_doors" s_explained_doors := def_mk X G a55 l55 c55 k55
  have D_last_moves : Def K mg "last_moves" s_last_moves := def_mk X G a56 l56 c56 k56
  have D_count_previous : Def K mg "count_previous" s_count_previous := def_mk X G a57 l57 c57 k57
  have D_state_before : Def K mg "state_before" s_state_before := def_mk X G a58 l58 c58 k58
  have D_previous_at : Def K mg "previous_at" s_previous_at := def_mk X G a59 l59 c59 k59
  have D_previous_index : Def K mg "previous_index" s_previous_index := def_mk X G a60 l60 c60 k60
  have D_l_cell : Def K mg "_law_cell" s_l_cell := def_mk X G a61 l61 c61 k61
  have D_l_hash : Def K mg "_law_hash" s_l_hash := def_mk X G a62 l62 c62 k62
  have D_l_generator : Def K mg "_law_generator" s_l_generator := def_mk X G a63 l63 c63 k63
  have D_l_random : Def K mg "_law_random" s_l_random := def_mk X G a64 l64 c64 k64
  have D_l_shuffled : Def K mg "_law_shuffled" s_l_shuffled := def_mk X G a65 l65 c65 k65
  have D_l_random_house : Def K mg "_law_random_house" s_l_random_house := def_mk X G a66 l66 c66 k66
  have D_l_no_previous : Def K mg "_law_no_previous" s_l_no_previous := def_mk X G a69 l69 c69 k69
  have D_l_one_room_holds : Def K mg "_law_one_room_holds" s_l_one_room_holds := def_mk X G a70 l70 c70 k70
  have D_l_one_person_holds : Def K mg "_law_one_person_holds" s_l_one_person_holds := def_mk X G a71 l71 c71 k71
  have D_l_one_place_holds : Def K mg "_law_one_place_holds" s_l_one_place_holds := def_mk X G a72 l72 c72 k72
  have clsWalk : Cls K C_Walk := ⟨cpWalk, chWalk, coWalk, csWalk⟩
  have cl_Walk : ClsD K mg "Walk" C_Walk ["house", "rooms", "barred", "plan"] := ⟨clsWalk, PySem.W.mg_of X G cgWalk, by intro q hq; simp only [List.mem_cons, List.not_mem_nil, or_false] at hq; rcases hq with rfl | rfl | rfl | rfl; exact cf0_Walk; exact cf1_Walk; exact cf2_Walk; exact cf3_Walk⟩
  have ic_Walk : C8.InsC K C_Walk := ⟨clsWalk, ccWalk, cnWalk, ctWalk, cmWalk, ceWalk⟩
  have ne_Walk := cqWalk
  have D_Walk_init : IniD K C_Walk "Walk.__init__" s_Walk_init := ⟨mfWalk_init, _, fun_mk mlWalk_init mcWalk_init mkWalk_init, ⟨ckWalk, mtWalk_init, miWalk_init, ckpWalk⟩⟩
  have D_Walk_step : MetD K C_Walk "step" "Walk.step" s_Walk_step := ⟨mfWalk_step, _, fun_mk mlWalk_step mcWalk_step mkWalk_step, ⟨mtWalk_step, miWalk_step, mkWalk_step⟩⟩
  have D_Walk_cross : MetD K C_Walk "cross" "Walk.cross" s_Walk_cross := ⟨mfWalk_cross, _, fun_mk mlWalk_cross mcWalk_cross mkWalk_cross, ⟨mtWalk_cross, miWalk_cross, mkWalk_cross⟩⟩
  have D_Walk_lead : MetD K C_Walk "lead" "Walk.lead" s_Walk_lead := ⟨mfWalk_lead, _, fun_mk mlWalk_lead mcWalk_lead mkWalk_lead, ⟨mtWalk_lead, miWalk_lead, mkWalk_lead⟩⟩
  have D_Walk_doors_to : MetD K C_Walk "doors_to" "Walk.doors_to" s_Walk_doors_to := ⟨mfWalk_doors_to, _, fun_mk mlWalk_doors_to mcWalk_doors_to mkWalk_doors_to, ⟨mtWalk_doors_to, miWalk_doors_to, mkWalk_doors_to⟩⟩
  have exmb : ErrK K mg "MoveBlocked" CM fmb ["index", "reason"] := ⟨PySem.W.mg_of X G gmb, ⟨⟨_, _, _, _, _, _, _, _, _, _, _, _, _, _, _, xmb, by rfl⟩, samb, emb, tymb, kcmb⟩, ⟨gamb, ggmb, emb, hdmb⟩, imb, tmb, (by intro q hq; simp only [List.mem_cons, List.not_mem_nil, or_false] at hq; rcases hq with rfl | rfl; exact n0_mb; exact n1_mb), PySem.W.exm_ref emb hdmb tymb smb⟩
  have Fmb : FunD K "__init__" "MoveBlocked.__init__" (defArgs s_mb) (defBody s_mb) (defScope s_mb) [.non, .non] [] fmb _ := ⟨⟨ocmb, odmb, .ref Tmb, kVmb, dcmb, pmmb, anmb, cdmb, ctmb, slmb, rfl, lmb, cmb, .inr ⟨by simp, Tmb, _, [Value.none, Value.none], ntmb, rfl, pmb, rfl, .cons rfl (.cons rfl .nil)⟩, .inl rfl⟩, kmb⟩
  have exit : ErrK K mg "IndexTooLarge" CT fit ["count"] := ⟨PySem.W.mg_of X G git, ⟨⟨_, _, _, _, _, _, _, _, _, _, _, _, _, _, _, xit, by rfl⟩, sait, eit, tyit, kcit⟩, ⟨gait, ggit, eit, hdit⟩, iit, tit, (by intro q hq; simp only [List.mem_cons, List.not_mem_nil, or_false] at hq; subst hq; exact n0_it), PySem.W.exm_ref eit hdit tyit sit⟩
  have Fit : FunD K "__init__" "IndexTooLarge.__init__" (defArgs s_it) (defBody s_it) (defScope s_it) [.non] [] fit _ := ⟨⟨ocit, odit, .ref Tit, kVit, dcit, pmit, anit, cdit, ctit, slit, rfl, lit, cit, .inr ⟨by simp, Tit, _, [Value.none], ntit, rfl, pit, rfl, .cons rfl .nil⟩, .inl rfl⟩, kit⟩
  refine ⟨PySem.W.fnOf "law" "law" (defArgs s_law) (defBody s_law) (defScope s_law) .none kV73 dc73 pm73 an73 cd73 ct73, fun s v => .of_eq rfl, fun base _ _ => ?_⟩
  have E_mb : ErrOkK l.prog w K mg base "MoveBlocked" CM ["self", "index", "reason"] ["index", "reason"] (spE2 CM "index" "reason") := ⟨_, _, exmb, e_ok_mb exmb Fmb, e_b_mb Fmb⟩
  have E_it : ErrOkK l.prog w K mg base "IndexTooLarge" CT ["self", "count"] ["count"] (spE1 CT "count") := ⟨_, _, exit, e_ok_it exit Fit, e_b_it Fit⟩
  have H_cell : Cal l.prog w K mg base "_law_cell" ["_law_script", "_law_index"] 1 (spCell K) := ok_cell T D_l_cell
  have H_generator : Cal l.prog w K mg base "_law_generator" ["_law_script", "_law_index"] 2 (spGen K) := ok_generator T D_l_generator H_cell
  have H_hash : Cal l.prog w K mg base "_law_hash" ["_law_seed", "_law_index"] 1 spHash := ok_hash T D_l_hash
  have H_random : Cal l.prog w K mg base "_law_random" ["_law_generator_here", "_law_bound"] 2 spRand := ok_random T D_l_random H_hash
  have H_shuffled : Cal l.prog w K mg base "_law_shuffled" ["_law_generator_here", "_law_items"] 3 (spShuf K) := ok_shuffled T D_l_shuffled H_random
  have H_random_house : Cal l.prog w K mg base "_law_random_house" ["_law_generator_here", "_law_size"] 4 (spHouse K) := ok_random_house T D_l_random_house H_random H_shuffled
  have H_is_whole : Cal l.prog w K mg base "is_whole" ["value"] 1 spWhole := ok_is_whole T D_is_whole
  have H_is_index : Cal l.prog w K mg base "is_index" ["value", "count"] 2 spIndex := ok_is_index T D_is_index H_is_whole
  have H_is_door : Cal l.prog w K mg base "is_door" ["value", "count"] 3 (spDoor K) := ok_is_door T D_is_door H_is_index
  have H_find_root : Cal l.prog w K mg base "find_root" ["links", "room"] 1 spFind := ok_find_root T D_find_root
  have H_first_ring : Cal l.prog w K mg base "first_ring" ["doors"] 2 (spRing K) := ok_first_ring T D_first_ring H_find_root
  have H_check_house : Cal l.prog w K mg base "check_house" ["value"] 4 (spRing K) := ok_check_house T D_check_house H_is_door H_first_ring
  have H_need_house : Cal l.prog w K mg base "need_house" ["house"] 5 (spRing K) := ok_need_house T D_need_house H_check_house
  have H_has_state_shape : Cal l.prog w K mg base "has_state_shape" ["house", "value"] 1 (spShape K) := ok_has_state_shape T D_has_state_shape
  have H_check_state : Cal l.prog w K mg base "check_state" ["house", "value"] 6 (spSt K) := ok_check_state T D_check_state H_need_house H_has_state_shape H_is_index
  have H_need_state : Cal l.prog w K mg base "need_state" ["house", "state"] 7 (spSt K) := ok_need_state T D_need_state H_check_state
  have H_need_person : Cal l.prog w K mg base "need_person" ["state", "person"] 3 (spPerson K) := ok_need_person T D_need_person H_is_index
  have H_need_room : Cal l.prog w K mg base "need_room" ["house", "room"] 3 (spNeedRoom K) := ok_need_room T D_need_room H_is_index
  have H_exits_of : Cal l.prog w K mg base "exits_of" ["house"] 1 (spExits K) := ok_exits_of T D_exits_of
  have H_ways_from : Cal l.prog w K mg base "ways_from" ["house", "room", "shut"] 2 (spWays K) := ok_ways_from T D_ways_from H_exits_of
  have H_doors_barring : Cal l.prog w K mg base "doors_barring" ["state", "person"] 1 (spBarring K) := ok_doors_barring T D_doors_barring
  have H_steps_along__t : Cal l.prog w K mg base "steps_along" ["ways", "room"] 1 (spStepsT K) := ok_steps_along__t T D_steps_along
  have H_walk_to : CalK l.prog w K mg base "walk_to" ["house", "state", "person", "room"] 8 (spWalkTo K) ["room", "person", "state", "house"] rev4 rev4 := ok_walk_to T D_walk_to H_need_state H_need_person H_need_room H_ways_from H_doors_barring H_steps_along__t
  have H_region_ways : Cal l.prog w K mg base "region_ways" ["house", "state", "person"] 3 (spRegWays K) := ok_region_ways T D_region_ways H_ways_from H_doors_barring
  have H_region : CalK l.prog w K mg base "region" ["house", "state", "person"] 8 (spRegion K) ["person", "state", "house"] rev3 rev3 := ok_region T D_region H_need_state H_need_person H_region_ways
  have H_is_apart : CalK l.prog w K mg base "is_apart" ["house", "state"] 8 (spApart K) ["state", "house"] rev2 rev2 := ok_is_apart T D_is_apart H_need_state H_region_ways
  have H_fewest_and_most : Cal l.prog w K mg base "fewest_and_most" ["ways"] 1 (spFew K) := ok_fewest_and_most T D_fewest_and_most
  have H_walk_lengths : CalK l.prog w K mg base "walk_lengths" ["house", "state"] 9 (spLens K) ["state", "house"] rev2 rev2 := ok_walk_lengths T D_walk_lengths H_is_apart.cal H_fewest_and_most H_region_ways
  have H_is_numbered : Cal l.prog w K mg base "is_numbered" ["value"] 2 (spNum K) := ok_is_numbered T D_is_numbered H_is_whole
  have H_first_meeting_fault : Cal l.prog w K mg base "first_meeting_fault" ["house", "state", "claim", "check_moves", "play_moves", "answer"] 10 (spFF l.prog w K mg base CM) := ok_first_meeting_fault T E_mb D_first_meeting_fault H_is_numbered H_is_apart.cal
  have H_need_people : Cal l.prog w K mg base "need_people" ["people"] 2 spPeople := ok_need_people T D_need_people H_is_whole
  have H_doors_by_ends : Cal l.prog w K mg base "doors_by_ends" ["house"] 1 (spDoors K) := ok_doors_by_ends T D_doors_by_ends
  have H_is_move : Cal l.prog w K mg base "is_move" ["doors", "people", "value"] 3 spMove := ok_is_move T D_is_move H_is_whole H_is_index
  have H_check_plan : Cal l.prog w K mg base "check_plan" ["house", "people", "value"] 6 (spPlan K) := ok_check_plan T D_check_plan H_need_house H_need_people H_doors_by_ends H_is_move
  have H_need_plan : Cal l.prog w K mg base "need_plan" ["house", "people", "plan"] 7 (spNP K) := ok_need_plan T D_need_plan H_check_plan
  have H_played : CalX l.prog w K mg base "played" ["doors", "state", "plan"] 3 (spPlayedX K CM) := ok_played T E_mb D_played
  have H_play : CalX l.prog w K mg base "play" ["house", "state", "plan"] 8 (spPlayX K CM) := ok_play T D_play H_need_state H_need_plan H_doors_by_ends H_played
  have H_Walk_init : CalI l.prog w K mg base C_Walk ["self", "house", "state"] 1 (spWkI K C_Walk) := ok_Walk_init T cl_Walk D_Walk_init
  have H_doors_not_barring : Cal l.prog w K mg base "doors_not_barring" ["walk", "person"] 1 (spBarNot K C_Walk) := ok_doors_not_barring T cl_Walk D_doors_not_barring
  have H_steps_along : Cal l.prog w K mg base "steps_along" ["ways", "room"] 1 (spSteps K) := ok_steps_along T D_steps_along
  have H_steps_between : Cal l.prog w K mg base "steps_between" ["house", "a", "b"] 3 (spStepsB K) := ok_steps_between T D_steps_between H_steps_along H_ways_from
  have H_doors_between : Cal l.prog w K mg base "doors_between" ["house", "a", "b"] 4 (spPath K) := ok_doors_between T D_doors_between H_steps_between
  have H_Walk_doors_to : CalM l.prog w K mg base C_Walk "doors_to" ["self", "person", "room"] 5 (spDoorsTo K C_Walk) := ok_Walk_doors_to T cl_Walk D_Walk_doors_to H_doors_between
  have H_shared_path : Cal l.prog w K mg base "shared_path" ["doors", "first_open", "second_open"] 1 (spShared K) := ok_shared_path T D_shared_path
  have H_soonest_meeting : Cal l.prog w K mg base "soonest_meeting" ["walk", "crowds", "opened"] 6 (spSoon K C_Walk) := ok_soonest_meeting T cl_Walk D_soonest_meeting H_Walk_doors_to H_shared_path
  have H_Walk_step : CalM l.prog w K mg base C_Walk "step" ["self", "person", "door"] 1 (spStep K C_Walk) := ok_Walk_step T cl_Walk D_Walk_step
  have H_Walk_cross : CalM l.prog w K mg base C_Walk "cross" ["self", "crowd", "door"] 2 (spCross K C_Walk) := ok_Walk_cross T cl_Walk D_Walk_cross H_Walk_step
  have H_Walk_lead : CalM l.prog w K mg base C_Walk "lead" ["self", "crowd", "doors"] 3 (spLead K C_Walk) := ok_Walk_lead T cl_Walk D_Walk_lead H_Walk_cross
  have H_meet_soonest : Cal l.prog w K mg base "meet_soonest" ["walk", "people"] 7 (spMeet K C_Walk) := ok_meet_soonest T cl_Walk D_meet_soonest H_doors_not_barring H_soonest_meeting H_Walk_lead
  have H_people_of : Cal l.prog w K mg base "people_of" ["state"] 1 (spPplOf K) := ok_people_of T D_people_of
  have H_first_meeting : CalK l.prog w K mg base "first_meeting" ["house", "state"] 9 (spFirst K) ["state", "house"] rev2 rev2 := ok_first_meeting T cl_Walk D_first_meeting H_need_state H_is_apart.cal H_Walk_init H_meet_soonest H_people_of
  have H_check_first_meeting : Cal l.prog w K mg base "check_first_meeting" ["house", "state", "claim"] 11 (spCheckF K) := ok_check_first_meeting T D_check_first_meeting H_need_state H_first_meeting_fault H_check_plan H_play H_first_meeting.cal
  have H_is_list_of_rooms : Cal l.prog w K mg base "is_list_of_rooms" ["value"] 2 (spIsRooms K) := ok_is_list_of_rooms T D_is_list_of_rooms H_is_whole
  have H_is_list_of_regions : Cal l.prog w K mg base "is_list_of_regions" ["value"] 3 (spIsRegs K) := ok_is_list_of_regions T D_is_list_of_regions H_is_list_of_rooms
  have H_is_plan : Cal l.prog w K mg base "is_plan" ["house", "state", "value"] 7 (spIsPlan K) := ok_is_plan T D_is_plan H_check_plan
  have H_is_gathering : Cal l.prog w K mg base "is_gathering" ["house", "state", "value"] 8 (spIsG K) := ok_is_gathering T D_is_gathering H_is_list_of_regions H_is_plan
  have H_first_elsewhere : Cal l.prog w K mg base "first_elsewhere" ["state", "room"] 1 (spElse K) := ok_first_elsewhere T D_first_elsewhere
  have H_gathering_fault : Cal l.prog w K mg base "gathering_fault" ["house", "state", "room", "plan"] 9 (spGF K) := ok_gathering_fault T E_mb D_gathering_fault H_play H_first_elsewhere
  have H_all_regions : Cal l.prog w K mg base "all_regions" ["house", "state"] 9 (spAllReg K) := ok_all_regions T D_all_regions H_people_of H_region.cal
  have H_regions_fault : Cal l.prog w K mg base "regions_fault" ["house", "state", "room", "regions"] 10 (spRF K) := ok_regions_fault T D_regions_fault H_all_regions H_first_elsewhere H_is_apart.cal
  have H_check_gathering : Cal l.prog w K mg base "check_gathering" ["house", "state", "room", "claim"] 11 (spCheckG K) := ok_check_gathering T D_check_gathering H_need_state H_need_room H_is_gathering H_gathering_fault H_regions_fault
  have H_gather_in : Cal l.prog w K mg base "gather_in" ["walk", "people", "room"] 8 (spGatherIn K C_Walk) := ok_gather_in T cl_Walk D_gather_in H_meet_soonest H_Walk_lead H_Walk_doors_to
  have H_gather : CalK l.prog w K mg base "gather" ["house", "state", "room"] 10 (spGather K) ["room", "state", "house"] rev3 rev3 := ok_gather T cl_Walk D_gather H_need_state H_need_room H_first_elsewhere H_is_apart.cal H_all_regions H_Walk_init H_gather_in H_people_of
  have H_group_marks : Cal l.prog w K mg base "group_marks" ["house", "state"] 1 (spMarks K) := ok_group_marks T D_group_marks
  have H_groups : CalK l.prog w K mg base "groups" ["house", "state"] 8 (spGroups K) ["state", "house"] rev2 rev2 := ok_groups T D_groups H_need_state H_group_marks
  have H_replaced : Cal l.prog w K mg base "replaced" ["values", "index", "value"] 1 (spRepl K) := ok_replaced T D_replaced
  have H_last_moves : Cal l.prog w K mg base "last_moves" ["house", "state"] 2 (spLast K) := ok_last_moves T D_last_moves H_replaced
  have H_count_previous : CalK l.prog w K mg base "count_previous" ["house", "state"] 8 (spCount K) ["state", "house"] rev2 rev2 := ok_count_previous T D_count_previous H_need_state H_last_moves
  have H_previous_at__xa : CalX l.prog w K mg base "previous_at" ["house", "state", "index"] 9 (spPrevAtX K CT) := ok_previous_at__xa T E_it D_previous_at H_count_previous.cal H_is_index
  have H_need_state_of_as_many : Cal l.prog w K mg base "need_state_of_as_many" ["house", "state", "other"] 8 (spAsMany K) := ok_need_state_of_as_many T D_need_state_of_as_many H_need_state
  have H_state_before : Cal l.prog w K mg base "state_before" ["state", "rooms", "door", "before"] 2 (spBefore K) := ok_state_before T D_state_before H_replaced
  have H_previous_index : CalK l.prog w K mg base "previous_index" ["house", "state", "previous"] 9 (spPrevIdx K) ["previous", "state", "house"] rev3 rev3 := ok_previous_index T D_previous_index H_need_state H_need_state_of_as_many H_last_moves H_state_before
  have H_l_no_previous : Cal l.prog w K mg base "_law_no_previous" ["_law_layout", "_law_situation"] 10 (spNoPrev K) := ok_l_no_previous T E_it D_l_no_previous H_previous_at__xa H_count_previous.cal H_previous_index.cal
  have H_explained_doors : CalK l.prog w K mg base "explained_doors" ["house", "state"] 8 (spExplained K) ["state", "house"] rev2 rev2 := ok_explained_doors T D_explained_doors H_need_state H_group_marks
  have H_l_one_person_holds : Cal l.prog w K mg base "_law_one_person_holds" ["_law_layout", "_law_start", "_law_target"] 12 (spOnePerson K) := ok_l_one_person_holds T D_l_one_person_holds H_walk_to.cal H_region.cal H_walk_lengths.cal H_is_apart.cal H_check_first_meeting H_first_meeting.cal H_check_gathering H_gather.cal H_groups.cal H_l_no_previous H_explained_doors.cal
  have H_l_one_room_holds : Cal l.prog w K mg base "_law_one_room_holds" ["_law_count"] 12 (spOneRoom K) := ok_l_one_room_holds T D_l_one_room_holds H_walk_to.cal H_region.cal H_walk_lengths.cal H_is_apart.cal H_first_meeting.cal H_check_gathering H_explained_doors.cal H_groups.cal H_gather.cal H_l_no_previous
  have H_l_one_place_holds : Cal l.prog w K mg base "_law_one_place_holds" ["_law_generator_here", "_law_layout", "_law_count"] 12 (spOnePlace K) := ok_l_one_place_holds T D_l_one_place_holds H_random H_walk_lengths.cal H_is_apart.cal H_check_first_meeting H_first_meeting.cal H_groups.cal H_count_previous.cal
  exact ok_law T (fun_mk (st := s_law) l73 c73 k73) H_generator H_random H_random_house H_l_one_person_holds H_l_one_room_holds H_l_one_place_holds
end K5

open PySem PySem.W PyProof.Rows
set_option maxHeartbeats 0 in
theorem PySem.Challenge.cw_lastthrough_k31_edge_cases_holds : PySem.Challenge.rw_lastthrough_k31_edge_cases.Holds := by
  w_on; o_law; k_head; (case hw => w_witness2)
  k_fill
  refine L2.walk_ofG (l := PySem.Challenge.rw_lastthrough_k31_edge_cases) (n := 63) (k := 13) (x := "_law_script") (sp := fun w => K5.spLaw _) rfl (by decide) rfl ⟨rfl, by decide, by decide⟩ (fun w h Y => PySem.W.kIn_of Y) ?F (fun _ _ a ns hl _ hS => ⟨a, ns, rfl, hS, hl, fun _ => rfl⟩)
  case F =>
    intro w mg fa h KX G hmg
    refine' K5.all_mk KX G hmg ?a0 ?l0 ?c0 ?k0 ?a1 ?l1 ?c1 ?k1 ?a2 ?l2 ?c2 ?k2 ?a3 ?l3 ?c3 ?k3 ?a4 ?l4 ?c4 ?k4 ?a5 ?l5 ?c5 ?k5 ?a6 ?l6 ?c6 ?k6 ?a7 ?l7 ?c7 ?k7 ?a8 ?l8 ?c8 ?k8 ?a9 ?l9 ?c9 ?k9 ?a10 ?l10 ?c10 ?k10 ?a11 ?l11 ?c11 ?k11 ?a12 ?l12 ?c12 ?k12 ?a13 ?l13 ?c13 ?k13 ?a14 ?l14 ?c14 ?k14 ?a15 ?l15 ?c15 ?k15 ?a16 ?l16 ?c16 ?k16 ?a17 ?l17 ?c17 ?k17 ?a18 ?l18 ?c18 ?k18 ?a19 ?l19 ?c19 ?k19 ?a20 ?l20 ?c20 ?k20 ?a21 ?l21 ?c21 ?k21 ?a22 ?l22 ?c22 ?k22 ?a23 ?l23 ?c23 ?k23 ?a24 ?l24 ?c24 ?k24 ?a25 ?l25 ?c25 ?k25 ?a26 ?l26 ?c26 ?k26 ?a27 ?l27 ?c27 ?k27 ?a28 ?l28 ?c28 ?k28 ?a29 ?l29 ?c29 ?k29 ?a30 ?l30 ?c30 ?k30 ?a31 ?l31 ?c31 ?k31 ?a32 ?l32 ?c32 ?k32 ?a33 ?l33 ?c33 ?k33 ?a34 ?l34 ?c34 ?k34 ?a35 ?l35 ?c35 ?k35 ?a36 ?l36 ?c36 ?k36 ?a37 ?l37 ?c37 ?k37 ?a38 ?l38 ?c38 ?k38 ?a39 ?l39 ?c39 ?k39 ?a40 ?l40 ?c40 ?k40 ?a41 ?l41 ?c41 ?k41 ?a42 ?l42 ?c42 ?k42 ?a43 ?l43 ?c43 ?k43 ?a44 ?l44 ?c44 ?k44 ?a45 ?l45 ?c45 ?k45 ?a46 ?l46 ?c46 ?k46 ?a47 ?l47 ?c47 ?k47 ?a48 ?l48 ?c48 ?k48 ?a49 ?l49 ?c49 ?k49 ?a50 ?l50 ?c50 ?k50 ?a51 ?l51 ?c51 ?k51 ?a52 ?l52 ?c52 ?k52 ?a53 ?l53 ?c53 ?k53 ?a54 ?l54 ?c54 ?k54 ?a55 ?l55 ?c55 ?k55 ?a56 ?l56 ?c56 ?k56 ?a57 ?l57 ?c57 ?k57 ?a58 ?l58 ?c58 ?k58 ?a59 ?l59 ?c59 ?k59 ?a60 ?l60 ?c60 ?k60 ?a61 ?l61 ?c61 ?k61 ?a62 ?l62 ?c62 ?k62 ?a63 ?l63 ?c63 ?k63 ?a64 ?l64 ?c64 ?k64 ?a65 ?l65 ?c65 ?k65 ?a66 ?l66 ?c66 ?k66 ?a69 ?l69 ?c69 ?k69 ?a70 ?l70 ?c70 ?k70 ?a71 ?l71 ?c71 ?k71 ?a72 ?l72 ?c72 ?k72 ?a73 ?l73 ?c73 ?k73 ?cgWalk ?cpWalk ?chWalk ?coWalk ?csWalk ?ccWalk ?cnWalk ?ctWalk ?cmWalk ?ceWalk ?cqWalk ?ckWalk ?ckpWalk ?cf0_Walk ?cf1_Walk ?cf2_Walk ?cf3_Walk ?mtWalk_init ?miWalk_init ?mlWalk_init ?mcWalk_init ?mkWalk_init ?mtWalk_step ?miWalk_step ?mlWalk_step ?mcWalk_step ?mkWalk_step ?mtWalk_cross ?miWalk_cross ?mlWalk_cross ?mcWalk_cross ?mkWalk_cross ?mtWalk_lead ?miWalk_lead ?mlWalk_lead ?mcWalk_lead ?mkWalk_lead ?mtWalk_doors_to ?miWalk_doors_to ?mlWalk_doors_to ?mcWalk_doors_to ?mkWalk_doors_to ?z0 ?z1 ?z2 ?z3 ?z4 ?z5 ?z6 ?z7 ?z8 ?z9 ?z10 ?z11 ?z12 ?z13 ?z14 ?gmb ?xmb ?samb ?gamb ?ggmb ?n0_mb ?n1_mb ?imb ?tmb ?lmb ?cmb ?kmb ?pmb ?kcmb ?emb ?tymb ?hdmb ?smb ?git ?xit ?sait ?gait ?ggit ?n0_it ?iit ?tit ?lit ?cit ?kit ?pit ?kcit ?eit ?tyit ?hdit ?sit
    (case a0 => k_is)
    (case l0 => k_is)
    (case c0 => k_is)
    (case k0 => k_is)
    (case a1 => k_is)
    (case l1 => k_is)
    (case c1 => k_is)
    (case k1 => k_is)
    (case a2 => k_is)
    (case l2 => k_is)
    (case c2 => k_is)
    (case k2 => k_is)
    (case a3 => k_is)
    (case l3 => k_is)
    (case c3 => k_is)
    (case k3 => k_is)
    (case a4 => k_is)
    (case l4 => k_is)
    (case c4 => k_is)
    (case k4 => k_is)
    (case a5 => k_is)
    (case l5 => k_is)
    (case c5 => k_is)
    (case k5 => k_is)
    (case a6 => k_is)
    (case l6 => k_is)
    (case c6 => k_is)
    (case k6 => k_is)
    (case a7 => k_is)
    (case l7 => k_is)
    (case c7 => k_is)
    (case k7 => k_is)
    (case a8 => k_is)
    (case l8 => k_is)
    (case c8 => k_is)
    (case k8 => k_is)
    (case a9 => k_is)
    (case l9 => k_is)
    (case c9 => k_is)
    (case k9 => k_is)
    (case a10 => k_is)
    (case l10 => k_is)
    (case c10 => k_is)
    (case k10 => k_is)
    (case a11 => k_is)
    (case l11 => k_is)
    (case c11 => k_is)
    (case k11 => k_is)
    (case a12 => k_is)
    (case l12 => k_is)
    (case c12 => k_is)
    (case k12 => k_is)
    (case a13 => k_is)
    (case l13 => k_is)
    (case c13 => k_is)
    (case k13 => k_is)
    (case a14 => k_is)
    (case l14 => k_is)
    (case c14 => k_is)
    (case k14 => k_is)
    (case a15 => k_is)
    (case l15 => k_is)
    (case c15 => k_is)
    (case k15 => k_is)
    (case a16 => k_is)
    (case l16 => k_is)
    (case c16 => k_is)
    (case k16 => k_is)
    (case a17 => k_is)
    (case l17 => k_is)
    (case c17 => k_is)
    (case k17 => k_is)
    (case a18 => k_is)
    (case l18 => k_is)
    (case c18 => k_is)
    (case k18 => k_is)
    (case a19 => k_is)
    (case l19 => k_is)
    (case c19 => k_is)
    (case k19 => k_is)
    (case a20 => k_is)
    (case l20 => k_is)
    (case c20 => k_is)
    (case k20 => k_is)
    (case a21 => k_is)
    (case l21 => k_is)
    (case c21 => k_is)
    (case k21 => k_is)
    (case a22 => k_is)
    (case l22 => k_is)
    (case c22 => k_is)
    (case k22 => k_is)
    (case a23 => k_is)
    (case l23 => k_is)
    (case c23 => k_is)
    (case k23 => k_is)
    (case a24 => k_is)
    (case l24 => k_is)
    (case c24 => k_is)
    (case k24 => k_is)
    (case a25 => k_is)
    (case l25 => k_is)
    (case c25 => k_is)
    (case k25 => k_is)
    (case a26 => k_is)
    (case l26 => k_is)
    (case c26 => k_is)
    (case k26 => k_is)
    (case a27 => k_is)
    (case l27 => k_is)
    (case c27 => k_is)
    (case k27 => k_is)
    (case a28 => k_is)
    (case l28 => k_is)
    (case c28 => k_is)
    (case k28 => k_is)
    (case a29 => k_is)
    (case l29 => k_is)
    (case c29 => k_is)
    (case k29 => k_is)
    (case a30 => k_is)
    (case l30 => k_is)
    (case c30 => k_is)
    (case k30 => k_is)
    (case a31 => k_is)
    (case l31 => k_is)
    (case c31 => k_is)
    (case k31 => k_is)
    (case a32 => k_is)
    (case l32 => k_is)
    (case c32 => k_is)
    (case k32 => k_is)
    (case a33 => k_is)
    (case l33 => k_is)
    (case c33 => k_is)
    (case k33 => k_is)
    (case a34 => k_is)
    (case l34 => k_is)
    (case c34 => k_is)
    (case k34 => k_is)
    (case a35 => k_is)
    (case l35 => k_is)
    (case c35 => k_is)
    (case k35 => k_is)
    (case a36 => k_is)
    (case l36 => k_is)
    (case c36 => k_is)
    (case k36 => k_is)
    (case a37 => k_is)
    (case l37 => k_is)
    (case c37 => k_is)
    (case k37 => k_is)
    (case a38 => k_is)
    (case l38 => k_is)
    (case c38 => k_is)
    (case k38 => k_is)
    (case a39 => k_is)
    (case l39 => k_is)
    (case c39 => k_is)
    (case k39 => k_is)
    (case a40 => k_is)
    (case l40 => k_is)
    (case c40 => k_is)
    (case k40 => k_is)
    (case a41 => k_is)
    (case l41 => k_is)
    (case c41 => k_is)
    (case k41 => k_is)
    (case a42 => k_is)
    (case l42 => k_is)
    (case c42 => k_is)
    (case k42 => k_is)
    (case a43 => k_is)
    (case l43 => k_is)
    (case c43 => k_is)
    (case k43 => k_is)
    (case a44 => k_is)
    (case l44 => k_is)
    (case c44 => k_is)
    (case k44 => k_is)
    (case a45 => k_is)
    (case l45 => k_is)
    (case c45 => k_is)
    (case k45 => k_is)
    (case a46 => k_is)
    (case l46 => k_is)
    (case c46 => k_is)
    (case k46 => k_is)
    (case a47 => k_is)
    (case l47 => k_is)
    (case c47 => k_is)
    (case k47 => k_is)
    (case a48 => k_is)
    (case l48 => k_is)
    (case c48 => k_is)
    (case k48 => k_is)
    (case a49 => k_is)
    (case l49 => k_is)
    (case c49 => k_is)
    (case k49 => k_is)
    (case a50 => k_is)
    (case l50 => k_is)
    (case c50 => k_is)
    (case k50 => k_is)
    (case a51 => k_is)
    (case l51 => k_is)
    (case c51 => k_is)
    (case k51 => k_is)
    (case a52 => k_is)
    (case l52 => k_is)
    (case c52 => k_is)
    (case k52 => k_is)
    (case a53 => k_is)
    (case l53 => k_is)
    (case c53 => k_is)
    (case k53 => k_is)
    (case a54 => k_is)
    (case l54 => k_is)
    (case c54 => k_is)
    (case k54 => k_is)
    (case a55 => k_is)
    (case l55 => k_is)
    (case c55 => k_is)
    (case k55 => k_is)
    (case a56 => k_is)
    (case l56 => k_is)
    (case c56 => k_is)
    (case k56 => k_is)
    (case a57 => k_is)
    (case l57 => k_is)
    (case c57 => k_is)
    (case k57 => k_is)
    (case a58 => k_is)
    (case l58 => k_is)
    (case c58 => k_is)
    (case k58 => k_is)
    (case a59 => k_is)
    (case l59 => k_is)
    (case c59 => k_is)
    (case k59 => k_is)
    (case a60 => k_is)
    (case l60 => k_is)
    (case c60 => k_is)
    (case k60 => k_is)
    (case a61 => k_is)
    (case l61 => k_is)
    (case c61 => k_is)
    (case k61 => k_is)
    (case a62 => k_is)
    (case l62 => k_is)
    (case c62 => k_is)
    (case k62 => k_is)
    (case a63 => k_is)
    (case l63 => k_is)
    (case c63 => k_is)
    (case k63 => k_is)
    (case a64 => k_is)
    (case l64 => k_is)
    (case c64 => k_is)
    (case k64 => k_is)
    (case a65 => k_is)
    (case l65 => k_is)
    (case c65 => k_is)
    (case k65 => k_is)
    (case a66 => k_is)
    (case l66 => k_is)
    (case c66 => k_is)
    (case k66 => k_is)
    (case a69 => k_is)
    (case l69 => k_is)
    (case c69 => k_is)
    (case k69 => k_is)
    (case a70 => k_is)
    (case l70 => k_is)
    (case c70 => k_is)
    (case k70 => k_is)
    (case a71 => k_is)
    (case l71 => k_is)
    (case c71 => k_is)
    (case k71 => k_is)
    (case a72 => k_is)
    (case l72 => k_is)
    (case c72 => k_is)
    (case k72 => k_is)
    (case a73 => k_is)
    (case l73 => k_is)
    (case c73 => k_is)
    (case k73 => k_is)
    (case cgWalk => k_is)
    (case cpWalk => k_is)
    (case chWalk => k_is)
    (case coWalk => k_is)
    (case csWalk => k_is)
    (case ccWalk => k_is)
    (case cnWalk => first | k_is | rfl)
    (case ctWalk => first | k_is | rfl)
    (case cmWalk => first | k_is | rfl)
    (case ceWalk => first | k_is | rfl)
    (case cqWalk => k_is)
    (case ckWalk => k_is)
    (case ckpWalk => k_is)
    (case cf0_Walk => k_is)
    (case cf1_Walk => k_is)
    (case cf2_Walk => k_is)
    (case cf3_Walk => k_is)
    (case mtWalk_init => k_is)
    (case miWalk_init => k_is)
    (case mlWalk_init => k_is)
    (case mcWalk_init => k_is)
    (case mkWalk_init => k_is)
    (case mtWalk_step => k_is)
    (case miWalk_step => k_is)
    (case mlWalk_step => k_is)
    (case mcWalk_step => k_is)
    (case mkWalk_step => k_is)
    (case mtWalk_cross => k_is)
    (case miWalk_cross => k_is)
    (case mlWalk_cross => k_is)
    (case mcWalk_cross => k_is)
    (case mkWalk_cross => k_is)
    (case mtWalk_lead => k_is)
    (case miWalk_lead => k_is)
    (case mlWalk_lead => k_is)
    (case mcWalk_lead => k_is)
    (case mkWalk_lead => k_is)
    (case mtWalk_doors_to => k_is)
    (case miWalk_doors_to => k_is)
    (case mlWalk_doors_to => k_is)
    (case mcWalk_doors_to => k_is)
    (case mkWalk_doors_to => k_is)
    (case z0 => k_is)
    (case z1 => k_is)
    (case z2 => k_is)
    (case z3 => k_is)
    (case z4 => k_is)
    (case z5 => k_is)
    (case z6 => k_is)
    (case z7 => k_is)
    (case z8 => k_is)
    (case z9 => k_is)
    (case z10 => k_is)
    (case z11 => k_is)
    (case z12 => k_is)
    (case z13 => k_is)
    (case z14 => k_is)
    (case gmb => k_is)
    (case xmb => k_is)
    (case samb => k_is)
    (case gamb => k_is)
    (case ggmb => k_is)
    (case n0_mb => k_is)
    (case n1_mb => k_is)
    (case imb => k_is)
    (case tmb => k_is)
    (case lmb => k_is)
    (case cmb => k_is)
    (case kmb => k_is)
    (case pmb => k_is)
    (case kcmb => k_is)
    (case emb => k_is)
    (case tymb => k_is)
    (case hdmb => k_is)
    (case smb => first | k_is | rfl)
    (case git => k_is)
    (case xit => k_is)
    (case sait => k_is)
    (case gait => k_is)
    (case ggit => k_is)
    (case n0_it => k_is)
    (case iit => k_is)
    (case tit => k_is)
    (case lit => k_is)
    (case cit => k_is)
    (case kit => k_is)
    (case pit => k_is)
    (case kcit => k_is)
    (case eit => k_is)
    (case tyit => k_is)
    (case hdit => k_is)
    (case sit => first | k_is | rfl)

