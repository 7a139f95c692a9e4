import PyProof.Rows.All
import Wide.All
import OpenK.AllK
import Wide.FinOn
import HandS.ForMost
import HandS.Walk
import HandS.IsInst
import HandS.Conv
import HandS.Strs
import HandS.Style
import HandS.Sort
import HandS.SortRule
import HandS.Wide
import HandS.WideBits
import HandS.TupAny
import KE.GoesMore
import KE.GoesEnum
import KE.GoesNew
import HandS.ForExc
import HandS.ExcInit
import HandS.ExcField
import HandS.ExcIs
import HandS.TupSets
import HandS.Evl
import HandS.Ends
import HandS.RaiseMore
import PyProof.ReprReads
import HandS.NoneIn
import HandS.Flow
import PyProof.SumAny
import PyProof.ListOps
import PyProof.Commute
import PyProof.FactsAll.subtypes_4
import KE.KDictKeyed
import KE.KeyNested
import KE.KDictDisplayH
import HandS.More
import KE.KDictList
import HandS.SetFor
import HandS.ExcOwn
import HandS.ExcValue
import KE.SortData
import KE.KDictCopyH
import PyProof.AutoIntOps
import HandS.WordsDict
import HandS.Deep
import HandS.TupMul
import PySem.Challenge.RW_lastthrough_k80_whole_apart_states_stay
set_option Elab.async false
set_option linter.all false
set_option maxRecDepth 100000
set_option maxHeartbeats 4000000
/-! rules of our own: powers of any size, enumerate of a tuple, a pair turned by its step, a set made of a list of numbers -/
namespace L2
open PySem PySem.Spec PyProof.Rows
theorem op_powX {X : Cx} : OpR X (binaryOp .Pow) (rI (fun i j => 0 ≤ j ∧ (Builtin.Int.intBits i : Int) * j ≤ 2 ^ 27) fun i j => .int (i ^ j.toNat)) := opI fun _ _ _ _ _ _ _ hc q => pow_int hc.1 hc.2 q

/-! ### enumerate of a tuple: by what its iterator draws (GoesN) -/
def IteT (K : PySem.W.Frag) (a : Addr) : It where
  go i H := ∃ (xs : List V) (x : V), SqT K H a xs ∧ xs[i]? = some x
  yld i H v H' := ∃ T x, v = .ref T ∧ H T = none ∧ H' = upd H T (.tup [.int (i : Nat), x]) ∧ ∀ xs, SqT K H a xs → xs[i]? = some x
  stop i H := ∃ xs : List V, SqT K H a xs ∧ xs.length = i
/-- the three objects differ: their classes do -/
theorem enum_apart {h : Heap} {e it t : Addr} {i : Int} {old : Value} {j : Nat} {items : Array Value} (he : IsEnum h e it i old) (hi : h.IsTupleIter it t j) (ht : h.IsTuple t items) : e ∉ [it, t] ∧ t ≠ it := by
  obtain ⟨o, ho, hc, _⟩ := ht
  obtain ⟨oi, hoi, hci, _⟩ := hi
  have he' : h.get? e = some _ := he
  have n1 : e ≠ t := fun z => by
    rw [z, ho] at he'
    rw [← Option.some.inj he'.symm] at hc
    exact absurd (Value.type.inj hc) (by decide)
  have n2 : t ≠ it := fun z => by
    rw [z, hoi] at ho
    rw [← Option.some.inj ho, hci] at hc
    exact absurd (Value.type.inj hc) (by decide)
  have n3 : e ≠ it := fun z => by
    rw [z, hoi] at he'
    rw [← Option.some.inj he'.symm] at hci
    exact absurd (Value.type.inj hci) (by decide)
  exact ⟨by simp [n1, n3], n2⟩
/-- where the walk stands at its i-th turn -/
def EnT (a e it : Addr) (i : Nat) (h : Heap) : Prop := (∃ old, IsEnum h e it (0 + (i : Int)) old) ∧ h.IsTupleIter it a i ∧ e ≠ it
theorem EnT.lts {a e it : Addr} {i : Nat} {h : Heap} (st : EnT a e it i h) : ∀ b ∈ [e, it], b < h.objs.size := fun b hb => by
  obtain ⟨⟨old, he⟩, ⟨u, hu, _⟩, _⟩ := st
  rcases (List.mem_cons.mp hb : b = e ∨ b ∈ [it]) with z | z
  · exact z ▸ Heap.lt_size he
  · exact (List.mem_singleton.mp z) ▸ Heap.lt_size hu
theorem goesT {prog : Program} {w : World} {A : Around} {elts : List Expr} {kk : Nat} {tpos : Pos} (hh : A.handled = none) {a e it : Addr} {items : Array Value} (ne : e ≠ it) (ap : e ∉ [it, a] ∧ a ≠ it) :
    GoesN prog w A (.Tuple elts kk tpos) e [e, it, a] [e, it] items.size (fun i h0 v h => ∃ T t x, v = .ref T ∧ h0.objs.size ≤ T ∧ items[i]? = some x ∧ h.IsTuple T #[.int (0 + (i : Int)) t, x])
      (fun i h => (∃ old, IsEnum h e it (0 + (i : Int)) old) ∧ h.IsTupleIter it a i ∧ h.IsTuple a items) :=
  GoesN.enumFrom 0 (Draws.tuple (A := A.in1) hh it a ap.2 items) e ne ap.1 (by simp)
theorem turn_enumT {P : Program} {w : World} {K : PySem.W.Frag} {elts : List Expr} {kk : Nat} {tpos : Pos} (a e it : Addr) : Turn P w K (.Tuple elts kk tpos) (IteT K a) [e, it] e (EnT a e it) where
  mem := List.mem_cons_self
  obj := by
    rintro i h ⟨⟨old, he⟩, ⟨u, hu, _, hd⟩, _⟩ b hb
    rcases (List.mem_cons.mp hb : b = e ∨ b ∈ [it]) with rfl | m
    · exact ⟨_, he, by intro v z; cases z⟩
    · rw [List.mem_singleton.mp m]
      exact ⟨u, hu, by intro v z; rw [hd] at z; cases z⟩
  keep := by
    rintro i h h' ⟨⟨old, he⟩, ht, hn⟩ k
    exact ⟨⟨old, k _ List.mem_cons_self _ he⟩, ht.at (k it (List.mem_cons_of_mem _ (List.mem_singleton.mpr rfl))), hn⟩
  item := by
    rintro X rfl rfl rfl calm i pins s σ H E I hf st ⟨xs, x, hq, hx⟩
    have lts := st.lts
    obtain ⟨⟨old, he⟩, ht, hn⟩ := st
    obtain ⟨its, vals, tup, _⟩ := I.tuple hq
    obtain ⟨u, hu, ru⟩ := vals.get hx
    have hu' : its.toArray[i]? = some u := by
      rw [List.getElem?_toArray]
      exact hu
    have len : i < its.toArray.size := (Array.getElem?_eq_some_iff.mp hu').1
    refine (goesT (I.ok.hd calm) hn (enum_apart he ht tup)).goes i s _ _ len ⟨⟨old, he⟩, ht, tup⟩ fun v h' tk hY st' keep _ => ?_
    obtain ⟨T, t, y, rfl, nT, hy, hT⟩ := hY
    cases hu'.symm.trans hy
    have ok : ObjOk X.prog X.w (upd H T (.tup [.int (i : Nat), x])) h' T (.tup [.int (i : Nat), x]) :=
      ⟨by show 2 ≤ sizeLine; decide, [.int (0 + (i : Int)) t, u], .cons ⟨t, by rw [Int.zero_add]⟩ (.cons ru .nil), hT⟩
    refine ⟨.ref T, _, I.turnedNew keep hf nT ok, rfl, ⟨T, x, rfl, I.hok.fresh nT, rfl, fun ys hy => ?_⟩, ⟨st'.1, st'.2.1, hn⟩, fun b hb => ?_⟩
    · rw [I.tuple_inj hy hq]
      exact hx
    · rw [upd_ne (Nat.ne_of_lt (Nat.lt_of_lt_of_le (lts b hb) nT))]
      exact (hf b hb).1
  done := by
    rintro X rfl rfl rfl calm i pins s σ H E I hf ⟨⟨old, he⟩, ht, hn⟩ ⟨xs, hq, rfl⟩
    obtain ⟨its, vals, tup, _⟩ := I.tuple hq
    have sz : its.toArray.size = xs.length := by rw [List.size_toArray, vals.length]
    have g := goesT (prog := X.prog) (w := X.w) (elts := elts) (kk := kk) (tpos := tpos) (items := its.toArray) (I.ok.hd calm) hn (enum_apart he ht tup)
    refine g.stops s _ _ ⟨⟨old, by rw [sz]; exact he⟩, by rw [sz]; exact ht, tup⟩ fun h' tk keep _ => I.turnedL keep hf
  self := by
    rintro A i s Q E ⟨⟨old, he⟩, _⟩ q
    exact wpAny_pyIter_enum he q
/-- the object that enumerate makes over the iterator at i -/
abbrev enumOver (i : Addr) : Obj := { cls := .type "enumerate", data := .fields #[.none, .bool false, .ref i, rawInt 0, .none, .none] }
set_option maxHeartbeats 1200000 in
theorem enum_made {v : Value} {o : Obj} {C : Heap → Prop} (B : Begins v o C) : Meets (Builtin.«enumerate.__new__» ⟨[.type "enumerate", v], []⟩) (fun _ R s =>
    C s.heap ∧ R (.ok (.ret (.ref (s.heap.push o).objs.size))) { s with heap := (s.heap.push o).push (enumOver s.heap.objs.size) }) := by
  refine .of_wp fun prog w A R s ⟨c, h⟩ => ?_
  obtain ⟨hp, gs, dr, tk, os⟩ := s
  have sub := sub_enumerate
  have begun : ∀ {A' : Around} {E Q : Value → Shared → Prop}, Q (.ref hp.objs.size) ⟨hp.push o, gs, dr, tk, os⟩ → wpAny (model prog w) A' (pyIter v) Q E ⟨hp, gs, dr, tk, os⟩ := fun q => B.iter prog w _ _ _ _ c q
  wp_walk using begun
  refine wpAny_stack_any fun _ => ?_
  refine wpAny_pure ?_
  split
  · rename_i k _ _ _ _ _
    cases (k == Value.type "enumerate") <;> (wp_walk using begun; exact ⟨_, rfl, h⟩)
  · wp_walk using begun
    exact ⟨_, rfl, h⟩
theorem enum_call {prog : Program} {w : World} {A : Around} {E : Value → Shared → Prop} {s : Shared} {v : Value} {o : Obj} {C : Heap → Prop} (B : Begins v o C) (c : C s.heap) {Q : Value → Shared → Prop}
    (h : Q (.ref (s.heap.objs.size + 1)) { s with heap := (s.heap.push o).push (enumOver s.heap.objs.size) }) : wpAny (model prog w) A (call (.type "enumerate") [v]) Q E s := by
  have sz : (s.heap.push o).objs.size = s.heap.objs.size + 1 := Heap.size_push ..
  refine callType_new F.called_enumerate (by decide) (F.typeCall_enumerate_1 _) (F.newCall_enumerate_1 _)
    (fun obj => F.args_object_init_2 obj _) F.entry_enumerate_new (enum_made B) ⟨c, ?_⟩
  rw [← sz] at h
  refine ⟨?_, h⟩
  exact ⟨_, Heap.get?_push_size _ rfl, rfl⟩
def iEnumT (K : PySem.W.Frag) (ta : TA) : TI := fun σ H R => ta σ H fun vs H1 => ∃ a xs, vs = [.ref a] ∧ SqT K H1 a xs ∧ R (IteT K a) H1
theorem pi_enumT {X : Cx} {e : Expr} {ta : TA} {p pos tpos : Pos} {elts : List Expr} {kk : Nat} (hg : Gl X "enumerate") (hm : X.mg "enumerate" = none) (ha : PA X [e] ta) (one : starEach [e] X.env = [(false, eval e X.env)] := by rfl) :
    PI X (.Tuple elts kk tpos) (.Call (.Name "enumerate" p) [e] [] pos) (iEnumT X.K ta) := by
  constructor
  intro pins s σ H R I h
  refine Call_ (ld_blt I hg hm boot_enumerate (callWith_type1 (thn (ha.run pos pins s σ H _ I h) ?_) one rfl))
  rintro us s1 ⟨vs, H1, I1, r1, a, xs, rfl, hq, q⟩
  obtain ⟨u, rfl, (ru : u = .ref a)⟩ := vals1 r1
  subst ru
  obtain ⟨its, vals, tup, _⟩ := I1.tuple hq
  refine enum_call (begins_tuple a its.toArray) tup (wpAny_pyIter_enum (i := 0) (old := .none) (it := s1.heap.objs.size) ?_ ?_)
  all_goals have sz : (s1.heap.push { cls := .type "tuple_iterator", data := .fields #[.ref a, .int 0 0] }).objs.size = s1.heap.objs.size + 1 := Heap.size_push ..
  all_goals have get := Heap.get?_push_size (s1.heap.push { cls := .type "tuple_iterator", data := .fields #[.ref a, .int 0 0] }) (o := enumOver s1.heap.objs.size) rfl
  all_goals rw [sz] at get
  · exact get
  · have I2 : Inv X pins σ H1 { s1 with heap := (s1.heap.push { cls := .type "tuple_iterator", data := .fields #[.ref a, .int 0 0] }).push (enumOver s1.heap.objs.size) } :=
      I1.kept (t' := s1.toks) fun b ob k => Heap.get?_push_of_some _ (Heap.get?_push_of_some _ k)
    refine ⟨s1.heap.objs.size + 1, [s1.heap.objs.size + 1, s1.heap.objs.size], _, _, H1, rfl, I2, turn_enumT a _ s1.heap.objs.size, ⟨⟨.none, get⟩, ⟨_, Heap.get?_push_of_some _ (Heap.get?_push_size _ rfl), rfl, rfl⟩, Nat.succ_ne_self _⟩, fun b hb => ?_, q⟩
    have above : s1.heap.objs.size ≤ b := by
      rcases (List.mem_cons.mp hb : b = s1.heap.objs.size + 1 ∨ _) with rfl | m
      · exact Nat.le_succ _
      · exact Nat.le_of_eq (List.mem_singleton.mp m).symm
    exact I1.fpOk above (I1.hok.fresh above)
theorem walk_enumT {K : PySem.W.Frag} {a : Addr} {xs : List V} : Walk (IteT K a) xs.length (fun H => SqT K H a xs) (YPair (fun i => some (.int (i : Nat))) (fun i => xs[i]?)) where
  goes := fun i _ hi q => ⟨xs, _, q, List.getElem?_eq_getElem hi⟩
  stops := fun _ q => ⟨xs, q, rfl⟩
  yields := by
    rintro i H v H' _ q ⟨T, x, e1, e2, e3, e4⟩
    exact ⟨T, _, x, e1, e2, e3, rfl, e4 xs q⟩

/-! ### a pair turned by its step: t[::k], k one or minus one -/
section
variable {prog : Program} {w : World} {A : Around} {s : Shared} {E : Value → Shared → Prop}
/-- the slice object [::k] applied to n items -/
theorem applied_stp {sl : Addr} {vs : Value} {k : Int} {n : Nat} {Q : Int × Int × Nat → Shared → Prop} (hs : s.heap.IsSliceOf sl .none .none vs) (ps : IsPart vs (some k)) (h0 : ¬ (k == 0) = true)
    (h : Q ((Builtin.Slice.sliceAdjust none none k (n : Int)).1, k, Builtin.Slice.slicePlaces (Builtin.Slice.sliceAdjust none none k (n : Int)).1 (Builtin.Slice.sliceAdjust none none k (n : Int)).2 k) s) : wpAny (model prog w) A (Builtin.Slice.sliceApplied (.ref sl) (pure (n : Int))) Q E s := by
  obtain ⟨so, hso, _, dso⟩ := id hs
  delta Builtin.Slice.sliceApplied Builtin.Slice.sliceFields
  have read : ∀ {j : Nat} {y : Value} {α : Type} {f : Value → Sem α} {R : α → Shared → Prop}, #[Value.none, Value.none, vs][j]? = some y → wpAny (model prog w) A (f y) R E s → wpAny (model prog w) A (field (.ref sl) j >>= f) R E s := fun e q => wpAny_bind (wpAny_field hso dso e q)
  refine wpAny_bind (read rfl (read rfl (read rfl (wpAny_pure ?_))))
  refine wpAny_bind (HT.slicePart_ ps ?_)
  show wpAny _ _ (if (k == 0) = true then _ else _) _ _ s
  rw [if_neg h0]
  exact wpAny_bind (HT.slicePart_ .none (wpAny_bind (HT.slicePart_ .none (wpAny_bind (wpAny_pure (wpAny_pure h))))))
theorem pair_stp {t sl : Addr} {x y : Value} {vs : Value} {k : Int} {Q : Value → Shared → Prop} (ht : IsTup s.heap t #[x, y]) (hs : s.heap.IsSliceOf sl .none .none vs) (ps : IsPart vs (some k))
    (h : (k = 1 ∧ Q (.ref t) s) ∨ (k = -1 ∧ Q (.ref s.heap.objs.size) { s with heap := s.heap.push { cls := .type "tuple", data := .seq #[y, x] } })) : wpAny (model prog w) A (getItem (.ref t) (.ref sl)) Q E s := by
  have isS : s.TypeIs (.ref sl) "slice" := let ⟨so, a, b, _⟩ := id hs; ⟨so, a, b⟩
  unfold getItem
  refine wpAny_holding (wpAny_bind (wpAny_sequenceKey ht.typeIs (by decide) (wpAny_bind ?_)))
  refine wpAny_callSpecial?_slot (name := Str.ofString "__getitem__") ht.typeIs slot_tuple_getitem ?_
  refine wpAny_call_entry slot_tuple_getitem ht.typeIs entry_tuple_getitem ?_ (args_tuple_getitem _ _)
  show wpAny _ _ (Builtin.Tuple.tupleItemsOf _ >>= _) _ _ s
  refine wpAny_bind (tupleItemsOf_ ht (wpAny_bind (wpAny_typeOf isS ?_)))
  rw [if_pos (by decide)]
  rcases h with ⟨rfl, h⟩ | ⟨rfl, h⟩ <;> refine wpAny_bind (applied_stp (n := 2) hs ps (by decide) ?_)
  · show wpAny _ _ (if (((0 : Int) == 0 && (1 : Int) == 1 && (2 : Nat) == 2) = true) then _ else _) _ _ s
    rw [if_pos (by decide)]
    have whole : wpAny (model prog w) A.in1 (Builtin.Tuple.tupleIsExact (.ref t)) (fun b s' => b = true ∧ s' = s) (fun _ _ => False) s := by
      show wpAny _ _ (typeOf (.ref t) >>= _) _ _ s
      exact wpAny_bind (wpAny_typeOf ht.typeIs (wpAny_pure ⟨by decide, rfl⟩))
    refine wpAny_bind (wpAny_mono whole ?_ fun _ _ z => z.elim)
    rintro b s' ⟨rfl, rfl⟩
    rw [if_pos rfl]
    first | exact wpAny_bind (wpAny_rule (wpAny_pure ⟨_, rfl, wpAny_pure h⟩)) | exact wpAny_bind (wpAny_rule (wpAny_bind (wpAny_pure (wpAny_pure ⟨_, rfl, wpAny_pure h⟩))))
  · show wpAny _ _ (if (((1 : Int) == 0 && (-1 : Int) == 1 && (2 : Nat) == 2) = true) then _ else _) _ _ s
    rw [if_neg (by decide)]
    have sz : sizeOk (.seq #[y, x]) := by show 2 ≤ sizeLine; decide
    first
      | exact wpAny_bind (m := Builtin.Tuple.tupleExact #[y, x]) (wpAny_newObj_type (wpAny_pure ⟨_, rfl, wpAny_pure h⟩) sz)
      | exact wpAny_bind (m := Builtin.Tuple.tupleExact #[y, x]) (wpAny_newObj_type (wpAny_bind (wpAny_pure (wpAny_pure ⟨_, rfl, wpAny_pure h⟩))) sz)
      | exact wpAny_bind (wpAny_bind (m := Builtin.Tuple.tupleExact #[y, x]) (wpAny_newObj_type (wpAny_pure (wpAny_pure ⟨_, rfl, wpAny_pure h⟩)) sz))
      | exact wpAny_bind (wpAny_bind (m := Builtin.Tuple.tupleExact #[y, x]) (wpAny_newObj_type (wpAny_pure ⟨_, rfl, wpAny_pure h⟩) sz))
end
def tStp (K : PySem.W.Frag) (te tk : TE) : TE := fun σ H Q => te σ H fun x H1 => tk σ H1 fun z H2 => ∃ a u v, x = .ref a ∧ SqT K H2 a [u, v] ∧ ((z = .int 1 ∧ Q (.ref a) H2) ∨ (z = .int (-1) ∧ ∀ p, H2 p = none → Q (.ref p) (upd H2 p (.tup [v, u]))))
theorem no_part {X : Cx} {pins : List (Addr × Obj)} {σ : St} {H : Hp} {s : Shared} {Q : Value → Shared → Prop} (I : Inv X pins σ H s) (h : Q .none s) : wpAny (model X.prog X.w) X.A (evalPart none X.env) Q X.xe s := by
  rw [evalPart_none]
  exact wpAny_pure h
theorem pe_stp {X : Cx} {e st : Expr} {te tk : TE} {p3 pos : Pos} (he : PE X e te) (hk : PE X st tk) (hp : ∀ o i, subscripted (.Slice none none (some st) p3) false o i = operate [o, i] (getItem o i) := by intro _ _; rfl) : PE X (.Subscript e (.Slice none none (some st) p3) pos) (tStp X.K te tk) := by
  constructor
  intro pins s σ H Q I h
  refine Subscript_ (thn (he.run pins s σ H _ I h) ?_)
  rintro v s1 ⟨x, H1, I1, r1, q1⟩
  refine wpAny_Slice (no_part I1 (no_part I1 ?_))
  rw [evalPart_some]
  refine thn (hk.run pins s1 σ H1 _ I1 q1) ?_
  rintro vs s2 ⟨z, H2, I2, rz, a, y1, y2, rfl, hx, q⟩
  obtain rfl : v = .ref a := r1
  have I3 : Inv X pins σ H2 { s2 with heap := s2.heap.push { cls := .type "slice", data := .fields #[.none, .none, vs] } } := I2.kept (t' := s2.toks) fun b ob k => Heap.get?_push_of_some _ k
  obtain ⟨its, r, ht, _⟩ := I3.tuple hx
  obtain ⟨w1, w2, rfl, rw1, rw2⟩ := vals2 r
  have isS := Heap.IsSliceOf.new s2.heap .none .none vs
  have isT : Shared.TypeIs { s2 with heap := s2.heap.push { cls := .type "slice", data := .fields #[.none, .none, vs] } } (.ref a) "tuple" := ht.typeIs
  rcases q with ⟨rfl, q⟩ | ⟨rfl, q⟩ <;> obtain ⟨t, rfl⟩ := rz
  · exact tail_any isT slot_tuple_getitem.lookup (pair_stp ht isS (.int 1 t) (.inl ⟨rfl, .ref a, H2, I3, rfl, q⟩)) (hp _ _)
  · have laid := I3.laid (t' := s2.toks) (o := .tup [y2, y1]) (fun b ob k => Heap.get?_push_of_some { cls := .type "tuple", data := .seq #[w2, w1] } k) (Nat.le_refl _) ⟨by show 2 ≤ sizeLine; decide, [w2, w1], .cons rw2 (.cons rw1 .nil), IsTup.new _ _⟩
    exact tail_any isT slot_tuple_getitem.lookup (pair_stp ht isS (.int (-1) t) (.inr ⟨rfl, .ref _, _, laid, rfl, q _ (I3.hok.fresh (Nat.le_refl _))⟩)) (hp _ _)

/-! ### set(list of ints), k not in it -/
def rSetI (K : PySem.W.Frag) : List V → Hp → VK → Prop := fun xs H Q => ∃ (a : Addr) (ns : List Int), xs = [.ref a] ∧ SqL K H a (ns.map V.int) ∧ ns.length + 1 < scanBound ∧ ∀ p S n, H p = none → (∀ k, S k = decide (k ∈ ns)) → Q (.ref p) (upd H p (.set S n))
theorem getD_any (k : Int) : ∀ ns : List Int, (((List.range ns.length).map fun i => ns.getD i 0).any (· == k)) = decide (k ∈ ns) := by
  intro ns
  have e : ((List.range ns.length).map fun i => ns.getD i 0) = ns := by
    apply List.ext_getElem?
    intro i
    rw [List.getElem?_map]
    by_cases h : i < ns.length
    · rw [List.getElem?_range h, List.getElem?_eq_getElem h]
      simp [List.getD_eq_getElem?_getD, List.getElem?_eq_getElem h]
    · rw [List.getElem?_eq_none (by simpa using Nat.le_of_not_lt h), List.getElem?_eq_none (Nat.le_of_not_lt h)]
      rfl
  rw [e]
  by_cases h : k ∈ ns
  · rw [decide_eq_true h]
    exact List.any_eq_true.mpr ⟨k, h, beq_self_eq_true k⟩
  · rw [decide_eq_false h]
    refine List.any_eq_false.mpr fun x hx hb => h ?_
    rw [← eq_of_beq hb]
    exact hx
theorem cr_setI {X : Cx} (hc : X.calm = true) : CallR X (.type "set") (rSetI X.K) := by
  rintro pins s σ H xs us Q I r ⟨a, ns, rfl, hs, hn, q⟩
  obtain ⟨u, rfl, (ru : u = .ref a)⟩ := vals1 r
  subst ru
  obtain ⟨its, rv, hl, few⟩ := I.list hs
  have len : its.length = ns.length := by rw [← rv.length, List.length_map]
  refine call_set_list (I.ok.hd hc) hl.isList (intsAre_of rv) (by rw [List.size_toArray, len]; exact hn) fun h' tk hS hk => ?_
  have laid := I.laid (t' := tk) (o := .set _ _) (fun b o e => hk b o (Heap.lt_size e) e) (Nat.le_refl _) hS
  refine ⟨.ref _, _, laid, rfl, q _ _ _ (I.hok.fresh (Nat.le_refl _)) fun k => ?_⟩
  rw [firstMet_any, List.size_toArray, len]
  exact getD_any k ns
def rSNotI : V → V → Hp → VK → Prop := fun x y H Q => ∃ k a S n, x = V.int k ∧ y = V.ref a ∧ H a = some (.set S n) ∧ Q (.bl (!S k)) H
theorem op_notset {X : Cx} : OpR X (compareOp .NotIn) rSNotI := by
  rintro pins s σ H x y v u Q I rx ry ⟨k, a, S, n, rfl, rfl, ha, q⟩
  obtain ⟨tk, rfl⟩ := rx
  obtain rfl : u = .ref a := ry
  have at_a : s.heap.SetOf (intKind X.prog X.w) a S n := I.hok a _ ha
  exact wpAny_notInSet_of (intKind_is _ _ _ _) rfl at_a ⟨.bl (!S k), H, I.tok _, rfl, q⟩

/-! a def that the top holds; what a caller uses of it -/
def Def (K : PySem.W.Frag) (mg : Str → Option Value) (x : Str) (st : Stmt) : Prop := ∃ (f : Addr) (fd : FuncData), Fun K x x st f fd ∧ mg x = some (.ref f)
def Cal (P : Program) (w : World) (K : PySem.W.Frag) (mg : Str → Option Value) (base : Heap) (x : Str) (ps : List Str) (k : Nat) (sp : Sp) : Prop :=
  ∃ (f : Addr) (fd : FuncData), mg x = some (.ref f) ∧ PySem.W.keepIn K (.ref f) = true ∧ Binds K fd ps [] ∧ FnOk P w K mg base CX0 k f fd ps sp
theorem Def.ok {P : Program} {w : World} {K : PySem.W.Frag} {mg : Str → Option Value} {base : Heap} {x : Str} {st : Stmt} {N ps : List Str} {k : Nat} {sp : Sp} (D : Def K mg x st) (S : FnScope N ps (defScope st))
    (hb : ∀ (kV doc pm : Value) (an : Option Addr) (cdv ct : Value) (us : List Value), us.length = ps.length → bindArgs (PySem.W.fnOf x x (defArgs st) (defBody st) (defScope st) .none kV doc pm an cdv ct) ⟨us, []⟩ = pure (ps.zip us))
    (ar : ∀ vs H Q E, sp vs H Q E → vs.length = ps.length)
    (hbody : ∀ (f : Addr) (cdv : Value) (A : Around) (outer : List Env) (s : Shared) (H : Hp) (vs : List V) (Q : VK) (E : XK), Room k (A.deeper (envOfC x (defScope st) s.heap.objs.size f cdv)) → sp vs H Q E →
      ∃ t, PSs (cxOf CX0 P w K mg base N x (defScope st) f cdv A outer s H E).nox (defBody st) t ∧ t { nx := fun _ H' => Q .non H', rt := Q } (start N vs) H) : Cal P w K mg base x ps (k + 1) sp := by
  obtain ⟨f, fd, F, m⟩ := D
  exact ⟨f, fd, m, F.kp, F.binds hb, F.ok S ar fun cdv A outer s H vs Q E hr h => hbody f cdv A outer s H vs Q E hr h⟩

/-! heaps -/
/-- all but what stands at a is as it was -/
def But (a : Addr) (H H' : Hp) : Prop := ∀ b o, b ≠ a → H b = some o → H' b = some o
theorem Same.but {a : Addr} {H H' : Hp} (s : Same H H') : But a H H' := fun b o _ e => s b o e
theorem But.trans {a : Addr} {H H1 H2 : Hp} (x : But a H H1) (y : But a H1 H2) : But a H H2 := fun b o n e => y b o n (x b o n e)
theorem Same.upd {H : Hp} {p : Addr} {o : HO} (h : H p = none) : Same H (upd H p o) := fun b x e => by
  rw [upd_ne (ne_of_none e h)]
  exact e
theorem But.upd {a : Addr} {H H' : Hp} (x : But a H H') (o : HO) : But a H (upd H' a o) := fun b u n e => by
  rw [upd_ne n]
  exact x b u n e
/-- what is new at p may change: all that stood in H stands -/
theorem Same.at {H H' : Hp} {p : Addr} {o : HO} (s : Same H H') (h : H p = none) : Same H (L2.upd H' p o) := fun b x e => by
  rw [upd_ne (ne_of_none e h)]
  exact s b x e
theorem But.same {a : Addr} {H0 H H' : Hp} (s : Same H0 H) (n : H0 a = none) (b : But a H H') : Same H0 H' := fun c o e => b c o (ne_of_none e n) (s c o e)
theorem Same.tup {K : PySem.W.Frag} {H H' : Hp} {a : Addr} {xs : List V} (e : Same H H') (h : SqT K H a xs) : SqT K H' a xs := by
  rcases h with (z | ⟨o, z⟩) | z
  · exact .inl (.inl (e _ _ z))
  · exact .inl (.inr ⟨o, e a _ z⟩)
  · exact .inr z
theorem But.tup {K : PySem.W.Frag} {H H' : Hp} {g a : Addr} {xs ys : List V} (e : But g H H') (hg : H g = some (.lst ys)) (h : SqT K H a xs) : SqT K H' a xs := by
  rcases h with (z | ⟨o, z⟩) | z
  · exact .inl (.inl (e _ _ (ne_of z hg (by intro q; cases q)) z))
  · exact .inl (.inr ⟨o, e _ _ (ne_of z hg (by intro q; cases q)) z⟩)
  · exact .inr z
theorem ref_same {H H' : Hp} {a : Addr} {o : HO} (s : Same H H') (h : H a = some o) : H' a = some o := s _ _ h
end L2

/-! own rules: an error that a clause has caught and a local keeps behind the clause; its fields, isinstance of it by its own class -/
namespace L2
open PySem PySem.Spec PyProof.Rows
/-- a caught error, kept: its class, its own dict's address -/
def exk (a : Addr) (cls : Value) (d : Option Addr) : HO :=
  .ext fun g => ∃ ob fs, g.get? a = some ob ∧ Zc cls d ob ∧ ob.data = Data.fields fs
theorem exk_ok {P : Program} {w : World} {H : Hp} {g : Heap} {a : Addr} {cls : Value} {d : Option Addr} {ob : Obj} {fs : Array Value} (e : g.get? a = some ob) (z : Zc cls d ob) (f : ob.data = Data.fields fs) : ObjOk P w H g a (exk a cls d) := by
  refine ⟨⟨ob, fs, e, z, f⟩, ⟨ob, e⟩, ?_⟩
  rintro g1 g2 ⟨ob1, fs1, e1, z1, f1⟩ st
  exact ⟨ob1, fs1, st ob1 e1, z1, f1⟩
theorem exk_at {P : Program} {w : World} {H : Hp} {g : Heap} {a : Addr} {cls : Value} {d : Option Addr} (ok : HOk P w H g) (e : H a = some (exk a cls d)) : ∃ ob fs, g.get? a = some ob ∧ Zc cls d ob ∧ ob.data = Data.fields fs := by
  have z : ObjOk P w H g a (.ext _) := ok a _ e
  exact z.1
section
variable {X : Cx} {H : Hp} {s : Shared} {pins : List (Addr × Obj)} {σ : St}
/-- behind the clause the error is an object of the heap as any other -/
theorem Inv.regain {a : Addr} {cls : Value} {d : Option Addr} {ob : Obj} {fs : Array Value} (I : Inv X pins σ H s) (e : s.heap.get? a = some ob) (z : Zc cls d ob) (f : ob.data = Data.fields fs) (n0 : X.s_0.heap.get? a = none)
    (nl : a ≠ X.env.locals) (np : ∀ p ∈ X.pn ++ pins, p.1 ≠ a) (na : H a = none) : Inv X pins σ (upd H a (exk a cls d)) s where
  ok := I.ok
  os := I.os
  bare := I.bare
  base :=
    { keep := I.base.keep
      slot := I.base.slot
      free := fun b o q n x => by
        have ne : b ≠ a := fun y => by rw [y, n0] at q; cases q
        rw [upd_ne ne]
        exact I.base.free b o q n x
      there := I.base.there
      tups := fun b xs q => by
        have q1 := I.base.tups b xs q
        rw [upd_ne (ne_of_none q1 na)]
        exact q1
      frzs := fun b o u q => by
        have q1 := I.base.frzs b o u q
        rw [upd_ne (ne_of_none q1 na)]
        exact q1
      tbls := fun b ps q => by
        obtain ⟨m, q1⟩ := I.base.tbls b ps q
        rw [upd_ne (ne_of_none q1 na)]
        exact ⟨m, q1⟩ }
  loc := I.loc
  cell := I.cell
  free := by
    rw [upd_ne (Ne.symm nl)]
    exact I.free
  freeC := fun x c q => by
    have ne : c ≠ a := fun y => by
      obtain ⟨v, o, q1, q2⟩ := I.cell x c q
      rw [y, e] at q1
      cases q1
      rw [f] at q2
      exact nomatch q2
    rw [upd_ne ne]
    exact I.freeC x c q
  pin := fun p hp => by
    obtain ⟨q1, q2, q3⟩ := I.pin p hp
    rw [upd_ne (np p hp)]
    exact ⟨q1, q2, q3⟩
  hok := fun b o q => by
    by_cases y : b = a
    · subst y
      rw [upd_same] at q
      cases q
      exact exk_ok e z f
    · rw [upd_ne y] at q
      refine (I.hok b o q).stay (fun _ _ _ r => r) (fun c r => ?_) fun c xs r => ?_
      · rw [upd_ne (ne_of_none r na)]
        exact r
      · rw [upd_ne (ne_of_none r na)]
        exact r
  len := I.len
/-- the wish of the clause 'except x as n', the error kept -/
def wKeep (K : PySem.W.Frag) (c : Value) (i : Nat) (ts : Addr → Value → Option Addr → TS) (Wout : WX) (D : Ends) : WX := fun cls d σ H =>
  ∃ y, PySem.W.exmOne K cls c = some y ∧ (y = false → Wout cls d σ H) ∧ (y = true → ∀ a, H a = none →
    ts a cls d ⟨fun σ1 H1 => D.nx (σ1.set i none) (upd H1 a (exk a cls d)), fun v H1 => D.rt v (upd H1 a (exk a cls d)), fun σ1 H1 => D.bk (σ1.set i none) (upd H1 a (exk a cls d)), fun σ1 H1 => D.ct (σ1.set i none) (upd H1 a (exk a cls d))⟩ (σ.set i (some (.ref a))) H)

variable {x n : Str} {c : Value} {i : Nat} {work suite : List Stmt} {st0 : Stmt} {np q1 q2 : Pos} {tw : WX → TS} {ts : Addr → Value → Option Addr → TS} {Wout : WX}
/-- try: work / except x as n: suite, the error kept behind it -/
theorem ps_try_keep (e1 : X.stack = X.env :: X.outer) (e2 : X.env.frame = some X.env.locals) (e3 : X.ex = []) (nd : X.N.Nodup) (ni : X.N[i]? = some n) (nk : X.env.kindOf n = some .local) (nm : Names X x c) (tk : Takes X Wout)
    (W1 : ∀ (W : WX) (pn : List (Addr × Obj)) (xe : Value → Shared → Prop), Takes (X.tr pn xe) W → PassesOwn (model X.prog X.w) X.A X.env xe → PSs (X.tr pn xe) work (tw W))
    (W2 : ∀ (a : Addr) (ob : Obj) (cls : Value) (d : Option Addr) (pn : List (Addr × Obj)), Zc cls d ob → (∃ fs, ob.data = .fields fs) → PSs (X.suite a ((a, ob) :: pn)) (st0 :: suite) (ts a cls d)) :
    PS X (.Try work [.ExceptHandler (some (.Name x np)) (some n) (st0 :: suite) q1] [] [] q2) (fun D σ H => tw (wKeep X.K c i ts Wout D) D σ H) := by
  constructor
  intro pins s σ H D I h
  have ok := I.ok
  have frm : X.A.frames = some (X.env :: X.outer) := ok.frames.trans (congrArg some e1)
  apply wpAny_Try_except
  have caught : ∀ (xe0 : Value → Shared → Prop) (er : Value) (s9 : Shared), XE (X.tr (X.pn ++ pins) xe0) (wKeep X.K c i ts Wout D) er s9 →
      wpAny (model X.prog X.w) X.A (noteFrame er X.env) (fun _ s₂ => wpAny (model X.prog X.w) X.A (setFlight er none) (fun _ s₃ =>
        wpAny (model X.prog X.w) X.A (handleBy er X.env [.ExceptHandler (some (.Name x np)) (some n) (st0 :: suite) q1]) (SP X pins D) X.xe s₃) X.xe s₂) X.xe s9 := by
    rintro xe0 er s9 ⟨a, B, sI, pins1, σ1, H1, cls, d, rfl, J0, nb, up, sky, na, os, ag, y, ey, no, yes⟩
    have J1 : Inv X pins σ1 H1 sI := J0.ofTry ok
    have sky1 : Sky B (X.env :: X.outer) a (Zc cls d) X.env.locals s9.heap := e1 ▸ sky
    refine Sky.land Zc.steady frm e2 sky1 fun g3 fl3 up3 => ?_
    have J3 : Inv X pins σ1 H1 { s9 with heap := g3 } := J1.landed nb fl3.1 (up.trans up3) os ag
    obtain ⟨ob3, fs3, at3, z3, d3⟩ := fl3.there
    have off : ∀ {g : Heap} {ob : Obj} {fs : Array Value}, g.FunFrames B (X.env :: X.outer) → g.get? a = some ob → ob.data = Data.fields fs → a ∉ frs (X.env :: X.outer) := by
      intro g ob fs ff q r m
      obtain ⟨_, o1, r1, r2⟩ := ff.mem m
      rw [q] at r1
      cases r1
      exact r2 _ r
    have n1 := off fl3.2.2.1 at3 d3
    have nL : a ≠ X.env.locals := by
      intro y
      refine n1 (List.mem_filterMap.mpr ⟨X.env, List.mem_cons_self, ?_⟩)
      rw [e2, y]
    have nF : a ∉ X.fs := by
      intro m
      obtain ⟨v, m1, m2⟩ := List.mem_filterMap.mp m
      exact n1 (List.mem_filterMap.mpr ⟨v, List.mem_cons_of_mem _ m1, m2⟩)
    -- the error is new: it stood neither in the state at the raise nor at the def's start
    have nI : sI.heap.get? a = none := by
      cases q : sI.heap.get? a with
      | none => rfl
      | some o =>
        have r := nb a o q (by rw [e1]; exact n1)
        rw [fl3.2.1] at r
        cases r
    have unborn : X.s_0.heap.get? a = none := by
      cases q : X.s_0.heap.get? a with
      | none => rfl
      | some o =>
        obtain ⟨o1, r⟩ := J1.base.there a o q (by rw [e3]; simp)
        rw [nI] at r
        cases r
    have nP : ∀ p ∈ X.pn ++ pins, p.1 ≠ a := by
      intro p m y
      obtain ⟨r, _⟩ := J1.pin p m
      rw [y, nI] at r
      cases r
    have S3 := J3.suite at3 d3 na nL nF
    refine wpAny_handleBy_cons (codeAny_handlers_test ?_) (fun q => by cases q)
    have lt : PySem.W.Looks (model X.prog X.w) g3 (typeOf (.ref a)) cls := by
      intro A Q E sx k q
      refine wpAny_typeOf_ref (k _ _ at3) ?_
      rw [z3.1]
      exact q
    have lm := PySem.W.exm_one (M := model X.prog X.w) J3.kIn lt ey
    have named : ∀ {Q : Value → Shared → Prop} {E : Value → Shared → Prop}, Q c { s9 with heap := g3 } → wpAny (model X.prog X.w) (X.A.mark (some (.ref a))) (eval (.Name x np) X.env) Q E { s9 with heap := g3 } := by
      intro Q E q
      obtain ⟨m1, m2, m3⟩ := nm
      rcases m3 with m3 | ⟨m3, m4, m5⟩
      · exact ld_glob (X := X.suite a ((a, ob3) :: (X.pn ++ pins))) S3 m1 m3 q m2
      · exact ld_blt (X := X.suite a ((a, ob3) :: (X.pn ++ pins))) S3 m1 m3 m4 q m5 m2
    apply named
    apply lm.here
    cases y with
    | true =>
      apply codeAny_handlers_suite_as
      refine HandSPX.lands_againZ fl3 fun g4 fl4 up4 => ?_
      have J4 : Inv X pins σ1 H1 { s9 with heap := g4 } := J1.landed nb fl4.1 ((up.trans up3).trans up4) os ag
      obtain ⟨ob4, fs4, at4, z4, d4⟩ := fl4.there
      have S4 := J4.suite at4 d4 na nL nF
      refine store_ok (X := X.suite a ((a, ob4) :: (X.pn ++ pins))) (v := .ref a) S4 nd ni (.inl nk) rfl (fun s5 S5 => ?_) (.inr nk)
      refine wpAny_mono ((W2 a ob4 cls d (X.pn ++ pins) z4 ⟨_, d4⟩).run [] s5 _ H1 _ S5 (yes rfl a na)) (fun f s6 sp6 => ?_) (fun _ _ z => z.elim)
      have past : ∀ {σ6 : St} {H6 : Hp} {G : Shared → Prop}, Inv (X.suite a ((a, ob4) :: (X.pn ++ pins))) [] σ6 H6 s6 → (∀ s7, Inv X pins (σ6.set i none) (upd H6 a (exk a cls d)) s7 → G s7) →
          wpAny (model X.prog X.w) X.A (do bindName X.env n .none; unbindBehindTheSuite X.env n q1) (fun _ s7 => G s7) X.xe s6 := by
        intro σ6 H6 G S6 g
        obtain ⟨p1, p2, _⟩ := S6.pin (a, ob4) (List.mem_append_left _ List.mem_cons_self)
        exact gone_ok ((S6.unsuite ok).regain p1 z4 d4 unborn nL nP p2) nd ni nk g
      cases f with
      | next =>
        obtain ⟨σ6, H6, S6, r⟩ := sp6
        exact past S6 fun s7 J7 => ⟨_, _, J7, r⟩
      | brk =>
        obtain ⟨σ6, H6, S6, r⟩ := sp6
        exact past S6 fun s7 J7 => ⟨_, _, J7, r⟩
      | cont =>
        obtain ⟨σ6, H6, S6, r⟩ := sp6
        exact past S6 fun s7 J7 => ⟨_, _, J7, r⟩
      | ret u =>
        obtain ⟨v6, σ6, H6, S6, rr, r⟩ := sp6
        exact past S6 fun s7 J7 => ⟨_, _, _, J7, rr, r⟩
    | false =>
      change wpAny _ X.A (handleBy (.ref a) X.env []) _ _ _
      apply wpAny_handleBy_nil
      obtain ⟨_, _, _, ob, fs, T, oT, ts', at_e, z_e, d_e, f_e, r_e⟩ := id fl3
      unfold PySem.passOn
      refine wpAny_bind (wpAny_field at_e d_e f_e ?_)
      rw [if_neg (by simp)]
      have onward : wpAny (model X.prog X.w) X.A (setFlight (.ref a) X.env.frame) (fun _ s4 => wpAny (model X.prog X.w) X.A (throw (.ref a) : Sem Flow) (SP X pins D) X.xe s4) X.xe { s9 with heap := g3 } := by
        rw [e2]
        refine HandSPX.setFlight_upZ fl3 fun g4 hh4 up4 => wpAny_throw (tk _ _ ⟨a, B, sI, pins, σ1, H1, cls, d, rfl, J1, nb, (up.trans up3).trans up4, .inr (.inr ?_), na, os, ag, no rfl⟩)
        rw [e1]
        exact hh4
      first
        | exact wpAny_bind (wpAny_pure (wpAny_bind onward))
        | exact wpAny_bind onward
  refine wpAny_mono ((W1 (wKeep X.K c i ts Wout D) (X.pn ++ pins) _ (fun u s9 xx => caught _ u s9 xx) PassesOwn.looking).run [] s σ H D (I.toTry _) h) (fun f s9 sp => ?_) (fun e s9 he => he)
  cases f with
  | next =>
    obtain ⟨σ1, H1, J1, q⟩ := sp
    exact wpAny_execs_nil ⟨σ1, H1, J1.ofTry ok, q⟩
  | brk =>
    obtain ⟨σ1, H1, J1, q⟩ := sp
    exact ⟨σ1, H1, J1.ofTry ok, q⟩
  | cont =>
    obtain ⟨σ1, H1, J1, q⟩ := sp
    exact ⟨σ1, H1, J1.ofTry ok, q⟩
  | ret u =>
    obtain ⟨v, σ1, H1, J1, r, q⟩ := sp
    exact ⟨v, σ1, H1, J1.ofTry ok, r, q⟩

/-- err.f, err a kept error of the class at C -/
def tKf (C : Addr) (f : Str) (te : TE) : TE := fun σ H Q => te σ H fun v H1 => ∃ (a d : Addr) (fs : List (Str × V)) (y : V), v = .ref a ∧ H1 a = some (exk a (.ref C) (some d)) ∧ H1 d = some (.xd fs) ∧ fs.lookup f = some y ∧ Q y H1
theorem pe_kf {C : Addr} {e : Expr} {te : TE} {pos : Pos} {f : Str} (T : XfC X.K C) (no : PySem.W.findIn X.K (.ref C) f = some none) (he : PE X e te) (hb : attributeBase e f X.env (eval e X.env) = eval e X.env := by rfl) : PE X (.Attribute e f pos) (tKf C f te) := by
  constructor
  intro pins s σ H Q I h
  refine attr_of hb (thn (he.run pins s σ H _ I h) ?_)
  rintro u s1 ⟨v, H1, I1, rv, a, d, fs, y, rfl, ha, hd, l, q⟩
  obtain rfl : u = Value.ref a := rv
  obtain ⟨ob, vs, g1, z, g2⟩ := exk_at I1.hok ha
  have od1 : ObjOk X.prog X.w H1 s1.heap d (.xd fs) := I1.hok d _ hd
  obtain ⟨m, ns, rl⟩ := od1
  obtain ⟨od, o1, o2⟩ := lookIn_ns ns
  have rl' := rl f
  rw [l] at rl'
  obtain ⟨u, hu, ru⟩ := RelO.some_of (v := y) (o := m f) rl'
  have J : PySem.W.InstAt s1.heap a ob C (some od) := by
    refine ⟨g1, z.1, ?_, ?_⟩
    · unfold PySem.W.notCls
      rw [g2] <;> rfl
    · rw [z.2]
      exact o1
  refine HandSPX.exc_get I1.kIn J T.ga T.gg T.exC (PySem.W.findObj_own T.hdC no rfl ?_) (handed_of ru) ⟨y, H1, I1.tok _, ru, q⟩
  rw [o2, hu]

/-- isinstance(err, C), err of just that class -/
def rIsK (C : Addr) : List V → Hp → VK → Prop := fun xs H Q => ∃ (a : Addr) (d : Option Addr), xs = [.ref a, .ref C] ∧ H a = some (exk a (.ref C) d) ∧ Q (.bl true) H
theorem answers_self {a : Addr} {c : Value} : Answers (fun s => ∃ ob, s.heap.get? a = some ob ∧ ob.cls = c) (.ref a) c true := by
  intro dep tk prog w A R s hs
  obtain ⟨g, g2, d, tt, os⟩ := s
  obtain ⟨⟨ob, e, z⟩, q⟩ := hs
  have lt : PySem.W.Looks (model prog w) g (typeOf (.ref a)) c := by
    intro A Q E sx k q
    refine wpAny_typeOf_ref (k _ _ e) ?_
    rw [z]
    exact q
  (unfold Builtin.«isinstance.nested»)
  refine wpAny_bind (lt.at ?_)
  rw [if_pos (beq_self_eq_true c)]
  first
    | exact wpAny_bind (wpAny_rule (q tt))
    | exact wpAny_bind (wpAny_rule (wpAny_pure (q tt)))
    | exact wpAny_pure (q tt)
theorem call_isK {C : Addr} : CallR X (.builtin "isinstance") (rIsK C) := by
  rintro pins s σ H xs us Q I r ⟨a, d, rfl, e, q⟩
  obtain ⟨y1, y2, rfl, ry1, ry2⟩ := vals2 r
  obtain rfl : y1 = Value.ref a := ry1
  obtain rfl : y2 = Value.ref C := ry2
  obtain ⟨ob, vs, g1, z, g2⟩ := exk_at I.hok e
  exact call_isinstance (S := fun _ R s => (∃ ob, s.heap.get? a = some ob ∧ ob.cls = .ref C) ∧ ∀ tk, R (.ok (.ret (.bool true))) { s with toks := tk })
    (fun prog w A R s hs => isinstance_outer (answers_self 0 _ prog w A R s hs) (fun z => nomatch z)) ⟨⟨ob, g1, z.1⟩, fun tk => ⟨.bl true, H, I.tok tk, rfl, q⟩⟩
end
end L2

/-! own rules: defs that are called while nothing is being shown (no guard stands), so that repr of nested data is its text -/
namespace L2
open PySem PySem.Spec PyProof.Rows
/-- a def's promise, told where no guard stands -/
structure FnG (P : Program) (w : World) (K : PySem.W.Frag) (mg : Str → Option Value) (base : Heap) (k : Nat) (f : Addr) (fd : FuncData) (ps : List Str) (sp : Sp) : Prop where
  ar : ∀ vs H Q E, sp vs H Q E → vs.length = ps.length
  go : ∀ (A : Around) (outer : List Env) (s : Shared) (H : Hp) (args : Args) (us : List Value) (vs : List V) (Q : VK) (E : XK), Room k A → A.guards = some [] → Env0 P w K mg base A outer s H → BindsTo s fd args (ps.zip us) → Vals vs us → sp vs H Q E →
    codeAny (model P w) A (.call (.ref f) args) (CR CX0 outer P w H s Q E) s
section
variable {P : Program} {w : World} {K : PySem.W.Frag}
      {mg : Str → Option Value} {base : Heap}
theorem Fun.okG {x qual : Str} {st : Stmt} {f : Addr} {fd : FuncData} {N ps : List Str} {k : Nat} {sp : Sp} (F : Fun K x qual st f fd) (S : FnScope N ps (defScope st)) (ar : ∀ vs H Q E, sp vs H Q E → vs.length = ps.length)
    (body : ∀ (cdv : Value) (A : Around) (outer : List Env) (s : Shared) (H : Hp) (vs : List V) (Q : VK) (E : XK), Room k (A.deeper (envOfC qual (defScope st) s.heap.objs.size f cdv)) → (A.deeper (envOfC qual (defScope st) s.heap.objs.size f cdv)).guards = some [] → sp vs H Q E →
      ∃ t, PSs (cxOf CX0 P w K mg base N qual (defScope st) f cdv A outer s H E).nox (defBody st) t ∧ t { nx := fun _ H' => Q .non H', rt := Q } (start N vs) H) : FnG P w K mg base (k + 1) f fd ps sp := by
  obtain ⟨oc, od, kV, doc, pm, an, cdv, ct, osl, rfl, at_f, code⟩ := F.ex
  refine ⟨ar, fun A outer s H args us vs Q E room quiet e0 bind rel h => ?_⟩
  have inK : K.In s.heap := e0.mod.kin.keeps fun b o e => (e0.bs b o e).1
  have noLim : s.heap.NoLimit := e0.mod.nolimit.keeps fun b o e => (e0.bs b o e).1
  have arity := ar _ _ _ _ h
  have kinds : ∀ y ∈ ps.zip us, (defScope st).names.lookup y.1 = some .local ∨ ((defScope st).names.lookup y.1 = some .cell ∧ ((cellsFrom (s.heap.objs.size + 1) (defScope st).names []).lookup y.1).isSome = true) := by
    rintro ⟨n, v⟩ hy
    rcases S.par n (List.of_mem_zip
          hy).1 with q | q
    · exact .inl q
    · exact .inr ⟨q, PySem.W.cellsFrom_some
          _ _ _ (.inl q)⟩
  refine codeAny_call_function room.depth (inK _ _ at_f) rfl S.co S.gen rfl (PySem.W.codeRec_of inK code) (bind _ _ _ _ ?_)
  refine wpAny_newFunctionEnv_cells S.kind kinds fun env same s1 made => ?_
  subst same
  refine ⟨noLim.keeps made.toInCall.keep, codeAny_func ?_⟩
  obtain ⟨t, der, rd⟩ := body cdv A outer s H vs Q E (room.deeper _) quiet h
  have I : Inv (cxOf CX0 P w K mg base N qual (defScope st) f cdv A outer s H E) [] (start N vs) H s1 := inv_start S room.hd e0 arity rel made
  refine wpAny_mono (der.nox.run [] s1 (start N vs) H _ I rd) (fun fl s2 z => ?_) fun _ _ z => z
  cases fl with
  | ret u =>
    obtain ⟨v, σ2, H2, J, rv, q⟩ := z
    exact ⟨v, H2, J.os, J.bare, J.base, J.hok, rv, q⟩
  | next =>
    obtain ⟨σ2, H2, J, q⟩ := z
    exact ⟨.non, H2, J.os, J.bare, J.base, J.hok, rfl, q⟩
  | brk =>
    obtain ⟨_, _, _, q⟩ := z
    exact q.elim
  | cont =>
    obtain ⟨_, _, _, q⟩ := z
    exact q.elim
/-- a call of such a def -/
theorem pe_callG {X : Cx} {k : Nat} {f : Addr} {fd : FuncData} {ps : List Str} {sp : Sp} {x : Str} {p pos : Pos} {e : Expr} {es : List Expr} {t : TA} (F : FnG X.prog X.w X.K X.mg X.base k f fd ps sp) (hr : Room k X.A) (hq : X.A.guards = some []) (hg : Gl X x) (hm : X.mg x = some (.ref f)) (hk : PySem.W.keepIn X.K (.ref f) = true)
    (hb : Binds X.K fd ps []) (ha : PA X (e :: es) t) (hdb : (x == ("__debug__" : Str)) = false := by decide) (he : starEach (e :: es) X.env = (false, eval e X.env) :: starEach es X.env := by rfl) (hpl : (backTo pos (starEach es X.env)).any (·.1) = false := by rfl) :
    PE X (.Call (.Name x p) (e :: es) [] pos) (tCall sp [] E0 t) := by
  constructor
  intro pins s σ H Q I h
  refine wpAny_Call_Name_kw
        (ld_glob I hg hm ?_ hdb)
  refine PySem.W.callWith_K (h₀ := X.base) I.ok.mod.kin hk (thn (ha.run pos pins s σ H _ I h) ?_) he hpl
  rintro us s1 ⟨vs, H1, I1, r, q⟩
  refine ⟨I1.kIn, ?_⟩
  have q' : sp vs H1 Q E0 := by
    have z : sp (vs ++ []) H1 Q E0 := q
    rwa [List.append_nil] at z
  have n : us.length = ps.length := by rw [← r.length]; exact F.ar _ _ _ _ q'
  have b := hb s1 us I1.kIn (by rw [List.append_nil]; exact n)
  rw [List.append_nil] at b
  refine wpAny_call (codeAny_mono (F.go X.A X.stack s1 H1 ⟨us, []⟩ us vs Q E0 hr hq I1.env0 b r q') fun res s2 z => ?_)
  cases res with
  | error er => exact (show False from z).elim
  | ok fl =>
    cases fl with
    | ret u => exact I1.after z
    | next => exact (show False from z).elim
    | brk => exact (show False from z).elim
    | cont => exact (show False from z).elim
/-- repr of nested data -/
def rRepD (K : PySem.W.Frag) : List V → Hp → VK → Prop := fun xs H Q => ∃ (a : Addr) (d : PyData), xs = [.ref a] ∧ Dp K H (.ref a) d ∧ d.showable = true ∧ d.hasDict = false ∧ d.depth ≤ 20 ∧ d.shown.length ≤ sizeLine ∧ Q (.str d.shown) H
theorem call_reprD {X : Cx} (hq : X.A.guards = some []) (hu : X.A.units + 64 < cLine) : CallR X (.builtin "repr") (rRepD X.K) := by
  rintro pins s σ H xs us Q I r ⟨a, d, rfl, dp, sh, nd, dep, sz, q⟩
  obtain ⟨u, rfl, (ru : u = .ref a)⟩ := vals1 r
  subst ru
  obtain ⟨as, rd⟩ := Dp.reads I d _ _ dp rfl
  refine repr_of_reads' rd sh (fun z => by rw [nd] at z; cases z) hq (by omega) (fun _ _ e => e) (fun h' u tk k => ?_) sz
  exact ⟨.str d.shown, H, I.kept k, ⟨u, rfl⟩, q⟩
/-- the law's own call -/
theorem law_callG {mb : Str → Option Value} {k : Nat} {fa a : Addr} {fd : FuncData} {x : Str} {sp : Sp} {s₁ : Shared} {vs : List Value} {ns : List Int} (inK : K.In s₁.heap) (glob : s₁.heap.Ns mainGlobals mg) (bi : s₁.heap.Ns builtinsNs mb) (bb : ∀ y : Str, y ≠ "__name__" → mb y = bootBuiltins y)
    (noLim : s₁.heap.NoLimit) (noGen : s₁.gens = #[]) (list : s₁.heap.get? a = some { cls := .type "list", data := .seq vs.toArray }) (wholes : IntsAre vs ns) (size : ns.length ≤ sizeLine) (room : Room k callerA)
    (F : ∀ base : Heap, K.In base → base.Ns mainGlobals mg → FnG P w K mg base k fa fd [x] sp) (bind : ∀ (s : Shared) (u : Value), BindsTo s fd ⟨[u], []⟩ [(x, u)]) (h : ∀ H : Hp, Only H → SqL K H a (ns.map V.int) → sp [.ref a] H (fun v _ => v = .bl true) fun _ _ _ => False) :
    codeAny (model P w) callerA (.call (.ref fa) ⟨[.ref a], []⟩) (fun r s' => r = .ok (.ret
          (.bool true)) ∧ OldK s₁.heap s'.heap ∧ s'.os = s₁.os ∧ AllBare s'.gens) s₁ := by
  have items := vals_ints wholes
  have few := wholes.length
  have main : ∀ H : Hp, Only H → SqL K H a (ns.map V.int) → HOk P w H s₁.heap → (∀ b u, H b = some u → b = a ∧ K.lookup a = none) →
      codeAny (model P w) callerA (.call (.ref fa) ⟨[.ref a], []⟩) (fun r s' => r = .ok (.ret
            (.bool true)) ∧ OldK s₁.heap s'.heap ∧ s'.os = s₁.os ∧ AllBare s'.gens) s₁ := by
    intro H only seq ok just
    have under : ∀ {b : Addr} {o : Obj}, s₁.heap.get? b = some o → H b = none → (hidT s₁.heap H).get? b = some o := fun e n => hidT_get e n
    have nsp : ∀ {b : Addr} {m : Str → Option Value}, s₁.heap.Ns b m → (hidT s₁.heap H).Ns b m := by
      rintro b m ⟨o, es, ep, e, d, r⟩
      refine ⟨o, es, ep, under e ?_, d, r⟩
      cases q : H b with
      | none => rfl
      | some u =>
        obtain ⟨rfl, _⟩ := just b u q
        rw [list] at e
        cases e
        exact nomatch (show Data.seq vs.toArray _ = Data.dict es ep from d)
    have inB : K.In (hidT s₁.heap H) := by
      intro b o e
      refine under (inK b o e) ?_
      cases q : H b with
      | none => rfl
      | some u =>
        obtain ⟨rfl, z⟩ := just b u q
        rw [z] at e
        cases e
    have modu : Mod K mg (hidT s₁.heap H) := by
      obtain ⟨mc, l1, l2⟩ := noLim
      exact ⟨inB, nsp glob, ⟨mb, nsp bi, bb⟩, ⟨mc, nsp l1, l2⟩⟩
    have e0 : Env0 P w K mg (hidT s₁.heap H) callerA [] s₁ H := ⟨rfl, modu, fun b o e => of_hidT e, Nat.le_of_eq (hidT_size _ _), trivial, fun b hb => absurd (show b ∈ ([] : List Addr) from hb) List.not_mem_nil, ok, .of_eq noGen⟩
    refine codeAny_mono ((F _ inB (nsp glob)).go callerA [] s₁ H ⟨[.ref a], []⟩ [.ref a] [.ref a] _ _ room rfl e0 (bind s₁ (.ref a)) (.cons rfl .nil) (h H only seq)) fun r s2 z => ?_
    cases r with
    | error e => exact (show False from z).elim
    | ok fl =>
      cases fl with
      | next => exact (show False from z).elim
      | brk => exact (show False from z).elim
      | cont => exact (show False from z).elim
      | ret u =>
        obtain ⟨v, H2, os, bare, un, ok2, rv, (q : v = .bl true)⟩ := z
        subst q
        obtain rfl : u = Value.bool true := rv
        refine ⟨rfl, OldK.of_keep fun
              b o e => ?_, os, bare⟩
        cases q : H b with
        | none => exact un.keep b o e q (by simp [frs]) (by simp)
        | some u =>
          rcases only b with y | ⟨ob, xs, y⟩
          · rw [q] at y
            cases y
          · have y2 := un.frzs b ob _ y
            obtain ⟨e1, _⟩ := ok b _ y
            obtain ⟨e2, _⟩ := ok2 b _ y2
            rw [e] at e1
            cases e1
            exact e2
  cases hk : K.lookup a with
  | some o =>
    have e := inK a o hk
    rw [list] at e
    cases e
    refine main (fun _ => none) (fun _ => .inl rfl) (.inr ⟨_, vs.toArray, _, hk, rfl, rfl, rfl, ?_, by simpa using items⟩) (fun b u z => nomatch (show (none : Option HO) = some u from z)) (fun b u z => nomatch (show (none : Option HO) = some u from z))
    rw [List.size_toArray, few]
    exact size
  | none =>
    have one : ∀ b u, (if b = a then some (HO.frz { cls := .type "list", data := .seq vs.toArray } (.lst (ns.map V.int))) else none) = some u → b = a ∧ u = HO.frz { cls := .type "list", data := .seq vs.toArray } (.lst (ns.map V.int)) := by
      intro b u z
      by_cases y : b = a
      · rw [if_pos y] at z
        exact ⟨y, (Option.some.inj z).symm⟩
      · rw [if_neg y] at z
        cases z
    refine main (fun b => if b = a then some (.frz { cls := .type "list", data := .seq vs.toArray } (.lst (ns.map V.int))) else none) (fun b => ?_) (.inl (.inr ⟨_, if_pos rfl⟩)) (fun b u z => ?_) (fun b u z => ⟨(one b u z).1, hk⟩)
    · by_cases y : b = a
      · exact .inr ⟨_, _, if_pos y⟩
      · exact .inl (if_neg y)
    · obtain ⟨rfl, rfl⟩ := one b u z
      exact ⟨list, by rw [List.length_map]; exact size, vs, _, items, list⟩
end
/-- the head's goal from such a promise -/
theorem walk_ofG {l : PySem.W.OpenLaw} {n k : Nat} {q : Program} {loose : List Str} {XP : (Str → Option Value) → Heap → Prop} {YP : World → Heap → Prop} {d : DefRec} {K : Params → PySem.W.Frag} {sp : World → Sp} {x : Str} (most : l.most = some n) (fits : n ≤ sizeLine) (noDef : d.params.defaults = []) (room : Room k callerA)
    (inK : ∀ (w : World) (h : Heap), YP w h → (K w.params).In h)
    (F : ∀ (w : World) (mg : Str → Option Value) (fa : Addr) (h : Heap), (K
          w.params).In h → h.Ns mainGlobals mg → mg d.name = some (.ref fa) →
      ∃ fd : FuncData, (∀ (s : Shared) (u : Value), BindsTo s fd ⟨[u], []⟩ [(x, u)]) ∧ ∀ base : Heap, (K w.params).In base → base.Ns mainGlobals mg → FnG l.prog w (K w.params) mg base k fa fd [x] (sp w))
    (h : ∀ (w : World) (H : Hp) (a : Addr) (ns : List Int), ns.length ≤ n → Only H → SqL (K w.params) H a (ns.map V.int) → sp w [.ref a] H (fun v _ => v = .bl true) fun _ _ _ => False) :
    PySem.W.WalkO q loose XP YP l.row.toRowW
          d [] (fun f vs => PySem.call f vs) := by
  refine Att.attach_call most noDef fun w s₀ s₁ mg mb fa o pm cd doc a vs ns G Y _ _ _ name list wholes len gens => ?_
  have KX := inK w _ Y
  obtain ⟨fd, bind, made⟩ := F w mg fa _ KX G.T.g name
  exact law_callG KX G.T.g G.T.b G.T.builtins G.T.nolimit gens list wholes (Nat.le_trans len fits) room made bind fun H only seq => h w H a ns len only seq
end L2

/-! trees: the mathematics -/
namespace K5
/-- doors es, each (parent, child), children all different; a bridge each; all connected -/
structure Tr0 (n : Nat) (es : List (Nat × Nat)) : Prop where
  len : es.length + 1 = n
  lt : ∀ e ∈ es, e.1 < n ∧ e.2 < n
  nd : (es.map Prod.snd).Nodup
  side : ∃ side : Nat → Nat → Bool, (∀ e ∈ es, side e.2 e.1 ≠ side e.2 e.2) ∧ ∀ e ∈ es, ∀ f ∈ es, e.2 ≠ f.2 → side e.2 f.1 = side e.2 f.2
  conn : ∀ S : Nat → Prop, (∀ e ∈ es, S e.1 ↔ S e.2) → ∀ x y, x < n → y < n → S x → S y
theorem Tr0.one : Tr0 1 [] where
  len := rfl
  lt := fun _ h => nomatch h
  nd := List.nodup_nil
  side := ⟨fun _ _ => true, fun _ h => (nomatch h), fun _ h => (nomatch h)⟩
  conn := fun S _ x y hx hy h => (show x = y by omega) ▸ h
theorem Tr0.grow {n : Nat} {es : List (Nat × Nat)} (T : Tr0 n es) (o : Nat) (ho : o < n) : Tr0 (n + 1) (es ++ [(o, n)]) := by
  obtain ⟨len, lt, nd, ⟨side, s1, s2⟩, conn⟩ := T
  have hn : ∀ e ∈ es, e.2 ≠ n := fun e h => by have := (lt e h).2; omega
  have hn1 : ∀ e ∈ es, e.1 ≠ n := fun e h => by have := (lt e h).1; omega
  refine ⟨by simp; omega, fun e h => ?_, ?_, ⟨fun c x => if c = n then decide (x = n) else if x = n then side c o else side c x, fun e h => ?_, fun e h f hf hne => ?_⟩, fun S hS x y hx hy h => ?_⟩
  · rcases List.mem_append.mp h with h | h
    · have := lt e h; omega
    · rw [List.mem_singleton.mp h]; exact ⟨Nat.lt_succ_of_lt ho, Nat.lt_succ_self _⟩
  · rw [List.map_append]
    refine List.nodup_append.mpr ⟨nd, by simp, fun a ha b hb => ?_⟩
    obtain ⟨e, he, rfl⟩ := List.mem_map.mp ha
    simp at hb
    rw [hb]
    exact hn e he
  · rcases List.mem_append.mp h with h | h
    · simp only [if_neg (hn e h), if_neg (hn1 e h)]
      exact s1 e h
    · rw [List.mem_singleton.mp h]
      simp only [if_pos rfl]
      rw [decide_eq_false (show ¬ o = n by omega)]
      simp
  · rcases List.mem_append.mp h with h | h
    · simp only [if_neg (hn e h)]
      rcases List.mem_append.mp hf with hf | hf
      · simp only [if_neg (hn f hf), if_neg (hn1 f hf)]
        exact s2 e h f hf hne
      · rw [List.mem_singleton.mp hf]
        simp only [if_neg (show ¬ o = n by omega), if_true]
    · rcases List.mem_append.mp hf with hf | hf
      · rw [List.mem_singleton.mp h]
        simp only [if_true]
        rw [decide_eq_false (hn f hf), decide_eq_false (hn1 f hf)]
      · rw [List.mem_singleton.mp h, List.mem_singleton.mp hf] at hne
        exact absurd rfl hne
  · have h0 : ∀ e ∈ es, S e.1 ↔ S e.2 := fun e he => hS e (List.mem_append.mpr (.inl he))
    have h1 : S o ↔ S n := hS (o, n) (List.mem_append.mpr (.inr (List.mem_singleton.mpr rfl)))
    by_cases ex : x = n
    · subst ex
      have so : S o := h1.mpr h
      by_cases ey : y = x
      · exact ey ▸ h
      · exact conn S h0 o y ho (by omega) so
    · have sx : S o := conn S h0 x o (by omega) ho h
      by_cases ey : y = n
      · exact ey ▸ h1.mp sx
      · exact conn S h0 x y (by omega) (by omega) h
theorem Tr0.perm {n : Nat} {es fs : List (Nat × Nat)} (T : Tr0 n es) (p : fs.Perm es) : Tr0 n fs := by
  obtain ⟨len, lt, nd, ⟨side, s1, s2⟩, conn⟩ := T
  exact ⟨by rw [p.length_eq]; exact len, fun e h => lt e (p.mem_iff.mp h), (p.map Prod.snd).nodup_iff.mpr nd,
    ⟨side, fun e h => s1 e (p.mem_iff.mp h), fun e h f hf => s2 e (p.mem_iff.mp h) f (p.mem_iff.mp hf)⟩,
    fun S hS => conn S fun e h => hS e (p.mem_iff.mpr h)⟩
/-- renamed by a list of names that is a rearrangement of 0 .. n - 1 -/
theorem Tr0.names {n : Nat} {es : List (Nat × Nat)} (T : Tr0 n es) (f g : Nat → Nat) (h1 : ∀ x, x < n → f x < n) (h2 : ∀ x, x < n → g (f x) = x) (h3 : ∀ y, y < n → g y < n ∧ f (g y) = y) :
    Tr0 n (es.map fun e => (f e.1, f e.2)) := by
  obtain ⟨len, lt, nd, ⟨side, s1, s2⟩, conn⟩ := T
  refine ⟨by rw [List.length_map]; exact len, fun e h => ?_, ?_, ⟨fun c x => side (g c) (g x), fun e h => ?_, fun e h e' h' hne => ?_⟩, fun S hS x y hx hy h => ?_⟩
  · obtain ⟨a, ha, rfl⟩ := List.mem_map.mp h
    exact ⟨h1 _ (lt a ha).1, h1 _ (lt a ha).2⟩
  · rw [List.map_map]
    have q : ∀ l : List (Nat × Nat), (∀ e ∈ l, e.2 < n) → (l.map Prod.snd).Nodup → (l.map (Prod.snd ∘ fun e => (f e.1, f e.2))).Nodup := by
      intro l
      induction l with
      | nil => intro _ _; exact List.nodup_nil
      | cons a r ih =>
        intro hl hd
        rw [List.map_cons] at hd ⊢
        obtain ⟨d1, d2⟩ := List.nodup_cons.mp hd
        refine List.nodup_cons.mpr ⟨fun m => d1 ?_, ih (fun e he => hl e (List.mem_cons_of_mem _ he)) d2⟩
        obtain ⟨b, hb, e⟩ := List.mem_map.mp m
        have e' : f b.2 = f a.2 := e
        have : b.2 = a.2 := by rw [← h2 b.2 (hl b (List.mem_cons_of_mem _ hb)), e', h2 a.2 (hl a List.mem_cons_self)]
        exact List.mem_map.mpr ⟨b, hb, this⟩
    exact q es (fun e he => (lt e he).2) nd
  · obtain ⟨a, ha, rfl⟩ := List.mem_map.mp h
    show side (g (f a.2)) (g (f a.1)) ≠ side (g (f a.2)) (g (f a.2))
    rw [h2 _ (lt a ha).1, h2 _ (lt a ha).2]
    exact s1 a ha
  · obtain ⟨a, ha, rfl⟩ := List.mem_map.mp h
    obtain ⟨b, hb, rfl⟩ := List.mem_map.mp h'
    show side (g (f a.2)) (g (f b.1)) = side (g (f a.2)) (g (f b.2))
    rw [h2 _ (lt a ha).2, h2 _ (lt b hb).1, h2 _ (lt b hb).2]
    exact s2 a ha b hb fun e => hne (by show f a.2 = f b.2; rw [e])
  · have q := conn (fun z => S (f z)) (fun e he => hS _ (List.mem_map.mpr ⟨e, he, rfl⟩)) (g x) (g y) (h3 x hx).1 (h3 y hy).1 (by show S (f (g x)); rw [(h3 x hx).2]; exact h)
    have q' : S (f (g y)) := q
    rw [(h3 y hy).2] at q'
    exact q'

/-- a house of n rooms that is a tree, its doors by their numbers, the ends in either order -/
structure Tree (n : Nat) (ds : List (Nat × Nat)) : Prop where
  len : ds.length + 1 = n
  lt : ∀ e ∈ ds, e.1 < n ∧ e.2 < n
  side : ∃ side : Nat → Nat → Bool, (∀ d e, ds[d]? = some e → side d e.1 ≠ side d e.2) ∧ ∀ c d e, ds[d]? = some e → c ≠ d → side c e.1 = side c e.2
  conn : ∀ S : Nat → Prop, (∀ e ∈ ds, S e.1 ↔ S e.2) → ∀ x y, x < n → y < n → S x → S y
/-- pointwise the same up to the order of the ends -/
inductive Flip : List (Nat × Nat) → List (Nat × Nat) → Prop
  | nil : Flip [] []
  | same {e es fs} (h : Flip es fs) : Flip (e :: es) (e :: fs)
  | turn {a b es fs} (h : Flip es fs) : Flip ((a, b) :: es) ((b, a) :: fs)
theorem Flip.len : ∀ {es fs}, Flip es fs → es.length = fs.length
  | _, _, .nil => rfl
  | _, _, .same h => by rw [List.length_cons, List.length_cons, h.len]
  | _, _, .turn h => by rw [List.length_cons, List.length_cons, h.len]
theorem Flip.get : ∀ {es fs}, Flip es fs → ∀ {d : Nat} {f : Nat × Nat}, fs[d]? = some f → ∃ e, es[d]? = some e ∧ (f = e ∨ f = (e.2, e.1))
  | _, _, .nil, d, f, h => by simp at h
  | _, _, .same h, 0, f, e => ⟨_, rfl, .inl (Option.some.inj e).symm⟩
  | _, _, .turn h, 0, f, e => ⟨_, rfl, .inr (Option.some.inj e).symm⟩
  | _, _, .same h, d + 1, f, e => h.get (d := d) e
  | _, _, .turn h, d + 1, f, e => h.get (d := d) e
theorem Flip.get' : ∀ {es fs}, Flip es fs → ∀ {d : Nat} {e : Nat × Nat}, es[d]? = some e → ∃ f, fs[d]? = some f ∧ (f = e ∨ f = (e.2, e.1))
  | _, _, .nil, d, f, h => by simp at h
  | _, _, .same h, 0, f, e => ⟨_, rfl, .inl (Option.some.inj e)⟩
  | _, _, .turn h, 0, f, e => ⟨_, rfl, .inr (by rw [← Option.some.inj e])⟩
  | _, _, .same h, d + 1, f, e => h.get' (d := d) e
  | _, _, .turn h, d + 1, f, e => h.get' (d := d) e
theorem Flip.snoc : ∀ {es fs} (e : Nat × Nat), Flip es fs → Flip (es ++ [e]) (fs ++ [e])
  | _, _, _, .nil => .same .nil
  | _, _, e, .same h => .same (h.snoc e)
  | _, _, e, .turn h => .turn (h.snoc e)
theorem Flip.snocT : ∀ {es fs} (a b : Nat), Flip es fs → Flip (es ++ [(a, b)]) (fs ++ [(b, a)])
  | _, _, _, _, .nil => .turn .nil
  | _, _, a, b, .same h => .same (h.snocT a b)
  | _, _, a, b, .turn h => .turn (h.snocT a b)
theorem Flip.refl : ∀ es, Flip es es
  | [] => .nil
  | _ :: r => .same (Flip.refl r)
theorem Tr0.tree {n : Nat} {es ds : List (Nat × Nat)} (T : Tr0 n es) (F : Flip es ds) : Tree n ds := by
  obtain ⟨len, lt, nd, ⟨side, s1, s2⟩, conn⟩ := T
  refine ⟨by rw [← F.len]; exact len, fun f h => ?_, ⟨fun d x => match es[d]? with | some e => side e.2 x | none => true, fun d f h => ?_, fun c d f h hne => ?_⟩, fun S hS => conn S fun e he => ?_⟩
  · obtain ⟨d, hd⟩ := List.mem_iff_getElem?.mp h
    obtain ⟨e, he, q⟩ := F.get hd
    have := lt e (List.mem_of_getElem? he)
    rcases q with q | q <;> subst q
    · exact this
    · exact ⟨this.2, this.1⟩
  · obtain ⟨e, he, q⟩ := F.get h
    have := s1 e (List.mem_of_getElem? he)
    simp only [he]
    rcases q with q | q <;> subst q
    · exact this
    · exact this.symm
  · obtain ⟨e, he, q⟩ := F.get h
    cases hc : es[c]? with
    | none => simp only [hc]
    | some e' =>
      simp only [hc]
      have hne2 : e'.2 ≠ e.2 := fun z => by
        apply hne
        obtain ⟨hd, hed⟩ := List.getElem?_eq_some_iff.mp he
        obtain ⟨hc', hec⟩ := List.getElem?_eq_some_iff.mp hc
        exact (List.getElem_inj (xs := es.map Prod.snd) (h₀ := by simpa using hc') (h₁ := by simpa using hd) nd).mp (by simp [hed, hec, z])
      have := s2 e' (List.mem_of_getElem? hc) e (List.mem_of_getElem? he) hne2
      rcases q with q | q <;> subst q
      · exact this
      · exact this.symm
  · obtain ⟨d, hd⟩ := List.mem_iff_getElem?.mp he
    obtain ⟨f, hf, q⟩ := F.get' hd
    have := hS f (List.mem_of_getElem? hf)
    rcases q with q | q <;> subst q
    · exact this
    · exact this.symm

/-- door d joins x and y -/
def Joins (ds : List (Nat × Nat)) (d x y : Nat) : Prop := ds[d]? = some (x, y) ∨ ds[d]? = some (y, x)
theorem Joins.symm {ds d x y} (j : Joins ds d x y) : Joins ds d y x := Or.symm j
theorem Joins.other {ds d x y z} (j : Joins ds d x y) (k : Joins ds d x z) (hxy : x ≠ y) : y = z := by
  rcases j with j | j <;> rcases k with k | k <;> rw [j] at k <;> cases k
  · rfl
  · exact absurd rfl hxy
  · exact absurd rfl hxy
  · rfl
/-- a way by the doors of the list -/
inductive Walk (ds : List (Nat × Nat)) : Nat → List Nat → Nat → Prop
  | nil (a) : Walk ds a [] a
  | cons {a c b d p} (j : Joins ds d a c) (w : Walk ds c p b) : Walk ds a (d :: p) b
theorem Walk.snoc {ds a p b d c} (w : Walk ds a p b) (j : Joins ds d b c) : Walk ds a (p ++ [d]) c := by
  induction w with
  | nil a => exact .cons j (.nil _)
  | cons j' w ih => exact .cons j' (ih j)
theorem Walk.app {ds a p b q c} (w : Walk ds a p b) (v : Walk ds b q c) : Walk ds a (p ++ q) c := by
  induction w with
  | nil a => exact v
  | cons j' w ih => exact .cons j' (ih v)
theorem Walk.rev {ds a p b} (w : Walk ds a p b) : Walk ds b p.reverse a := by
  induction w with
  | nil a => exact .nil _
  | cons j w ih =>
    rw [List.reverse_cons]
    exact ih.snoc j.symm
theorem Walk.split {ds} {e : Nat} : ∀ {a p b}, Walk ds a p b → e ∈ p → ∃ p1 p2 x y, p = p1 ++ e :: p2 ∧ Walk ds a p1 x ∧ Joins ds e x y ∧ Walk ds y p2 b
  | _, _, _, .nil a, h => by cases h
  | a, d :: p, b, .cons j w, h => by
    by_cases q : e = d
    · subst q
      exact ⟨[], p, a, _, rfl, .nil _, j, w⟩
    · have h' : e ∈ p := (List.mem_cons.mp h).resolve_left q
      obtain ⟨p1, p2, x, y, e1, w1, j1, w2⟩ := Walk.split w h'
      exact ⟨d :: p1, p2, x, y, by rw [e1]; rfl, .cons j w1, j1, w2⟩
section
variable {n : Nat} {ds : List (Nat × Nat)}
theorem side_join {side : Nat → Nat → Bool} (s1 : ∀ d e, ds[d]? = some e → side d e.1 ≠ side d e.2) {d x y : Nat} (j : Joins ds d x y) : side d x ≠ side d y := by
  rcases j with j | j
  · exact s1 _ _ j
  · exact (s1 _ _ j).symm
theorem side_other {side : Nat → Nat → Bool} (s2 : ∀ c d e, ds[d]? = some e → c ≠ d → side c e.1 = side c e.2) {c d x y : Nat} (j : Joins ds d x y) (h : c ≠ d) : side c x = side c y := by
  rcases j with j | j
  · exact s2 _ _ _ j h
  · exact (s2 _ _ _ j h).symm
theorem side_walk {side : Nat → Nat → Bool} (s2 : ∀ c d e, ds[d]? = some e → c ≠ d → side c e.1 = side c e.2) {c : Nat} : ∀ {a p b}, Walk ds a p b → c ∉ p → side c a = side c b
  | _, _, _, .nil a, _ => rfl
  | _, _, _, .cons j w, h => by
    rw [side_other s2 j fun e => h (by rw [e]; exact List.mem_cons_self)]
    exact side_walk s2 w fun m => h (List.mem_cons_of_mem _ m)
theorem side_use {side : Nat → Nat → Bool} (s1 : ∀ d e, ds[d]? = some e → side d e.1 ≠ side d e.2) (s2 : ∀ c d e, ds[d]? = some e → c ≠ d → side c e.1 = side c e.2) {c : Nat} {a p b} (w : Walk ds a p b) (nd : p.Nodup) (h : c ∈ p) : side c a ≠ side c b := by
  obtain ⟨p1, p2, x, y, rfl, w1, j, w2⟩ := w.split h
  obtain ⟨n1, n2, n3⟩ := List.nodup_append.mp nd
  have c1 : c ∉ p1 := fun m => n3 c m c List.mem_cons_self rfl
  have c2 : c ∉ p2 := (List.nodup_cons.mp n2).1
  rw [side_walk s2 w1 c1, ← side_walk s2 w2 c2]
  exact side_join s1 j
theorem way_unique (T : Tree n ds) : ∀ {p q a b}, Walk ds a p b → Walk ds a q b → p.Nodup → q.Nodup → p = q := by
  obtain ⟨side, s1, s2⟩ := T.side
  intro p
  induction p with
  | nil =>
    intro q a b w v np nq
    cases w
    cases v with
    | nil => rfl
    | cons j v => exact absurd rfl (side_use s1 s2 (.cons j v) nq List.mem_cons_self)
  | cons d p ih =>
    intro q a b w v np nq
    have hd := side_use s1 s2 w np List.mem_cons_self
    cases w with
    | @cons _ c _ _ _ j w =>
    cases v with
    | nil => exact absurd rfl hd
    | @cons _ c' _ e q j' v =>
      by_cases hde : d = e
      · subst hde
        have hac : a ≠ c := fun z => side_join s1 j (by rw [z])
        have := j.other j' hac
        subst this
        rw [ih w v (List.nodup_cons.mp np).2 (List.nodup_cons.mp nq).2]
      · exfalso
        have he := side_use s1 s2 (.cons j' v) nq List.mem_cons_self
        have hep : e ∈ p := by
          refine Classical.byContradiction fun hn => he ?_
          rw [side_other s2 j (Ne.symm hde)]
          exact side_walk s2 w hn
        obtain ⟨p1, p2, x, y, rfl, w1, j1, w2⟩ := w.split hep
        have n0 := List.nodup_cons.mp np
        obtain ⟨n1, n2, n3⟩ := List.nodup_append.mp n0.2
        have c1 : e ∉ p1 := fun m => n3 e m e List.mem_cons_self rfl
        have hx : side e x = side e a := by
          rw [← side_walk s2 w1 c1, ← side_other s2 j (Ne.symm hde)]
        have hxa : x = a := by
          rcases j1 with k | k <;> rcases j' with k' | k' <;> rw [k] at k' <;> cases k'
          · rfl
          · exact absurd hx.symm (s1 _ _ k).symm
          · exact absurd hx.symm (s1 _ _ k)
          · rfl
        subst hxa
        have c2 : d ∉ p1 := fun m => n0.1 (List.mem_append.mpr (.inl m))
        exact side_join s1 j (side_walk s2 w1 c2).symm
theorem way_uses (T : Tree n ds) {side : Nat → Nat → Bool} (s1 : ∀ d e, ds[d]? = some e → side d e.1 ≠ side d e.2) (s2 : ∀ c d e, ds[d]? = some e → c ≠ d → side c e.1 = side c e.2) {a p b d} (w : Walk ds a p b) (np : p.Nodup) : d ∈ p ↔ side d a ≠ side d b :=
  ⟨side_use s1 s2 w np, fun h => Classical.byContradiction fun hn => h (side_walk s2 w hn)⟩
theorem Joins.lt (T : Tree n ds) {d x y} (j : Joins ds d x y) : x < n ∧ y < n ∧ d + 1 < n ∧ x ≠ y := by
  obtain ⟨side, s1, s2⟩ := T.side
  have ne : x ≠ y := fun z => side_join s1 j (by rw [z])
  have hl := T.len
  rcases j with j | j
  · have := T.lt _ (List.mem_of_getElem? j)
    have h := (List.getElem?_eq_some_iff.mp j).1
    exact ⟨this.1, this.2, by omega, ne⟩
  · have := T.lt _ (List.mem_of_getElem? j)
    have h := (List.getElem?_eq_some_iff.mp j).1
    exact ⟨this.2, this.1, by omega, ne⟩
end
end K5

namespace K5
structure Uf (n : Nat) (L : List Nat) (rank : Nat → Nat) (R : Nat → Nat → Prop) : Prop where
  len : L.length = n
  at_ : ∀ x y, L[x]? = some y → y < n ∧ R x y ∧ (y ≠ x → rank y < rank x)
theorem get_lt {α : Type} {L : List α} {x : Nat} {y : α} (h : L[x]? = some y) : x < L.length := (List.getElem?_eq_some_iff.mp h).1
theorem get_set {α : Type} {L : List α} {x w : Nat} {z v : α} (h : (L.set x z)[w]? = some v) : (w = x ∧ v = z) ∨ (w ≠ x ∧ L[w]? = some v) := by
  rw [List.getElem?_set] at h
  by_cases e : x = w
  · rw [if_pos e] at h
    split at h
    · exact .inl ⟨e.symm, (Option.some.inj h).symm⟩
    · cases h
  · rw [if_neg e] at h
    exact .inr ⟨fun q => e q.symm, h⟩
theorem Uf.half {n L rank R} (u : Uf n L rank R) (tr : ∀ a b c, R a b → R b c → R a c) {x y z : Nat} (hx : L[x]? = some y) (hy : L[y]? = some z) : Uf n (L.set x z) rank R := by
  refine ⟨by rw [List.length_set]; exact u.len, fun w v h => ?_⟩
  rcases get_set h with ⟨rfl, rfl⟩ | ⟨_, h⟩
  · obtain ⟨a1, a2, a3⟩ := u.at_ _ _ hx
    obtain ⟨b1, b2, b3⟩ := u.at_ _ _ hy
    refine ⟨b1, tr _ _ _ a2 b2, fun ne => ?_⟩
    by_cases e : y = w
    · subst e
      rw [hx] at hy
      exact absurd (Option.some.inj hy).symm ne
    · have := a3 e
      by_cases e2 : v = y
      · subst e2; exact this
      · exact Nat.lt_trans (b3 e2) this
  · exact u.at_ _ _ h
theorem Uf.less {n L rank R} (u : Uf n L rank R) {x y z : Nat} (hx : L[x]? = some y) (hy : L[y]? = some z) (ne : y ≠ x) : rank z < rank x := by
  have h1 := (u.at_ _ _ hx).2.2 ne
  by_cases e : z = y
  · subst e; exact h1
  · exact Nat.lt_trans ((u.at_ _ _ hy).2.2 e) h1
theorem Uf.range (n : Nat) (R : Nat → Nat → Prop) (rf : ∀ a, R a a) : Uf n (List.range n) (fun _ => 0) R := by
  refine ⟨List.length_range, fun x y h => ?_⟩
  have hx : x < n := by simpa using get_lt h
  rw [List.getElem?_range hx] at h
  have e : x = y := Option.some.inj h
  subst e
  exact ⟨hx, rf _, fun z => absurd rfl z⟩
/-- alike for all doors from k on -/
def Rk (side : Nat → Nat → Bool) (k : Nat) (x y : Nat) : Prop := ∀ d, k ≤ d → side d x = side d y
theorem Rk.tr {side k} : ∀ a b c, Rk side k a b → Rk side k b c → Rk side k a c := fun a b c h1 h2 d hd => (h1 d hd).trans (h2 d hd)
theorem Rk.rf {side k} : ∀ a, Rk side k a a := fun a d _ => rfl
theorem Uf.union {n L rank side k} {ds : List (Nat × Nat)} (u : Uf n L rank (Rk side k)) (s1 : ∀ d e, ds[d]? = some e → side d e.1 ≠ side d e.2) (s2 : ∀ c d e, ds[d]? = some e → c ≠ d → side c e.1 = side c e.2)
    {x y ra rb : Nat} (hd : ds[k]? = some (x, y)) (ha : Rk side k x ra) (hb : Rk side k y rb) (hra : L[ra]? = some ra) (hrb : L[rb]? = some rb) :
    Uf n (L.set ra rb) (fun z => rank z + if side k z = side k x then rank rb + 1 else 0) (Rk side (k + 1)) := by
  refine ⟨by rw [List.length_set]; exact u.len, fun w v h => ?_⟩
  have hne : side k x ≠ side k y := s1 _ _ hd
  rcases get_set h with ⟨rfl, rfl⟩ | ⟨_, h⟩
  · refine ⟨(u.at_ _ _ hrb).1, fun d hd' => ?_, fun _ => ?_⟩
    · rw [← ha d (by omega), ← hb d (by omega)]
      exact s2 d k _ hd (by omega)
    · have e1 : side k w = side k x := (ha k (Nat.le_refl _)).symm
      have e2 : ¬ side k v = side k x := fun z => hne (z.symm.trans (hb k (Nat.le_refl _)).symm)
      simp only [e1, if_true, if_neg e2]
      omega
  · obtain ⟨b1, b2, b3⟩ := u.at_ _ _ h
    refine ⟨b1, fun d hd' => b2 d (by omega), fun ne => ?_⟩
    have := b3 ne
    have e : side k w = side k v := b2 k (Nat.le_refl _)
    rw [e]
    omega
theorem ring_no {side : Nat → Nat → Bool} {k} {ds : List (Nat × Nat)} (s1 : ∀ d e, ds[d]? = some e → side d e.1 ≠ side d e.2) {x y r : Nat} (hd : ds[k]? = some (x, y)) (ha : Rk side k x r) (hb : Rk side k y r) : False :=
  s1 _ _ hd ((ha k (Nat.le_refl _)).trans (hb k (Nat.le_refl _)).symm)
end K5

namespace K5
theorem nodup_le : ∀ (n : Nat) (l : List Nat), l.Nodup → (∀ x ∈ l, x < n) → l.length ≤ n
  | 0, [], _, _ => Nat.le_refl _
  | 0, a :: r, _, h => absurd (h a List.mem_cons_self) (Nat.not_lt_zero _)
  | n + 1, l, nd, h => by
    by_cases m : n ∈ l
    · have h1 := nodup_le n (l.erase n) (nd.erase n) fun x hx => by
        have q := (List.Nodup.mem_erase_iff nd).mp hx
        have := h x q.2
        have := q.1
        omega
      rw [List.length_erase_of_mem m] at h1
      have : 0 < l.length := List.length_pos_of_mem m
      omega
    · have h1 := nodup_le n l nd fun x hx => by
        have := h x hx
        have : x ≠ n := fun e => m (e ▸ hx)
        omega
      omega
/-- a search: kl the rooms found, ws those that wait -/
structure Dfs (n : Nat) (ds : List (Nat × Nat)) (shut kl ws : List Nat) : Prop where
  nd : kl.Nodup
  lt : ∀ x ∈ kl, x < n
  sub : ∀ x ∈ ws, x ∈ kl
  cl : ∀ x ∈ kl, x ∉ ws → ∀ d y, Joins ds d x y → d ∉ shut → y ∈ kl
structure DfsIn (n : Nat) (ds : List (Nat × Nat)) (shut kl ws : List Nat) (here : Nat) (don : List (Nat × Nat)) : Prop where
  nd : kl.Nodup
  lt : ∀ x ∈ kl, x < n
  sub : ∀ x ∈ ws, x ∈ kl
  cl : ∀ x ∈ kl, x ∉ ws → x ≠ here → ∀ d y, Joins ds d x y → d ∉ shut → y ∈ kl
  he : here ∈ kl
  dn : ∀ d y, (d, y) ∈ don → d ∉ shut → y ∈ kl
section
variable {n : Nat} {ds : List (Nat × Nat)} {shut kl ws : List Nat} {here : Nat} {don : List (Nat × Nat)}
theorem Dfs.start {x : Nat} (h : x < n) : Dfs n ds shut [x] [x] :=
  ⟨by simp, fun y hy => by rw [List.mem_singleton.mp hy]; exact h, fun y hy => hy, fun y hy hn => absurd hy hn⟩
theorem Dfs.pop (h : Dfs n ds shut kl (ws ++ [here])) : DfsIn n ds shut kl ws here [] :=
  ⟨h.nd, h.lt, fun x m => h.sub x (List.mem_append.mpr (.inl m)), fun x m nw ne d y j ns => h.cl x m (fun q => by
    rcases List.mem_append.mp q with q | q
    · exact nw q
    · exact ne (List.mem_singleton.mp q)) d y j ns, h.sub here (List.mem_append.mpr (.inr (List.mem_singleton.mpr rfl))), fun d y m => nomatch m⟩
theorem DfsIn.skip (h : DfsIn n ds shut kl ws here don) {d y : Nat} (q : d ∈ shut ∨ y ∈ kl) : DfsIn n ds shut kl ws here (don ++ [(d, y)]) :=
  ⟨h.nd, h.lt, h.sub, h.cl, h.he, fun d' y' m ns => by
    rcases List.mem_append.mp m with m | m
    · exact h.dn d' y' m ns
    · cases List.mem_singleton.mp m
      exact q.resolve_left ns⟩
theorem DfsIn.add (h : DfsIn n ds shut kl ws here don) {d y : Nat} (hy : y < n) (nk : y ∉ kl) : DfsIn n ds shut (kl ++ [y]) (ws ++ [y]) here (don ++ [(d, y)]) where
  nd := List.nodup_append.mpr ⟨h.nd, by simp, fun a ha b hb e => by
    rw [List.mem_singleton.mp hb] at e
    exact nk (e ▸ ha)⟩
  lt := fun x m => by
    rcases List.mem_append.mp m with m | m
    · exact h.lt x m
    · rw [List.mem_singleton.mp m]; exact hy
  sub := fun x m => by
    rcases List.mem_append.mp m with m | m
    · exact List.mem_append.mpr (.inl (h.sub x m))
    · exact List.mem_append.mpr (.inr m)
  cl := fun x m nw ne d' y' j ns => by
    rcases List.mem_append.mp m with m | m
    · exact List.mem_append.mpr (.inl (h.cl x m (fun q => nw (List.mem_append.mpr (.inl q))) ne d' y' j ns))
    · exact absurd (List.mem_append.mpr (.inr m)) nw
  he := List.mem_append.mpr (.inl h.he)
  dn := fun d' y' m ns => by
    rcases List.mem_append.mp m with m | m
    · exact List.mem_append.mpr (.inl (h.dn d' y' m ns))
    · cases List.mem_singleton.mp m
      exact List.mem_append.mpr (.inr (List.mem_singleton.mpr rfl))
theorem DfsIn.done (h : DfsIn n ds shut kl ws here don) (all : ∀ d y, Joins ds d here y → (d, y) ∈ don) : Dfs n ds shut kl ws :=
  ⟨h.nd, h.lt, h.sub, fun x m nw d y j ns => by
    by_cases e : x = here
    · subst e
      exact h.dn d y (all d y j) ns
    · exact h.cl x m nw e d y j ns⟩
theorem Dfs.le (h : Dfs n ds shut kl ws) : kl.length ≤ n := nodup_le n kl h.nd h.lt
theorem DfsIn.le (h : DfsIn n ds shut kl ws here don) : kl.length ≤ n := nodup_le n kl h.nd h.lt
/-- in the end: a closed set of rooms; without shut doors it is all -/
theorem Dfs.all (T : Tree n ds) (h : Dfs n ds [] kl []) {x : Nat} (hx : x ∈ kl) : ∀ y, y < n → y ∈ kl := by
  intro y hy
  refine T.conn (fun z => z ∈ kl) (fun e he => ?_) x y (h.lt x hx) hy hx
  obtain ⟨d, hd⟩ := List.mem_iff_getElem?.mp he
  exact ⟨fun m => h.cl _ m (by simp) d _ (.inl hd) (by simp), fun m => h.cl _ m (by simp) d _ (.inr hd) (by simp)⟩
theorem Dfs.walk (h : Dfs n ds shut kl []) : ∀ {x p y}, Walk ds x p y → (∀ d ∈ p, d ∉ shut) → x ∈ kl → y ∈ kl := by
  intro x p y w
  induction w with
  | nil a => intro _ m; exact m
  | cons j w ih => intro ns m; exact ih (fun d hd => ns d (List.mem_cons_of_mem _ hd)) (h.cl _ m (by simp) _ _ j (ns _ List.mem_cons_self))
end
/-- steps towards the beginning -/
structure Ptr (ds : List (Nat × Nat)) (shut : List Nat) (room : Nat) (ks : List (Nat × Option (Nat × Nat))) : Prop where
  st : ∀ x d y, (x, some (d, y)) ∈ ks → Joins ds d x y ∧ d ∉ shut ∧ y ∈ ks.map Prod.fst ∧ (ks.map Prod.fst).idxOf y < (ks.map Prod.fst).idxOf x
  fin : ∀ x, (x, none) ∈ ks → x = room
theorem Ptr.start {ds shut room} : Ptr ds shut room [(room, none)] :=
  ⟨fun x d y m => (by cases List.mem_singleton.mp m), fun x m => (by cases List.mem_singleton.mp m; rfl)⟩
theorem Ptr.add {ds shut room ks} (P : Ptr ds shut room ks) {x d y : Nat} (j : Joins ds d x y) (ns : d ∉ shut) (hy : y ∈ ks.map Prod.fst) (hx : x ∉ ks.map Prod.fst) : Ptr ds shut room (ks ++ [(x, some (d, y))]) := by
  refine ⟨fun x' d' y' m => ?_, fun x' m => ?_⟩
  · rw [List.map_append]
    rcases List.mem_append.mp m with m | m
    · obtain ⟨a, b, c, e⟩ := P.st x' d' y' m
      have hx' : x' ∈ ks.map Prod.fst := List.mem_map.mpr ⟨_, m, rfl⟩
      refine ⟨a, b, List.mem_append.mpr (.inl c), ?_⟩
      rw [List.idxOf_append, if_pos c, List.idxOf_append, if_pos hx']
      exact e
    · cases List.mem_singleton.mp m
      refine ⟨j, ns, List.mem_append.mpr (.inl hy), ?_⟩
      rw [List.idxOf_append, if_pos hy, List.idxOf_append, if_neg hx]
      have := List.idxOf_lt_length_iff.mpr hy
      omega
  · rcases List.mem_append.mp m with m | m
    · exact P.fin x' m
    · cases List.mem_singleton.mp m
/-- the way made so far from a to here along the steps -/
structure Made (ds : List (Nat × Nat)) (kl : List Nat) (a : Nat) (p : List Nat) (here : Nat) : Prop where
  w : Walk ds a p here
  nd : p.Nodup
  up : ∀ d ∈ p, ∀ x y, Joins ds d x y → kl.idxOf here ≤ kl.idxOf x ∧ kl.idxOf here ≤ kl.idxOf y
theorem Made.start {ds kl a} : Made ds kl a [] a := ⟨.nil _, List.nodup_nil, fun _ h => nomatch h⟩
theorem Made.step {ds shut room ks a p here d y} (T : ∃ n, Tree n ds) (M : Made ds (ks.map Prod.fst) a p here) (P : Ptr ds shut room ks) (h : (here, some (d, y)) ∈ ks) : Made ds (ks.map Prod.fst) a (p ++ [d]) y := by
  obtain ⟨j, ns, hy, lt⟩ := P.st here d y h
  refine ⟨M.w.snoc j, ?_, fun d' m x z k => ?_⟩
  · refine List.nodup_append.mpr ⟨M.nd, by simp, fun c hc b hb e => ?_⟩
    rw [List.mem_singleton.mp hb] at e
    subst e
    have := (M.up _ hc here y j).2
    omega
  · rcases List.mem_append.mp m with m | m
    · have := M.up d' m x z k
      omega
    · cases List.mem_singleton.mp m
      obtain ⟨n, T⟩ := T
      rcases j with j | j <;> rcases k with k | k <;> rw [j] at k <;> cases k
      · exact ⟨Nat.le_of_lt lt, Nat.le_refl _⟩
      · exact ⟨Nat.le_refl _, Nat.le_of_lt lt⟩
      · exact ⟨Nat.le_refl _, Nat.le_of_lt lt⟩
      · exact ⟨Nat.le_of_lt lt, Nat.le_refl _⟩
/-- the ways that the law makes: kl with the way to each -/
def Pth (ds : List (Nat × Nat)) (a : Nat) (ks : List (Nat × List Nat)) : Prop :=
  ∀ x p, (x, p) ∈ ks → Walk ds a p x ∧ p.Nodup ∧ ∀ d ∈ p, ∀ u v, Joins ds d u v → u ∈ ks.map Prod.fst ∧ v ∈ ks.map Prod.fst
theorem Pth.start {ds a} : Pth ds a [(a, [])] := fun x p m => by
  cases List.mem_singleton.mp m
  exact ⟨.nil _, List.nodup_nil, fun _ h => nomatch h⟩
theorem Pth.add {ds a ks x y p d} (P : Pth ds a ks) (h : (x, p) ∈ ks) (j : Joins ds d x y) (hy : y ∉ ks.map Prod.fst) : Pth ds a (ks ++ [(y, p ++ [d])]) := by
  intro x' p' m
  rw [List.map_append]
  rcases List.mem_append.mp m with m | m
  · obtain ⟨a, b, c⟩ := P x' p' m
    exact ⟨a, b, fun d hd u v k => ⟨List.mem_append.mpr (.inl (c d hd u v k).1), List.mem_append.mpr (.inl (c d hd u v k).2)⟩⟩
  · cases List.mem_singleton.mp m
    obtain ⟨a, b, c⟩ := P x p h
    have hx : x ∈ ks.map Prod.fst := List.mem_map.mpr ⟨_, h, rfl⟩
    refine ⟨a.snoc j, List.nodup_append.mpr ⟨b, by simp, fun c' hc b' hb e => ?_⟩, fun d' hd u v k => ?_⟩
    · rw [List.mem_singleton.mp hb] at e
      subst e
      exact hy (c _ hc x y j).2
    · rcases List.mem_append.mp hd with hd | hd
      · exact ⟨List.mem_append.mpr (.inl (c d' hd u v k).1), List.mem_append.mpr (.inl (c d' hd u v k).2)⟩
      · cases List.mem_singleton.mp hd
        have e1 := List.mem_append.mpr (.inl hx : x ∈ ks.map Prod.fst ∨ x ∈ [y])
        have e2 : y ∈ ks.map Prod.fst ++ [y] := List.mem_append.mpr (.inr (List.mem_singleton.mpr rfl))
        rcases j with j | j <;> rcases k with k | k <;> rw [j] at k <;> cases k
        · exact ⟨e1, e2⟩
        · exact ⟨e2, e1⟩
        · exact ⟨e2, e1⟩
        · exact ⟨e1, e2⟩
end K5

namespace K5
theorem perm_of_map {α β : Type} (f : α → β) : ∀ (l : List α) (ys : List β), ys.Perm (l.map f) → ∃ l' : List α, ys = l'.map f ∧ l'.Perm l
  | [], ys, h => ⟨[], h.eq_nil, List.Perm.refl _⟩
  | a :: r, ys, h => by
    have ha : f a ∈ ys := h.mem_iff.mpr List.mem_cons_self
    obtain ⟨s, t, rfl⟩ := List.append_of_mem ha
    have h2 : (s ++ t).Perm (r.map f) := (List.perm_middle.symm.trans h).cons_inv
    obtain ⟨r', e, p⟩ := perm_of_map f r _ h2
    refine ⟨r'.take s.length ++ a :: r'.drop s.length, ?_, ?_⟩
    · rw [List.map_append, List.map_cons, List.map_take, List.map_drop, ← e, List.take_left, List.drop_left]
    · have : (r'.take s.length ++ a :: r'.drop s.length).Perm (a :: r') := by
        have q := @List.perm_middle _ a (r'.take s.length) (r'.drop s.length)
        rw [List.take_append_drop] at q
        exact q
      exact this.trans (p.cons a)
theorem Tr0.nv {n : Nat} {es : List (Nat × Nat)} (T : Tr0 n es) {L : List Nat} (p : L.Perm (List.range n)) : Tr0 n (es.map fun e => (L.getD e.1 0, L.getD e.2 0)) := by
  have nd : L.Nodup := p.symm.nodup List.nodup_range
  have hl : L.length = n := by rw [p.length_eq, List.length_range]
  have hm : ∀ y, y ∈ L ↔ y < n := fun y => by rw [p.mem_iff, List.mem_range]
  have gd : ∀ x (h : x < n), L.getD x 0 = L[x]'(by omega) := fun x h => by
    rw [List.getD_eq_getElem?_getD, List.getElem?_eq_getElem (by omega)]
    rfl
  refine T.names (fun x => L.getD x 0) (fun y => L.idxOf y) (fun x h => ?_) (fun x h => ?_) (fun y h => ?_)
  · show L.getD x 0 < n
    rw [gd x h]
    exact (hm _).mp (List.getElem_mem _)
  · show L.idxOf (L.getD x 0) = x
    rw [gd x h]
    exact nd.idxOf_getElem x (by omega)
  · have hy := (hm y).mpr h
    have hi := List.idxOf_lt_length_iff.mpr hy
    refine ⟨by show L.idxOf y < n; omega, ?_⟩
    show L.getD (L.idxOf y) 0 = y
    rw [gd _ (by omega)]
    exact List.getElem_idxOf hi
end K5

/-! groups: rooms joined by doors, the mathematics -/
namespace K5
/-- a walk through doors of a set -/
def Con (ds : List (Nat × Nat)) (J : Nat → Prop) (x y : Nat) : Prop := ∃ u, Walk ds x u y ∧ ∀ e ∈ u, J e
section
variable {n : Nat} {ds : List (Nat × Nat)} {J J' : Nat → Prop}
theorem Con.refl (x : Nat) : Con ds J x x := ⟨[], .nil _, fun _ h => nomatch h⟩
theorem Con.symm {x y : Nat} (h : Con ds J x y) : Con ds J y x := by
  obtain ⟨u, w, hu⟩ := h
  exact ⟨u.reverse, w.rev, fun e he => hu e (List.mem_reverse.mp he)⟩
theorem Con.trans {x y z : Nat} (h : Con ds J x y) (k : Con ds J y z) : Con ds J x z := by
  obtain ⟨u, w, hu⟩ := h
  obtain ⟨v, w', hv⟩ := k
  refine ⟨u ++ v, w.app w', fun e he => ?_⟩
  rcases List.mem_append.mp he with he | he
  · exact hu e he
  · exact hv e he
theorem Con.door {d x y : Nat} (j : Joins ds d x y) (h : J d) : Con ds J x y := ⟨[d], .cons j (.nil _), fun e he => by
  rw [List.mem_singleton] at he
  rw [he]
  exact h⟩
theorem Con.mono (f : ∀ e, J e → J' e) {x y : Nat} (h : Con ds J x y) : Con ds J' x y := by
  obtain ⟨u, w, hu⟩ := h
  exact ⟨u, w, fun e he => f e (hu e he)⟩
/-- a mark that both ends of each such door share, is shared along -/
theorem Con.eq {β : Type} {f : Nat → β} (hf : ∀ d x y, J d → Joins ds d x y → f x = f y) : ∀ {x : Nat} {u : List Nat} {y : Nat}, Walk ds x u y → (∀ e ∈ u, J e) → f x = f y
  | _, _, _, .nil _, _ => rfl
  | _, _, _, .cons j w, h => (hf _ _ _ (h _ List.mem_cons_self) j).trans (Con.eq hf w fun e he => h e (List.mem_cons_of_mem _ he))
end
/-- the explained doors: the least set -/
inductive Ex (ds : List (Nat × Nat)) (S : List Nat × List Nat) : Nat → Prop
  | mk {d p r x y : Nat} {u : List Nat} : S.2[d]? = some p → S.1[p]? = some r → Joins ds d x y → Walk ds r u x → (∀ e ∈ u, Ex ds S e) → Ex ds S d
/-- marks of the rooms, the doors of J joined so far -/
structure Mk (n : Nat) (ds : List (Nat × Nat)) (S : List Nat × List Nat) (M : List Nat) (J : List Nat) : Prop where
  len : M.length = n
  nd : J.Nodup
  ex : ∀ d ∈ J, Ex ds S d
  lt : ∀ d ∈ J, d < ds.length
  le : ∀ x m, M[x]? = some m → m ≤ x ∧ Con ds (· ∈ J) x m
  eq : ∀ d x y, d ∈ J → Joins ds d x y → M.getD x 0 = M.getD y 0
section
variable {n : Nat} {ds : List (Nat × Nat)} {S : List Nat × List Nat} {M J : List Nat}
theorem Mk.start (n : Nat) : Mk n ds S (List.range n) [] where
  len := List.length_range
  nd := List.nodup_nil
  ex := fun _ h => nomatch h
  lt := fun _ h => nomatch h
  le := fun x m h => by
    have hx : x < n := by have := get_lt h; rwa [List.length_range] at this
    rw [List.getElem?_range hx] at h
    cases h
    exact ⟨Nat.le_refl _, Con.refl _⟩
  eq := fun _ _ _ h => nomatch h
theorem Mk.get (h : Mk n ds S M J) {x : Nat} (hx : x < n) : M[x]? = some (M.getD x 0) := by
  have hl : x < M.length := by rw [h.len]; exact hx
  rw [List.getD_eq_getElem?_getD, List.getElem?_eq_getElem hl]
  rfl
theorem Mk.con (h : Mk n ds S M J) {x y : Nat} (c : Con ds (· ∈ J) x y) : M.getD x 0 = M.getD y 0 := by
  obtain ⟨u, w, hu⟩ := c
  exact Con.eq (J := (· ∈ J)) (f := fun x => M.getD x 0) (fun d x y hd j => h.eq d x y hd j) w hu
theorem Mk.iff (h : Mk n ds S M J) {x y : Nat} (hx : x < n) (hy : y < n) : M.getD x 0 = M.getD y 0 ↔ Con ds (· ∈ J) x y := by
  refine ⟨fun e => ?_, h.con⟩
  have c1 := (h.le x _ (h.get hx)).2
  have c2 := (h.le y _ (h.get hy)).2
  rw [e] at c1
  exact c1.trans c2.symm
theorem Mk.lo (h : Mk n ds S M J) {x : Nat} (hx : x < n) : M.getD x 0 ≤ x := (h.le x _ (h.get hx)).1
/-- marks after a door is joined -/
def join (M : List Nat) (lo hi : Nat) : List Nat := M.map fun m => if m = hi then lo else m
theorem join_get {lo hi x : Nat} (hx : x < M.length) : (join M lo hi).getD x 0 = if M.getD x 0 = hi then lo else M.getD x 0 := by
  unfold join
  rw [List.getD_eq_getElem?_getD, List.getElem?_map, List.getElem?_eq_getElem hx, List.getD_eq_getElem?_getD, List.getElem?_eq_getElem hx]
  rfl
theorem Mk.step (T : Tree n ds) (h : Mk n ds S M J) {d a b p r : Nat} (hd : ds[d]? = some (a, b)) (ne : M.getD a 0 ≠ M.getD b 0) (hp : S.2[d]? = some p) (hr : S.1[p]? = some r) (hrn : r < n) (near : M.getD r 0 = M.getD a 0 ∨ M.getD r 0 = M.getD b 0) :
    Mk n ds S (join M (min (M.getD a 0) (M.getD b 0)) (max (M.getD a 0) (M.getD b 0))) (d :: J) := by
  have j : Joins ds d a b := .inl hd
  obtain ⟨la, lb, _, _⟩ := j.lt T
  have dJ : d ∉ J := fun z => ne (h.eq d a b z j)
  have exd : Ex ds S d := by
    rcases near with e | e
    · obtain ⟨u, w, hu⟩ := (h.iff hrn la).mp e
      exact .mk hp hr j w fun e he => h.ex e (hu e he)
    · obtain ⟨u, w, hu⟩ := (h.iff hrn lb).mp e
      exact .mk hp hr j.symm w fun e he => h.ex e (hu e he)
  generalize ea : M.getD a 0 = ma at ne near
  generalize eb : M.getD b 0 = mb at ne near
  have hmn : ∀ x, x < n → x < M.length := fun x hx => by rw [h.len]; exact hx
  have sub : ∀ e, e ∈ J → e ∈ d :: J := fun e he => List.mem_cons_of_mem _ he
  have cab : Con ds (· ∈ d :: J) a b := Con.door j List.mem_cons_self
  have ca : Con ds (· ∈ d :: J) a ma := ea ▸ ((h.le a _ (h.get la)).2.mono sub)
  have cb : Con ds (· ∈ d :: J) b mb := eb ▸ ((h.le b _ (h.get lb)).2.mono sub)
  have chl : Con ds (· ∈ d :: J) (max ma mb) (min ma mb) := by
    by_cases c : ma ≤ mb
    · rw [Nat.max_eq_right c, Nat.min_eq_left c]
      exact cb.symm.trans (cab.symm.trans ca)
    · rw [Nat.max_eq_left (by omega), Nat.min_eq_right (by omega)]
      exact ca.symm.trans (cab.trans cb)
  refine ⟨by unfold join; rw [List.length_map]; exact h.len, List.nodup_cons.mpr ⟨dJ, h.nd⟩, fun e he => ?_, fun e he => ?_, fun x m hm => ?_, fun e x y he jo => ?_⟩
  · rcases List.mem_cons.mp he with rfl | he
    · exact exd
    · exact h.ex e he
  · rcases List.mem_cons.mp he with rfl | he
    · exact get_lt hd
    · exact h.lt e he
  · have hx : x < n := by
      have := get_lt hm
      unfold join at this
      rwa [List.length_map, h.len] at this
    have e1 : m = (join M (min ma mb) (max ma mb)).getD x 0 := by rw [List.getD_eq_getElem?_getD, hm]; rfl
    rw [join_get (hmn x hx)] at e1
    have l1 := h.lo hx
    have c1 := (h.le x _ (h.get hx)).2.mono sub
    by_cases c : M.getD x 0 = max ma mb
    · rw [if_pos c] at e1
      rw [c] at c1
      refine ⟨by omega, ?_⟩
      rw [e1]
      exact c1.trans chl
    · rw [if_neg c] at e1
      rw [e1]
      exact ⟨l1, c1⟩
  · obtain ⟨lx, ly, _, _⟩ := jo.lt T
    rw [join_get (hmn x lx), join_get (hmn y ly)]
    rcases List.mem_cons.mp he with rfl | he
    · have key : ∀ z, z = a ∨ z = b → (if M.getD z 0 = max ma mb then min ma mb else M.getD z 0) = min ma mb := by
        rintro z (rfl | rfl)
        · rw [ea]
          by_cases c : ma = max ma mb
          · rw [if_pos c]
          · rw [if_neg c]
            omega
        · rw [eb]
          by_cases c : mb = max ma mb
          · rw [if_pos c]
          · rw [if_neg c]
            omega
      have ex : x = a ∨ x = b := by
        rcases jo with q | q <;> (rw [hd] at q; cases q; simp)
      have ey : y = a ∨ y = b := by
        rcases jo with q | q <;> (rw [hd] at q; cases q; simp)
      rw [key x ex, key y ey]
    · rw [h.eq e x y he jo]
theorem Mk.few (h : Mk n ds S M J) : J.length ≤ ds.length := nodup_le ds.length J h.nd h.lt
/-- nothing left to join -/
def Closed (ds : List (Nat × Nat)) (S : List Nat × List Nat) (M : List Nat) (d : Nat) : Prop :=
  ∀ a b p r, ds[d]? = some (a, b) → S.2[d]? = some p → S.1[p]? = some r → M.getD a 0 = M.getD b 0 ∨ (M.getD r 0 ≠ M.getD a 0 ∧ M.getD r 0 ≠ M.getD b 0)
theorem Mk.done (T : Tree n ds) (h : Mk n ds S M J) (cl : ∀ d, d < ds.length → Closed ds S M d) : ∀ d, Ex ds S d → ∀ x y, Joins ds d x y → M.getD x 0 = M.getD y 0 := by
  intro d hd
  induction hd with
  | @mk d p r x y u hp hr j w hu ih =>
    intro x' y' j'
    have er : M.getD r 0 = M.getD x 0 := Con.eq (J := (· ∈ u)) (f := fun x => M.getD x 0) (fun e a b he jo => ih e he a b jo) w fun e he => he
    have hdl : d < ds.length := by rcases j with q | q <;> exact get_lt q
    have fin : ∀ a b, ds[d]? = some (a, b) → M.getD a 0 = M.getD b 0 := by
      intro a b hab
      rcases cl d hdl a b p r hab hp hr with e | ⟨e1, e2⟩
      · exact e
      · rcases j with q | q
        · rw [hab] at q
          cases q
          exact absurd er e1
        · rw [hab] at q
          cases q
          exact absurd er e2
    rcases j' with q | q
    · exact fin _ _ q
    · exact (fin _ _ q).symm
/-- in the end: the joined doors are the explained ones -/
theorem Mk.all (T : Tree n ds) (h : Mk n ds S M J) (cl : ∀ d, d < ds.length → Closed ds S M d) {d x y : Nat} (j : Joins ds d x y) : M.getD x 0 = M.getD y 0 ↔ Ex ds S d := by
  refine ⟨fun e => ?_, fun e => h.done T cl d e x y j⟩
  obtain ⟨lx, ly, _, _⟩ := j.lt T
  obtain ⟨u, w, hu⟩ := (h.iff lx ly).mp e
  obtain ⟨side, s1, s2⟩ := T.side
  have : d ∈ u := Classical.byContradiction fun z => side_join s1 j (side_walk s2 w z)
  exact h.ex d (hu d this)
theorem Mk.con_ex (T : Tree n ds) (h : Mk n ds S M J) (cl : ∀ d, d < ds.length → Closed ds S M d) {x y : Nat} (hx : x < n) (hy : y < n) : M.getD x 0 = M.getD y 0 ↔ Con ds (Ex ds S) x y := by
  refine ⟨fun e => ((h.iff hx hy).mp e).mono h.ex, fun c => ?_⟩
  obtain ⟨u, w, hu⟩ := c
  exact Con.eq (J := Ex ds S) (f := fun x => M.getD x 0) (fun d a b hd jo => h.done T cl d hd a b jo) w hu
/-- two such lists of marks are one -/
theorem Mk.unique (T : Tree n ds) {M' J' : List Nat} (h : Mk n ds S M J) (cl : ∀ d, d < ds.length → Closed ds S M d) (h' : Mk n ds S M' J') (cl' : ∀ d, d < ds.length → Closed ds S M' d) : M = M' := by
  apply List.ext_getElem?
  intro x
  by_cases hx : x < n
  · rw [h.get hx, h'.get hx]
    congr 1
    have root : ∀ {M J : List Nat}, Mk n ds S M J → (∀ d, d < ds.length → Closed ds S M d) → ∀ y, y < n → Con ds (Ex ds S) x y → M.getD x 0 ≤ y := fun hm hc y hy c => by
      rw [(hm.con_ex T hc hx hy).mpr c]
      exact hm.lo hy
    have a1 := (h.le x _ (h.get hx)).2.mono h.ex
    have a2 := (h'.le x _ (h'.get hx)).2.mono h'.ex
    have l1 := h.lo hx
    have l2 := h'.lo hx
    have b1 := root h cl _ (by omega) a2
    have b2 := root h' cl' _ (by omega) a1
    omega
  · rw [List.getElem?_eq_none (by rw [h.len]; omega), List.getElem?_eq_none (by rw [h'.len]; omega)]
end
end K5

namespace K5
open PySem PySem.Spec PyProof.Rows L2
def top (i : Nat) : Stmt := PySem.Challenge.pw_lastthrough_k80_whole_apart_states_stay.main.body.getD i (.Pass ⟨0, 0, 0, 0⟩)
abbrev s_is_whole : Stmt := top 8
abbrev N_is_whole : List Str := ["value"]
theorem sc_is_whole : FnScope N_is_whole ["value"] (defScope s_is_whole) := ⟨rfl, rfl, rfl, by decide +kernel, rfl, by decide +kernel, by decide +kernel⟩
abbrev s_is_index : Stmt := top 9
abbrev N_is_index : List Str := ["value", "count"]
theorem sc_is_index : FnScope N_is_index ["value", "count"] (defScope s_is_index) := ⟨rfl, rfl, rfl, by decide +kernel, rfl, by decide +kernel, by decide +kernel⟩
abbrev s_is_door : Stmt := top 10
abbrev N_is_door : List Str := ["value", "count", "a", "b"]
theorem sc_is_door : FnScope N_is_door ["value", "count"] (defScope s_is_door) := ⟨rfl, rfl, rfl, by decide +kernel, rfl, by decide +kernel, by decide +kernel⟩
abbrev s_check_house : Stmt := top 11
abbrev N_check_house : List Str := ["value", "door", "ends", "ring"]
theorem sc_check_house : FnScope N_check_house ["value"] (defScope s_check_house) := ⟨rfl, rfl, rfl, by decide +kernel, rfl, by decide +kernel, by decide +kernel⟩
abbrev s_first_ring : Stmt := top 12
abbrev N_first_ring : List Str := ["doors", "links", "door", "a", "b", "a_root", "b_root"]
theorem sc_first_ring : FnScope N_first_ring ["doors"] (defScope s_first_ring) := ⟨rfl, rfl, rfl, by decide +kernel, rfl, by decide +kernel, by decide +kernel⟩
abbrev s_find_root : Stmt := top 13
abbrev N_find_root : List Str := ["links", "room"]
theorem sc_find_root : FnScope N_find_root ["links", "room"] (defScope s_find_root) := ⟨rfl, rfl, rfl, by decide +kernel, rfl, by decide +kernel, by decide +kernel⟩
abbrev s_need_house : Stmt := top 14
abbrev N_need_house : List Str := ["house", "reason"]
theorem sc_need_house : FnScope N_need_house ["house"] (defScope s_need_house) := ⟨rfl, rfl, rfl, by decide +kernel, rfl, by decide +kernel, by decide +kernel⟩
abbrev s_exits_of : Stmt := top 15
abbrev N_exits_of : List Str := ["house", "exits", "room", "door", "a", "b"]
theorem sc_exits_of : FnScope N_exits_of ["house"] (defScope s_exits_of) := ⟨rfl, rfl, rfl, by decide +kernel, rfl, by decide +kernel, by decide +kernel⟩
abbrev s_doors_by_ends : Stmt := top 16
abbrev N_doors_by_ends : List Str := ["house", "doors", "door", "a", "b"]
theorem sc_doors_by_ends : FnScope N_doors_by_ends ["house"] (defScope s_doors_by_ends) := ⟨rfl, rfl, rfl, by decide +kernel, rfl, by decide +kernel, by decide +kernel⟩
abbrev s_ways_from : Stmt := top 17
abbrev N_ways_from : List Str := ["house", "room", "shut", "exits", "shut_doors", "ways", "waiting", "here", "door", "there"]
theorem sc_ways_from : FnScope N_ways_from ["house", "room", "shut"] (defScope s_ways_from) := ⟨rfl, rfl, rfl, by decide +kernel, rfl, by decide +kernel, by decide +kernel⟩
abbrev s_has_state_shape : Stmt := top 19
abbrev N_has_state_shape : List Str := ["house", "value", "rooms", "barred"]
theorem sc_has_state_shape : FnScope N_has_state_shape ["house", "value"] (defScope s_has_state_shape) := ⟨rfl, rfl, rfl, by decide +kernel, rfl, by decide +kernel, by decide +kernel⟩
abbrev s_check_state : Stmt := top 20
abbrev N_check_state : List Str := ["house", "value", "rooms", "barred", "person", "room", "door"]
theorem sc_check_state : FnScope N_check_state ["house", "value"] (defScope s_check_state) := ⟨rfl, rfl, rfl, by decide +kernel, rfl, by decide +kernel, by decide +kernel⟩
abbrev s_is_move : Stmt := top 21
abbrev N_is_move : List Str := ["doors", "people", "value", "person", "start", "end"]
theorem sc_is_move : FnScope N_is_move ["doors", "people", "value"] (defScope s_is_move) := ⟨rfl, rfl, rfl, by decide +kernel, rfl, by decide +kernel, by decide +kernel⟩
abbrev s_check_plan : Stmt := top 22
abbrev N_check_plan : List Str := ["house", "people", "value", "doors", "index", "move"]
theorem sc_check_plan : FnScope N_check_plan ["house", "people", "value"] (defScope s_check_plan) := ⟨rfl, rfl, rfl, by decide +kernel, rfl, by decide +kernel, by decide +kernel⟩
abbrev s_need_people : Stmt := top 23
abbrev N_need_people : List Str := ["people"]
theorem sc_need_people : FnScope N_need_people ["people"] (defScope s_need_people) := ⟨rfl, rfl, rfl, by decide +kernel, rfl, by decide +kernel, by decide +kernel⟩
abbrev s_need_state : Stmt := top 24
abbrev N_need_state : List Str := ["house", "state", "reason"]
theorem sc_need_state : FnScope N_need_state ["house", "state"] (defScope s_need_state) := ⟨rfl, rfl, rfl, by decide +kernel, rfl, by decide +kernel, by decide +kernel⟩
abbrev s_need_plan : Stmt := top 25
abbrev N_need_plan : List Str := ["house", "people", "plan", "reason"]
theorem sc_need_plan : FnScope N_need_plan ["house", "people", "plan"] (defScope s_need_plan) := ⟨rfl, rfl, rfl, by decide +kernel, rfl, by decide +kernel, by decide +kernel⟩
abbrev s_possible_moves : Stmt := top 26
abbrev N_possible_moves : List Str := ["house", "state", "rooms", "barred", "moves", "door", "a", "b", "person", "room"]
theorem sc_possible_moves : FnScope N_possible_moves ["house", "state"] (defScope s_possible_moves) := ⟨rfl, rfl, rfl, by decide +kernel, rfl, by decide +kernel, by decide +kernel⟩
abbrev s_played : Stmt := top 27
abbrev N_played : List Str := ["doors", "state", "plan", "rooms", "barred", "index", "person", "start", "end", "door"]
theorem sc_played : FnScope N_played ["doors", "state", "plan"] (defScope s_played) := ⟨rfl, rfl, rfl, by decide +kernel, rfl, by decide +kernel, by decide +kernel⟩
abbrev s_play : Stmt := top 28
abbrev N_play : List Str := ["house", "state", "plan"]
theorem sc_play : FnScope N_play ["house", "state", "plan"] (defScope s_play) := ⟨rfl, rfl, rfl, by decide +kernel, rfl, by decide +kernel, by decide +kernel⟩
abbrev s_doors_barring : Stmt := top 30
abbrev N_doors_barring : List Str := ["state", "person", "door", "who"]
theorem sc_doors_barring : FnScope N_doors_barring ["state", "person"] (defScope s_doors_barring) := ⟨rfl, rfl, rfl, by decide +kernel, rfl, by decide +kernel, by decide +kernel⟩
abbrev s_region_ways : Stmt := top 31
abbrev N_region_ways : List Str := ["house", "state", "person"]
theorem sc_region_ways : FnScope N_region_ways ["house", "state", "person"] (defScope s_region_ways) := ⟨rfl, rfl, rfl, by decide +kernel, rfl, by decide +kernel, by decide +kernel⟩
abbrev s_is_apart : Stmt := top 32
abbrev N_is_apart : List Str := ["house", "state", "rooms", "person"]
theorem sc_is_apart : FnScope N_is_apart ["house", "state"] (defScope s_is_apart) := ⟨rfl, rfl, rfl, by decide +kernel, rfl, by decide +kernel, by decide +kernel⟩
abbrev s_count_following : Stmt := top 34
abbrev N_count_following : List Str := ["house", "state", "number", "person"]
theorem sc_count_following : FnScope N_count_following ["house", "state"] (defScope s_count_following) := ⟨rfl, rfl, rfl, by decide +kernel, rfl, by decide +kernel, by decide +kernel⟩
abbrev s_l_cell : Stmt := top 36
abbrev N_l_cell : List Str := ["_law_script", "_law_index"]
theorem sc_l_cell : FnScope N_l_cell ["_law_script", "_law_index"] (defScope s_l_cell) := ⟨rfl, rfl, rfl, by decide +kernel, rfl, by decide +kernel, by decide +kernel⟩
abbrev s_l_hash : Stmt := top 37
abbrev N_l_hash : List Str := ["_law_seed", "_law_index", "_law_mixed"]
theorem sc_l_hash : FnScope N_l_hash ["_law_seed", "_law_index"] (defScope s_l_hash) := ⟨rfl, rfl, rfl, by decide +kernel, rfl, by decide +kernel, by decide +kernel⟩
abbrev s_l_generator : Stmt := top 38
abbrev N_l_generator : List Str := ["_law_script", "_law_index", "_law_seed"]
theorem sc_l_generator : FnScope N_l_generator ["_law_script", "_law_index"] (defScope s_l_generator) := ⟨rfl, rfl, rfl, by decide +kernel, rfl, by decide +kernel, by decide +kernel⟩
abbrev s_l_random : Stmt := top 39
abbrev N_l_random : List Str := ["_law_generator_here", "_law_bound", "_law_drawn", "_law_part"]
theorem sc_l_random : FnScope N_l_random ["_law_generator_here", "_law_bound"] (defScope s_l_random) := ⟨rfl, rfl, rfl, by decide +kernel, rfl, by decide +kernel, by decide +kernel⟩
abbrev s_l_shuffled : Stmt := top 40
abbrev N_l_shuffled : List Str := ["_law_generator_here", "_law_items", "_law_pool", "_law_item"]
theorem sc_l_shuffled : FnScope N_l_shuffled ["_law_generator_here", "_law_items"] (defScope s_l_shuffled) := ⟨rfl, rfl, rfl, by decide +kernel, rfl, by decide +kernel, by decide +kernel⟩
abbrev s_l_random_house : Stmt := top 41
abbrev N_l_random_house : List Str := ["_law_generator_here", "_law_most", "_law_size", "_law_kind", "_law_doors", "_law_room", "_law_other", "_law_names", "_law_renamed", "_law_one", "_law_ends"]
theorem sc_l_random_house : FnScope N_l_random_house ["_law_generator_here", "_law_most"] (defScope s_l_random_house) := ⟨rfl, rfl, rfl, by decide +kernel, rfl, by decide +kernel, by decide +kernel⟩
abbrev s_l_random_state : Stmt := top 42
abbrev N_l_random_state : List Str := ["_law_generator_here", "_law_doors", "_law_people", "_law_size", "_law_spread", "_law_places", "_law_person", "_law_door"]
theorem sc_l_random_state : FnScope N_l_random_state ["_law_generator_here", "_law_doors", "_law_people"] (defScope s_l_random_state) := ⟨rfl, rfl, rfl, by decide +kernel, rfl, by decide +kernel, by decide +kernel⟩
abbrev s_l_neighbours : Stmt := top 43
abbrev N_l_neighbours : List Str := ["_law_doors", "_law_place", "_law_found", "_law_index", "_law_ends"]
theorem sc_l_neighbours : FnScope N_l_neighbours ["_law_doors", "_law_place"] (defScope s_l_neighbours) := ⟨rfl, rfl, rfl, by decide +kernel, rfl, by decide +kernel, by decide +kernel⟩
abbrev s_l_grown : Stmt := top 44
abbrev N_l_grown : List Str := ["_law_doors", "_law_position", "_law_person", "_law_found", "_law_index", "_law_other", "_law_door_number"]
theorem sc_l_grown : FnScope N_l_grown ["_law_doors", "_law_position", "_law_person", "_law_found"] (defScope s_l_grown) := ⟨rfl, rfl, rfl, by decide +kernel, rfl, by decide +kernel, by decide +kernel⟩
abbrev s_l_region : Stmt := top 45
abbrev N_l_region : List Str := ["_law_doors", "_law_position", "_law_person"]
theorem sc_l_region : FnScope N_l_region ["_law_doors", "_law_position", "_law_person"] (defScope s_l_region) := ⟨rfl, rfl, rfl, by decide +kernel, rfl, by decide +kernel, by decide +kernel⟩
abbrev s_l_regions : Stmt := top 46
abbrev N_l_regions : List Str := ["_law_doors", "_law_position", "_law_person"]
theorem sc_l_regions : FnScope N_l_regions ["_law_doors", "_law_position"] (defScope s_l_regions) := ⟨rfl, rfl, rfl, by decide +kernel, rfl, by decide +kernel, by decide +kernel⟩
abbrev s_l_apart : Stmt := top 47
abbrev N_l_apart : List Str := ["_law_doors", "_law_position", "_law_every"]
theorem sc_l_apart : FnScope N_l_apart ["_law_doors", "_law_position"] (defScope s_l_apart) := ⟨rfl, rfl, rfl, by decide +kernel, rfl, by decide +kernel, by decide +kernel⟩
abbrev s_l_moved : Stmt := top 48
abbrev N_l_moved : List Str := ["_law_doors", "_law_position", "_law_step", "_law_person", "_law_start", "_law_end", "_law_places", "_law_bars", "_law_index", "_law_other", "_law_number", "_law_new_places"]
theorem sc_l_moved : FnScope N_l_moved ["_law_doors", "_law_position", "_law_step"] (defScope s_l_moved) := ⟨rfl, rfl, rfl, by decide +kernel, rfl, by decide +kernel, by decide +kernel⟩
abbrev s_l_steps : Stmt := top 49
abbrev N_l_steps : List Str := ["_law_doors", "_law_position", "_law_steps_here", "_law_person", "_law_place", "_law_other", "_law_index"]
theorem sc_l_steps : FnScope N_l_steps ["_law_doors", "_law_position"] (defScope s_l_steps) := ⟨rfl, rfl, rfl, by decide +kernel, rfl, by decide +kernel, by decide +kernel⟩
abbrev s_l_following : Stmt := top 50
abbrev N_l_following : List Str := ["_law_doors", "_law_position", "_law_found", "_law_waiting", "_law_here", "_law_step", "_law_there"]
theorem sc_l_following : FnScope N_l_following ["_law_doors", "_law_position"] (defScope s_l_following) := ⟨rfl, rfl, rfl, by decide +kernel, rfl, by decide +kernel, by decide +kernel⟩
abbrev s_l_walk_right : Stmt := top 51
abbrev N_l_walk_right : List Str := ["_law_generator_here", "_law_doors", "_law_position", "_law_regions_here", "_law_count", "_law_attempt", "_law_allowed", "_law_person", "_law_place", "_law_later"]
theorem sc_l_walk_right : FnScope N_l_walk_right ["_law_generator_here", "_law_doors", "_law_position"] (defScope s_l_walk_right) := ⟨rfl, rfl, rfl, by decide +kernel, rfl, by decide +kernel, by decide +kernel⟩
abbrev s_l_small_right : Stmt := top 52
abbrev N_l_small_right : List Str := ["_law_doors", "_law_position", "_law_reached", "_law_size", "_law_people", "_law_met", "_law_place", "_law_other", "_law_regions_here", "_law_expected", "_law_region_of", "_law_longer", "_law_prefix", "_law_places"]
theorem sc_l_small_right : FnScope N_l_small_right ["_law_doors", "_law_position"] (defScope s_l_small_right) := ⟨rfl, rfl, rfl, by decide +kernel, rfl, by decide +kernel, by decide +kernel⟩
abbrev s_law : Stmt := top 53
abbrev N_law : List Str := ["_law_script", "_law_index", "_law_generator_here", "_law_attempt", "_law_doors", "_law_position", "_law_people"]
theorem sc_law : FnScope N_law ["_law_script"] (defScope s_law) := ⟨rfl, rfl, rfl, by decide +kernel, rfl, by decide +kernel, by decide +kernel⟩
/-- the built-ins that the text calls stand as they were -/
structure Bl (mg : Str → Option Value) : Prop where
  len : mg "len" = none
  isinstance : mg "isinstance" = none
  enumerate : mg "enumerate" = none
  range : mg "range" = none
  list : mg "list" = none
  set : mg "set" = none
  sorted : mg "sorted" = none
  max : mg "max" = none
  min : mg "min" = none
  tuple : mg "tuple" = none
  int : mg "int" = none
  bool : mg "bool" = none
  all : mg "all" = none
  sum : mg "sum" = none

/-- a house at a: a tuple of tuples -/
def HouseAt (K : PySem.W.Frag) (H : Hp) (a : Addr) (ds : List (Nat × Nat)) : Prop :=
  ∃ rs : List Addr, SqT K H a (rs.map V.ref) ∧ rs.length = ds.length ∧ ∀ (d : Nat) (r : Addr) (e : Nat × Nat), rs[d]? = some r → ds[d]? = some e → SqT K H r [.int e.1, .int e.2]
section
variable {K : PySem.W.Frag} {H H' : Hp} {a g : Addr} {ds : List (Nat × Nat)}
theorem HouseAt.same (h : HouseAt K H a ds) (s : Same H H') : HouseAt K H' a ds := by
  obtain ⟨rs, h1, h2, h3⟩ := h
  exact ⟨rs, s.tup h1, h2, fun d r e x y => s.tup (h3 d r e x y)⟩
theorem HouseAt.but {xs : List V} (h : HouseAt K H a ds) (hg : H g = some (.lst xs)) (s : But g H H') : HouseAt K H' a ds := by
  obtain ⟨rs, h1, h2, h3⟩ := h
  exact ⟨rs, s.tup hg h1, h2, fun d r e x y => s.tup hg (h3 d r e x y)⟩
theorem ty_tup {xs : List V} (h : SqT K H a xs) : TyX K H (.ref a) (.type "tuple") := by
  rcases h with (h | ⟨o, h⟩) | ⟨o, its, n, h, c, _⟩
  · exact .base (.tup h)
  · exact .fTuple h
  · exact .kTuple h c
end
end K5

namespace K5
open PySem PySem.Spec PyProof.Rows L2
def spWhole : Sp := fun vs H Q _ => ∃ i : Int, vs = [.int i] ∧ Q (.bl true) H
def spIndex : Sp := fun vs H Q _ => ∃ i n : Int, vs = [.int i, .int n] ∧ Q (.bl (decide (0 ≤ i ∧ i < n))) H
def spDoor (K : PySem.W.Frag) : Sp := fun vs H Q _ => ∃ (a : Addr) (x y n : Int), vs = [.ref a, .int n] ∧ SqT K H a [.int x, .int y] ∧ (0 ≤ x ∧ x < n) ∧ (0 ≤ y ∧ y < n) ∧ x ≠ y ∧ Q (.bl true) H
section
variable {P : Program} {w : World} {K : PySem.W.Frag}
      {mg : Str → Option Value} {base : Heap}
theorem ok_is_whole (T : Bl mg) (D : Def K mg "is_whole" s_is_whole) : Cal P w K mg base "is_whole" ["value"] 1 spWhole := by
  refine D.ok sc_is_whole (fun _ _ _ _ _ _ us hl => match us, hl with | [_], _ => rfl) (fun vs H Q E h => ?_) (fun f cdv A outer s H vs Q E hr h => ?_)
  · obtain ⟨i, rfl, _⟩ := h
    rfl
  obtain ⟨i, rfl, q⟩ := h
  refine ⟨_, (pss_one (ps_ret (pe_and (pe_callB call_isi (by rfl) T.isinstance (by decide +kernel) (pa_cons (pv 0) (pa_cons (pe_bltn (v := .ty "int") (u := .type "int") (by rfl) T.int (by decide +kernel) rfl) pa_nil))) (pe_one (pe_not (pe_callB call_isi (by rfl) T.isinstance (by decide +kernel) (pa_cons (pv 0) (pa_cons (pe_bltn (v := .ty "bool") (u := .type "bool") (by rfl) T.bool (by decide +kernel) rfl) pa_nil)))))))), ?_⟩
  refine ⟨_, rfl, _, _, _, _, _, rfl, .ty _, .base (.int _), kit_ty (r := true) (by decide +kernel), _, rfl, iteT ?_⟩
  refine ⟨_, rfl, _, _, _, _, _, rfl, .ty _, .base (.int _), kit_ty (r := false) (by decide +kernel), _, rfl, q⟩
theorem ok_is_index (T : Bl mg) (D : Def K mg "is_index" s_is_index) (C_is_whole : Cal P w K mg base "is_whole" ["value"] 1 spWhole) : Cal P w K mg base "is_index" ["value", "count"] 2 spIndex := by
  refine D.ok sc_is_index (fun _ _ _ _ _ _ us hl => match us, hl with | [_, _], _ => rfl) (fun vs H Q E h => ?_) (fun f cdv A outer s H vs Q E hr h => ?_)
  · obtain ⟨i, n, rfl, _⟩ := h
    rfl
  obtain ⟨i, n, rfl, q⟩ := h
  obtain ⟨f_is_whole, fd_is_whole, g_is_whole, k_is_whole, b_is_whole, G_is_whole⟩ := C_is_whole
  refine ⟨_, (pss_one (ps_ret (pe_and (pe_call G_is_whole (hr.mono (by decide)) (by rfl) g_is_whole k_is_whole b_is_whole .nil pass0 (pa_cons (pv 0) pa_nil)) (pe_one (pe_chain op_le op_lt pe_int (pv 0) (pv 1)))))), ?_⟩
  refine ⟨_, rfl, _, rfl, _, rfl, iteT ?_⟩
  refine ⟨_, rfl, _, _, rfl, rfl, _, rfl, ite2 (fun h => ?_) (fun h => ?_)⟩
  · have h := of_decide_eq_true h
    refine ⟨_, rfl, _, _, rfl, rfl, ?_⟩
    have e : decide (i < n) = decide (0 ≤ i ∧ i < n) := by simp [h]
    show Q (.bl (decide (i < n))) H
    rw [e]
    exact q
  · have e : false = decide (0 ≤ i ∧ i < n) := by
      have h : ¬ 0 ≤ i := fun z => h (decide_eq_true z)
      simp [h]
    show Q (.bl false) H
    rw [e]
    exact q
theorem ok_is_door (T : Bl mg) (D : Def K mg "is_door" s_is_door) (C_is_index : Cal P w K mg base "is_index" ["value", "count"] 2 spIndex) : Cal P w K mg base "is_door" ["value", "count"] 3 (spDoor K) := by
  refine D.ok sc_is_door (fun _ _ _ _ _ _ us hl => match us, hl with | [_, _], _ => rfl) (fun vs H Q E h => ?_) (fun f cdv A outer s H vs Q E hr h => ?_)
  · obtain ⟨a, x, y, n, rfl, _⟩ := h
    rfl
  obtain ⟨a, x, y, n, rfl, ht, hx, hy, hne, q⟩ := h
  obtain ⟨f_is_index, fd_is_index, g_is_index, k_is_index, b_is_index, G_is_index⟩ := C_is_index
  refine ⟨_, (pss_cons (ps_if (PW.pt (pw_or (pt_not (pt_val (pe_callB call_isi (by rfl) T.isinstance (by decide +kernel) (pa_cons (pv 0) (pa_cons (pe_bltn (v := .ty "tuple") (u := .type "tuple") (by rfl) T.tuple (by decide +kernel) rfl) pa_nil))))) (pw_or1 (pt_cmpR op_ne (pe_callB call_len_seq (by rfl) T.len PySem.boot_len (pa_cons (pv 0) pa_nil)) pe_int (nomark _))))) (pss_one (ps_ret pe_bl)) pss_nil)
    (pss_cons (ps_asg (pv 0) (pg_tup (n := 2) rfl (pgs_cons (pg_name (i := 2) sc_is_door.nd rfl (.inl rfl)) (pgs_cons (pg_name (i := 3) sc_is_door.nd rfl (.inl rfl)) pgs_nil))))
    (pss_one (ps_ret (pe_and (pe_call G_is_index (hr.mono (by decide)) (by rfl) g_is_index k_is_index b_is_index .nil pass0 (pa_cons (pv 2) (pa_cons (pv 1) pa_nil))) (pe_and (pe_call G_is_index (hr.mono (by decide)) (by rfl) g_is_index k_is_index b_is_index .nil pass0 (pa_cons (pv 3) (pa_cons (pv 1) pa_nil))) (pe_one (pe_cmpR op_ne (pv 2) (pv 3) (nomark _))))))))), ?_⟩
  refine ⟨_, rfl, _, _, _, _, _, rfl, .ty _, ty_tup ht, kit_ty (r := true) (by decide +kernel), _, rfl, iteF ?_⟩
  refine ⟨_, rfl, _, _, rfl, .inr ht, rfl, _, rfl, iteF ?_⟩
  refine ⟨_, rfl, _, _, rfl, ht, rfl, _, _, rfl, _, _, rfl, rfl, ?_⟩
  refine ⟨_, rfl, _, rfl, _, _, rfl, _, rfl, ?_⟩
  rw [decide_eq_true hx]
  refine iteT ⟨_, rfl, _, rfl, _, _, rfl, _, rfl, ?_⟩
  rw [decide_eq_true hy]
  refine iteT ⟨_, rfl, _, rfl, rfl, ?_⟩
  rw [decide_eq_false (show ¬ V.int x = V.int y from fun z => hne (V.int.inj z))]
  exact q
end
end K5

namespace K5
open PySem PySem.Spec PyProof.Rows L2
/-- a list of numbers as values -/
def nv (L : List Nat) : List V := L.map fun (x : Nat) => V.int (x : Int)
theorem nv_len (L : List Nat) : (nv L).length = L.length := by unfold nv; rw [List.length_map]
theorem nv_get {L : List Nat} {x y : Nat} (h : L[x]? = some y) : (nv L)[x]? = some (.int (y : Int)) := by
  unfold nv
  rw [List.getElem?_map, h]
  rfl
theorem nv_set (L : List Nat) (x y : Nat) : (nv L).set x (.int (y : Int)) = nv (L.set x y) := by
  unfold nv
  rw [List.map_set]
theorem nv_at {L : List Nat} {x y : Nat} (h : L[x]? = some y) : atI (nv L) (x : Int) = some (.int (y : Int)) := atI_nat (nv_get h)
theorem ixN_nat {n x : Nat} (h : x < n) : ixN n (x : Int) = some x := by
  unfold ixN
  rw [if_pos (by omega), if_pos (by omega), Int.toNat_natCast]
theorem upd_self {H : Hp} {p : Addr} {o : HO} (h : H p = some o) : upd H p o = H := by
  funext b
  unfold upd
  by_cases e : b = p
  · rw [if_pos e, e, h]
  · rw [if_neg e]
theorem get_of {α : Type} {L : List α} {n x : Nat} (h : L.length = n) (hx : x < n) : ∃ y, L[x]? = some y := ⟨_, List.getElem?_eq_getElem (h ▸ hx)⟩
theorem rgV_nat (n : Nat) : rgV 0 (n : Int) = nv (List.range n) := by
  unfold rgV nv
  rw [show ((n : Int) - 0).toNat = n by omega]
  apply List.map_congr_left
  intro i _
  rw [Int.zero_add]
theorem dec_ne {i j : Int} (h : i ≠ j) : decide (V.int i = V.int j) = false := decide_eq_false fun z => h (V.int.inj z)
theorem dec_eq (i : Int) : decide (V.int i = V.int i) = true := decide_eq_true rfl
def spFind : Sp := fun vs H Q _ => ∃ (p : Addr) (L : List Nat) (n : Nat) (rank : Nat → Nat) (R : Nat → Nat → Prop) (room : Nat), vs = [.ref p, .int (room : Int)] ∧ H p = some (.lst (nv L)) ∧ Uf n L rank R ∧
  (∀ a b c, R a b → R b c → R a c) ∧ (∀ a, R a a) ∧ room < n ∧ ∀ (L' : List Nat) (r : Nat), Uf n L' rank R → R room r → L'[r]? = some r → (∀ x : Nat, L[x]? = some x → L'[x]? = some x) → Q (.int (r : Nat)) (upd H p (.lst (nv L')))
def spRing (K : PySem.W.Frag) : Sp := fun vs H Q _ => ∃ (a : Addr) (ds : List (Nat × Nat)) (n : Nat), vs = [.ref a] ∧ HouseAt K H a ds ∧ Tree n ds ∧ n ≤ 1000 ∧ ∀ H', Same H H' → Q .non H'
section
variable {P : Program} {w : World} {K : PySem.W.Frag}
      {mg : Str → Option Value} {base : Heap}
theorem ok_find_root (T : Bl mg) (D : Def K mg "find_root" s_find_root) : Cal P w K mg base "find_root" ["links", "room"] 1 spFind := by
  refine D.ok sc_find_root (fun _ _ _ _ _ _ us hl => match us, hl with | [_, _], _ => rfl) (fun vs H Q E h => ?_) (fun f cdv A outer s H vs Q E hr h => ?_)
  · obtain ⟨p, L, n, rank, R, room, rfl, _⟩ := h
    rfl
  obtain ⟨p, L, n, rank, R, room, rfl, hp, u, tr, rf, hlt, q⟩ := h
  refine ⟨_, (pss_cons (ps_while PassesOwn.never (pt_cmpR op_ne (pe_ix ix_list (pv 0) (pv 1) (fun _ _ => rfl)) (pv 1) (nomark _)) (pss_cons (ps_asg (pe_ix ix_list (pv 0) (pe_ix ix_list (pv 0) (pv 1) (fun _ _ => rfl)) (fun _ _ => rfl)) (pg_sub (pv 0) (pv 1) set_list))
    (pss_one (ps_set (i := 1) sc_find_root.nd rfl (.inl rfl) (pe_ix ix_list (pv 0) (pv 1) (fun _ _ => rfl))))))
    (pss_one (ps_ret (pv 1)))), ?_⟩
  refine ⟨fun m σ H1 => ∃ (L1 : List Nat) (r : Nat), m = rank r ∧ σ = [some (.ref p), some (.int (r : Nat))] ∧ H1 = upd H p (.lst (nv L1)) ∧ Uf n L1 rank R ∧ R room r ∧ r < n ∧ ∀ x : Nat, L[x]? = some x → L1[x]? = some x, ⟨rank room, L, room, rfl, rfl, (upd_self hp).symm, u, rf _, hlt, fun _ h => h⟩, fun m σ H1 hW => ?_⟩
  obtain ⟨L1, r, rfl, rfl, rfl, u1, rr, hr1, ro⟩ := hW
  obtain ⟨y, hy⟩ := get_of u1.len hr1
  refine ⟨_, rfl, _, rfl, _, _, _, _, rfl, rfl, SqL.of upd_same, nv_at hy, _, rfl, rfl, _, rfl, ?_⟩
  by_cases e : y = r
  · subst e
    rw [dec_eq]
    exact iteF ⟨_, rfl, q L1 y u1 rr hy ro⟩
  · rw [dec_ne (by omega)]
    obtain ⟨z, hz⟩ := get_of u1.len (u1.at_ _ _ hy).1
    refine iteT ⟨fun σ' H' => ∃ (L2 : List Nat) (r2 : Nat), rank r2 < rank r ∧ σ' = [some (.ref p), some (.int (r2 : Nat))] ∧ H' = upd H p (.lst (nv L2)) ∧ Uf n L2 rank R ∧ R room r2 ∧ r2 < n ∧ ∀ x : Nat, L[x]? = some x → L2[x]? = some x, fun σ' H' ⟨L2, r2, h1, h2⟩ => ⟨_, h1, L2, r2, rfl, h2⟩, ?_⟩
    refine ⟨_, rfl, _, rfl, _, rfl, _, _, _, _, rfl, rfl, SqL.of upd_same, nv_at hy, _, _, _, _, rfl, rfl, SqL.of upd_same, nv_at hz, ?_⟩
    refine ⟨_, rfl, _, rfl, _, _, _, r, rfl, rfl, upd_same, ixN_nat (by rw [nv_len, u1.len]; exact hr1), ?_⟩
    rw [upd_upd, nv_set]
    have hz' : (L1.set r z)[r]? = some z := by
      rw [List.getElem?_set_self (by rw [u1.len]; exact hr1)]
    refine ⟨_, rfl, _, rfl, _, _, _, _, rfl, rfl, SqL.of upd_same, nv_at hz', ?_⟩
    have a1 := u1.at_ _ _ hy
    have a2 := u1.at_ _ _ hz
    refine ⟨L1.set r z, z, u1.less hy hz e, rfl, rfl, u1.half tr hy hz, tr _ _ _ rr (tr _ _ _ a1.2.1 a2.2.1), a2.1, fun x hx => ?_⟩
    have h1 := ro x hx
    have ne : r ≠ x := fun z => by
      subst z
      rw [h1] at hy
      exact e (Option.some.inj hy).symm
    rw [List.getElem?_set_ne ne]
    exact h1
theorem ok_first_ring (T : Bl mg) (D : Def K mg "first_ring" s_first_ring) (C_find_root : Cal P w K mg base "find_root" ["links", "room"] 1 spFind) : Cal P w K mg base "first_ring" ["doors"] 2 (spRing K) := by
  refine D.ok sc_first_ring (fun _ _ _ _ _ _ us hl => match us, hl with | [_], _ => rfl) (fun vs H Q E h => ?_) (fun f cdv A outer s H vs Q E hr h => ?_)
  · obtain ⟨a, ds, n, rfl, _⟩ := h
    rfl
  obtain ⟨a, ds, n, rfl, hH, tree, hn, q⟩ := h
  obtain ⟨rs, hrs, hlen, hds⟩ := id hH
  obtain ⟨side, s1, s2⟩ := tree.side
  have hdn := tree.len
  obtain ⟨f_find_root, fd_find_root, g_find_root, k_find_root, b_find_root, G_find_root⟩ := C_find_root
  refine ⟨_, (pss_cons (ps_set (i := 1) sc_first_ring.nd rfl (.inl rfl) (pe_listRg rfl (by rfl) T.list (prg_1 (by rfl) T.range (pe_op op_add (pe_callB call_len_seq (by rfl) T.len PySem.boot_len (pa_cons (pv 0) pa_nil)) pe_int))))
    (pss_cons (ps_for PassesOwn.never rfl (pi_enumT (by rfl) T.enumerate (pa_cons (pv 0) pa_nil)) (pg_tup (n := 2) rfl (pgs_cons (pg_name (i := 2) sc_first_ring.nd rfl (.inl rfl)) (pgs_cons (pg_tup (n := 2) rfl (pgs_cons (pg_name (i := 3) sc_first_ring.nd rfl (.inl rfl)) (pgs_cons (pg_name (i := 4) sc_first_ring.nd rfl (.inl rfl)) pgs_nil))) pgs_nil)))
    (pss_cons (ps_set (i := 5) sc_first_ring.nd rfl (.inl rfl) (pe_call G_find_root (hr.mono (by decide)) (by rfl) g_find_root k_find_root b_find_root .nil pass0 (pa_cons (pv 1) (pa_cons (pv 3) pa_nil))))
    (pss_cons (ps_set (i := 6) sc_first_ring.nd rfl (.inl rfl) (pe_call G_find_root (hr.mono (by decide)) (by rfl) g_find_root k_find_root b_find_root .nil pass0 (pa_cons (pv 1) (pa_cons (pv 4) pa_nil))))
    (pss_cons (ps_if (pt_cmpR op_eq (pv 5) (pv 6) (nomark _)) (pss_one (ps_ret (pv 2))) pss_nil)
    (pss_one (ps_asg (pv 6) (pg_sub (pv 1) (pv 5) set_list)))))))
    (pss_one (ps_ret pe_non)))), ?_⟩
  have e1 : (((rs.map V.ref).length : Nat) : Int) + 1 = ((n : Nat) : Int) := by
    rw [List.length_map, hlen]
    omega
  refine ⟨_, rfl, _, _, rfl, .inr hrs, _, _, rfl, rfl, _, rfl, .of_le (Int.le_refl _) (by omega) (by omega) (by omega), fun q0 nq => ?_⟩
  rw [e1, rgV_nat]
  refine ⟨_, rfl, a, _, rfl, (Same.upd nq).tup hrs, ?_⟩
  refine for_it (walk_enumT (K := K) (a := a) (xs := rs.map V.ref)) (fun k σ H1 => ∃ L rank y2 y3 y4 y5 y6, σ = [some (.ref a), some (.ref q0), y2, y3, y4, y5, y6] ∧ Same H H1 ∧ H1 q0 = some (.lst (nv L)) ∧ Uf n L rank (Rk side k))
    ⟨_, _, _, _, _, _, _, rfl, Same.upd nq, upd_same, Uf.range n _ Rk.rf⟩ (fun i σ H1 _ ⟨_, _, _, _, _, _, _, _, sm, _⟩ => sm.tup hrs) ?_ ?_
  · rintro k x σ H1 H2 hk ⟨L, rank, y2, y3, y4, y5, y6, rfl, sm, hq0, u⟩ ⟨t, x1, x2, rfl, nt, rfl, ex1, ex2⟩
    cases ex1
    have hk' : k < ds.length := by
      rw [List.length_map, hlen] at hk
      exact hk
    obtain ⟨e, he⟩ : ∃ e, ds[k]? = some e := get_of rfl hk'
    obtain ⟨r, hr0⟩ : ∃ r, rs[k]? = some r := get_of hlen hk'
    have ex2' : V.ref r = x2 := by
      have ex2 : (rs.map V.ref)[k]? = some x2 := ex2
      rw [List.getElem?_map, hr0] at ex2
      exact Option.some.inj ex2
    subst ex2'
    have sm2 : Same H1 (upd H1 t (.tup [.int (k : Nat), .ref r])) := Same.upd nt
    have hrd := sm2.tup (sm.tup (hds k r e hr0 he))
    have hq2 := sm2 _ _ hq0
    have elt := tree.lt e (List.mem_of_getElem? he)
    refine ⟨t, _, rfl, SqT.of upd_same, rfl, _, _, rfl, _, _, rfl, ⟨r, _, rfl, hrd, rfl, _, _, rfl, _, _, rfl, rfl, rfl, ?_⟩⟩
    refine ⟨_, rfl, _, rfl, q0, L, n, rank, Rk side k, e.1, rfl, hq2, u, Rk.tr, Rk.rf, elt.1, fun L1 ra u1 hra rta _ => ?_⟩
    refine ⟨_, rfl, _, rfl, q0, L1, n, rank, Rk side k, e.2, rfl, upd_same, u1, Rk.tr, Rk.rf, elt.2, fun L2 rb u2 hrb rtb ro2 => ?_⟩
    rw [upd_upd]
    refine ⟨_, rfl, _, rfl, rfl, _, rfl, ?_⟩
    have nab : ra ≠ rb := fun z => ring_no s1 he hra (z ▸ hrb)
    show if decide (V.int (ra : Int) = V.int (rb : Int)) = true then _ else _
    rw [dec_ne (by omega)]
    refine iteF ?_
    have rta2 := ro2 ra rta
    refine ⟨_, rfl, _, rfl, _, rfl, _, _, _, ra, rfl, rfl, upd_same, ixN_nat (by rw [nv_len]; exact get_lt rta2), ?_⟩
    rw [upd_upd, nv_set]
    exact ⟨_, _, _, _, _, _, _, rfl, (sm.trans sm2).at nq, upd_same, u2.union s1 s2 he hra hrb rta2 rtb⟩
  · rintro σ H1 ⟨L, rank, y2, y3, y4, y5, y6, rfl, sm, hq0, u⟩
    exact q H1 sm
end
end K5

namespace K5
open PySem PySem.Spec PyProof.Rows L2
def spNeedRoom (K : PySem.W.Frag) : Sp := fun vs H Q _ => ∃ (a : Addr) (ds : List (Nat × Nat)) (x : Int), vs = [.ref a, .int x] ∧ HouseAt K H a ds ∧ 0 ≤ x ∧ x < ds.length + 1 ∧ Q .non H
def spNeedDoor (K : PySem.W.Frag) : Sp := fun vs H Q _ => ∃ (a : Addr) (ds : List (Nat × Nat)) (x : Int), vs = [.ref a, .int x] ∧ HouseAt K H a ds ∧ 0 ≤ x ∧ x < ds.length ∧ Q .non H
section
variable {P : Program} {w : World} {K : PySem.W.Frag}
      {mg : Str → Option Value} {base : Heap}
theorem ok_check_house (T : Bl mg) (D : Def K mg "check_house" s_check_house) (C_is_door : Cal P w K mg base "is_door" ["value", "count"] 3 (spDoor K)) (C_first_ring : Cal P w K mg base "first_ring" ["doors"] 2 (spRing K)) :
    Cal P w K mg base "check_house" ["value"] 4 (spRing K) := by
  refine D.ok sc_check_house (fun _ _ _ _ _ _ us hl => match us, hl with | [_], _ => rfl) (fun vs H Q E h => ?_) (fun f cdv A outer s H vs Q E hr h => ?_)
  · obtain ⟨a, ds, n, rfl, _⟩ := h
    rfl
  obtain ⟨a, ds, n, rfl, hH, tree, hn, q⟩ := h
  obtain ⟨rs, hrs, hlen, hds⟩ := id hH
  have hdn := tree.len
  obtain ⟨f_is_door, fd_is_door, g_is_door, k_is_door, b_is_door, G_is_door⟩ := C_is_door
  obtain ⟨f_first_ring, fd_first_ring, g_first_ring, k_first_ring, b_first_ring, G_first_ring⟩ := C_first_ring
  refine ⟨_, (pss_cons (ps_if (pt_not (pt_val (pe_callB call_isi (by rfl) T.isinstance (by decide +kernel) (pa_cons (pv 0) (pa_cons (pe_bltn (v := .ty "tuple") (u := .type "tuple") (by rfl) T.tuple (by decide +kernel) rfl) pa_nil))))) (pss_one (ps_ret (pe_tup (pa_cons pe_str pa_nil)))) pss_nil)
    (pss_cons (ps_for PassesOwn.never rfl (pi_enumT (by rfl) T.enumerate (pa_cons (pv 0) pa_nil)) (pg_tup (n := 2) rfl (pgs_cons (pg_name (i := 1) sc_check_house.nd rfl (.inl rfl)) (pgs_cons (pg_name (i := 2) sc_check_house.nd rfl (.inl rfl)) pgs_nil)))
    (pss_one (ps_if (pt_not (pt_val (pe_call G_is_door (hr.mono (by decide)) (by rfl) g_is_door k_is_door b_is_door .nil pass0 (pa_cons (pv 2) (pa_cons (pe_op op_add (pe_callB call_len_seq (by rfl) T.len PySem.boot_len (pa_cons (pv 0) pa_nil)) pe_int) pa_nil))))) (pss_one (ps_ret (pe_tup (pa_cons pe_str (pa_cons (pv 1) pa_nil))))) pss_nil)))
    (pss_cons (ps_set (i := 3) sc_check_house.nd rfl (.inl rfl) (pe_call G_first_ring (hr.mono (by decide)) (by rfl) g_first_ring k_first_ring b_first_ring .nil pass0 (pa_cons (pv 0) pa_nil)))
    (pss_cons (ps_if (pt_cmpR op_notN (pv 3) pe_non (nomark _)) (pss_one (ps_ret (pe_tup (pa_cons pe_str (pa_cons (pv 3) pa_nil))))) pss_nil)
    (pss_one (ps_ret pe_non)))))), ?_⟩
  refine ⟨_, rfl, _, _, _, _, _, rfl, .ty _, ty_tup hrs, kit_ty (r := true) (by decide +kernel), _, rfl, iteF ?_⟩
  refine ⟨_, rfl, a, _, rfl, hrs, ?_⟩
  refine for_it (walk_enumT (K := K) (a := a) (xs := rs.map V.ref)) (fun k σ H1 => ∃ y1 y2 y3, σ = [some (.ref a), y1, y2, y3] ∧ Same H H1)
    ⟨_, _, _, rfl, Same.refl _⟩ (fun i σ H1 _ ⟨_, _, _, _, sm⟩ => sm.tup hrs) ?_ ?_
  · rintro k x σ H1 H2 hk ⟨y1, y2, y3, rfl, sm⟩ ⟨t, x1, x2, rfl, nt, rfl, ex1, ex2⟩
    cases ex1
    have hk' : k < ds.length := by
      rw [List.length_map, hlen] at hk
      exact hk
    obtain ⟨e, he⟩ : ∃ e, ds[k]? = some e := get_of rfl hk'
    obtain ⟨r, hr0⟩ : ∃ r, rs[k]? = some r := get_of hlen hk'
    have ex2' : V.ref r = x2 := by
      have ex2 : (rs.map V.ref)[k]? = some x2 := ex2
      rw [List.getElem?_map, hr0] at ex2
      exact Option.some.inj ex2
    subst ex2'
    have sm2 : Same H1 (upd H1 t (.tup [.int (k : Nat), .ref r])) := Same.upd nt
    have sm3 := sm.trans sm2
    have elt := tree.lt e (List.mem_of_getElem? he)
    obtain ⟨side, s1, s2⟩ := tree.side
    have ene : e.1 ≠ e.2 := fun z => s1 k e he (by rw [z])
    refine ⟨t, _, rfl, SqT.of upd_same, rfl, _, _, rfl, _, _, rfl, rfl, ?_⟩
    refine ⟨_, rfl, _, rfl, _, _, rfl, .inr (sm3.tup hrs), _, _, rfl, rfl, ?_⟩
    refine ⟨r, e.1, e.2, _, rfl, sm3.tup (hds k r e hr0 he), ?_, ?_, by omega, _, rfl, iteF ⟨_, _, _, rfl, sm3⟩⟩
    · rw [List.length_map, hlen]; omega
    · rw [List.length_map, hlen]; omega
  · rintro σ H1 ⟨y1, y2, y3, rfl, sm⟩
    refine ⟨_, rfl, a, ds, n, rfl, hH.same sm, tree, hn, fun H2 sm2 => ?_⟩
    refine ⟨_, rfl, rfl, _, rfl, iteF ?_⟩
    exact q H2 (sm.trans sm2)
theorem ok_need_house (T : Bl mg) (D : Def K mg "need_house" s_need_house) (C_check_house : Cal P w K mg base "check_house" ["value"] 4 (spRing K)) : Cal P w K mg base "need_house" ["house"] 5 (spRing K) := by
  refine D.ok sc_need_house (fun _ _ _ _ _ _ us hl => match us, hl with | [_], _ => rfl) (fun vs H Q E h => ?_) (fun f cdv A outer s H vs Q E hr h => ?_)
  · obtain ⟨a, ds, n, rfl, _⟩ := h
    rfl
  obtain ⟨a, ds, n, rfl, hH, tree, hn, q⟩ := h
  obtain ⟨f_check_house, fd_check_house, g_check_house, k_check_house, b_check_house, G_check_house⟩ := C_check_house
  refine ⟨_, (pss_cons (ps_set (i := 1) sc_need_house.nd rfl (.inl rfl) (pe_call G_check_house (hr.mono (by decide)) (by rfl) g_check_house k_check_house b_check_house .nil pass0 (pa_cons (pv 0) pa_nil)))
    (pss_one (ps_if (pt_cmpR op_notN (pv 1) pe_non (nomark _)) pss_never pss_nil))), ?_⟩
  refine ⟨_, rfl, a, ds, n, rfl, hH, tree, hn, fun H2 sm2 => ⟨_, rfl, rfl, _, rfl, iteF ?_⟩⟩
  exact q H2 sm2
end
end K5

namespace K5
open PySem PySem.Spec PyProof.Rows L2
/-- a list at q of pairs of numbers, each a tuple -/
def PairsAt (H : Hp) (q : Addr) (l : List (Nat × Nat)) : Prop :=
  ∃ ts : List Addr, H q = some (.lst (ts.map V.ref)) ∧ ts.length = l.length ∧ ∀ (i : Nat) (t : Addr) (e : Nat × Nat), ts[i]? = some t → l[i]? = some e → H t = some (.tup [.int e.1, .int e.2])
theorem PairsAt.same {H H' : Hp} {q : Addr} {l} (h : PairsAt H q l) (s : Same H H') : PairsAt H' q l := by
  obtain ⟨ts, h1, h2, h3⟩ := h
  exact ⟨ts, s _ _ h1, h2, fun i t e a b => s _ _ (h3 i t e a b)⟩
theorem ne_lt {H : Hp} {a b : Addr} {xs ys : List V} (h : H a = some (.lst xs)) (h' : H b = some (.tup ys)) : b ≠ a := ne_of h' h (by intro z; cases z)
/-- what stands aside of q keeps -/
theorem PairsAt.aside {H H' : Hp} {q p : Addr} {l} {xs : List V} (h : PairsAt H q l) (hp : H p = some (.lst xs)) (ne : q ≠ p) (s : But p H H') : PairsAt H' q l := by
  obtain ⟨ts, h1, h2, h3⟩ := h
  exact ⟨ts, s _ _ ne h1, h2, fun i t e a b => s _ _ (ne_lt hp (h3 i t e a b)) (h3 i t e a b)⟩
theorem PairsAt.push {H H' : Hp} {q t : Addr} {l : List (Nat × Nat)} {ts : List Addr} {d y : Nat} (h1 : H q = some (.lst (ts.map V.ref))) (h2 : ts.length = l.length) (h3 : ∀ (i : Nat) (t : Addr) (e : Nat × Nat), ts[i]? = some t → l[i]? = some e → H t = some (.tup [.int e.1, .int e.2]))
    (s : But q H H') (hq : H' q = some (.lst (ts.map V.ref ++ [.ref t]))) (ht : H' t = some (.tup [.int (d : Int), .int (y : Int)])) : PairsAt H' q (l ++ [(d, y)]) := by
  refine ⟨ts ++ [t], by rw [hq, List.map_append]; rfl, by simp [h2], fun i t' e a b => ?_⟩
  by_cases hi : i < ts.length
  · rw [List.getElem?_append_left hi] at a
    rw [List.getElem?_append_left (by omega)] at b
    have := h3 i t' e a b
    exact s _ _ (ne_lt h1 this) this
  · have hlt := get_lt a
    rw [List.length_append, List.length_singleton] at hlt
    have ei : i = ts.length := by omega
    subst ei
    rw [List.getElem?_append_right (Nat.le_refl _), Nat.sub_self] at a
    rw [h2, List.getElem?_append_right (Nat.le_refl _), Nat.sub_self] at b
    cases a
    cases b
    exact ht
/-- the rows of exits: a list each -/
def Rows (H : Hp) (ps : List Addr) (ex : Nat → List (Nat × Nat)) : Prop := ∀ (x : Nat) (q : Addr), ps[x]? = some q → PairsAt H q (ex x)
theorem Rows.same {H H' : Hp} {ps ex} (h : Rows H ps ex) (s : Same H H') : Rows H' ps ex := fun x q e => (h x q e).same s
theorem Rows.push {H : Hp} {ps : List Addr} {ex : Nat → List (Nat × Nat)} (R : Rows H ps ex) (nd : ps.Nodup) {x : Nat} {q t : Addr} (hq : ps[x]? = some q) (nt : H t = none) {d y : Nat} {xs : List V} (hx : H q = some (.lst xs)) :
    Rows (upd (upd H t (.tup [.int (d : Int), .int (y : Int)])) q (.lst (xs ++ [.ref t]))) ps (fun z => if z = x then ex z ++ [(d, y)] else ex z) := by
  have s1 : But q H (upd (upd H t (.tup [.int (d : Int), .int (y : Int)])) q (.lst (xs ++ [.ref t]))) := fun b o ne e => by
    rw [upd_ne ne, upd_ne (ne_of_none e nt)]
    exact e
  have ntq : t ≠ q := (ne_of_none hx nt).symm
  intro z q' hz
  by_cases e : z = x
  · subst e
    rw [hq] at hz
    cases hz
    obtain ⟨ts, h1, h2, h3⟩ := R z q hq
    rw [hx] at h1
    cases h1
    simp only [if_true]
    exact .push (ts := ts) hx h2 h3 s1 upd_same (by rw [upd_ne ntq, upd_same])
  · simp only [if_neg e]
    have ne : q' ≠ q := fun z' => by
      subst z'
      exact e (nd_ix nd hz hq)
    exact (R z q' hz).aside hx ne s1
theorem ex_mem {ds : List (Nat × Nat)} {ex : Nat → List (Nat × Nat)} {k : Nat} {e : Nat × Nat} (he : ds[k]? = some e) (ne : e.1 ≠ e.2) (mem : ∀ x d y, (d, y) ∈ ex x ↔ d < k ∧ Joins ds d x y) (x d y : Nat) :
    (d, y) ∈ (if x = e.2 then (if x = e.1 then ex x ++ [(k, e.2)] else ex x) ++ [(k, e.1)] else if x = e.1 then ex x ++ [(k, e.2)] else ex x) ↔ d < k + 1 ∧ Joins ds d x y := by
  have J : Joins ds k x y ↔ (x = e.1 ∧ y = e.2) ∨ (x = e.2 ∧ y = e.1) := by
    unfold Joins
    rw [he]
    constructor
    · rintro (h | h)
      · have h := Option.some.inj h
        exact .inl ⟨by rw [h], by rw [h]⟩
      · have h := Option.some.inj h
        exact .inr ⟨by rw [h], by rw [h]⟩
    · rintro (⟨rfl, rfl⟩ | ⟨rfl, rfl⟩)
      · exact .inl rfl
      · exact .inr rfl
  have step : (d < k + 1 ∧ Joins ds d x y) ↔ (d < k ∧ Joins ds d x y) ∨ (d = k ∧ ((x = e.1 ∧ y = e.2) ∨ (x = e.2 ∧ y = e.1))) := by
    constructor
    · rintro ⟨h1, h2⟩
      by_cases q : d = k
      · subst q
        exact .inr ⟨rfl, J.mp h2⟩
      · exact .inl ⟨by omega, h2⟩
    · rintro (⟨h1, h2⟩ | ⟨rfl, h2⟩)
      · exact ⟨by omega, h2⟩
      · exact ⟨by omega, J.mpr h2⟩
  rw [step, ← mem x d y]
  by_cases h2 : x = e.2
  · have h1 : ¬ x = e.1 := fun z => ne (z.symm.trans h2)
    rw [if_pos h2, if_neg h1, List.mem_append, List.mem_singleton, Prod.mk.injEq]
    simp [h1, h2, ne.symm]
  · rw [if_neg h2]
    by_cases h1 : x = e.1
    · rw [if_pos h1, List.mem_append, List.mem_singleton, Prod.mk.injEq]
      simp [h1, ne]
    · rw [if_neg h1]
      simp [h1, h2]
theorem small3k {n : Nat} (h : n ≤ 3000) : n < sizeLine := Nat.lt_of_le_of_lt h (by decide)
theorem lcYes {A B : Hp → Prop} {σ : L2.St} {H : Hp} (h : A H) : tYes σ H (fun b H3 => if b = true then A H3 else B H3) := by
  show (if true = true then A H else B H)
  rw [if_pos rfl]
  exact h
def spExits (K : PySem.W.Frag) : Sp := fun vs H Q _ => ∃ (a : Addr) (ds : List (Nat × Nat)) (n : Nat), vs = [.ref a] ∧ HouseAt K H a ds ∧ Tree n ds ∧ n ≤ 1000 ∧
  ∀ (H' : Hp) (p : Addr) (ps : List Addr) (ex : Nat → List (Nat × Nat)), Same H H' → H p = none → H' p = some (.lst (ps.map V.ref)) → ps.length = n → Rows H' ps ex → (∀ x d y, (d, y) ∈ ex x ↔ Joins ds d x y) → Q (.ref p) H'
section
variable {P : Program} {w : World} {K : PySem.W.Frag}
      {mg : Str → Option Value} {base : Heap}
theorem ok_exits_of (T : Bl mg) (D : Def K mg "exits_of" s_exits_of) : Cal P w K mg base "exits_of" ["house"] 1 (spExits K) := by
  refine D.ok sc_exits_of (fun _ _ _ _ _ _ us hl => match us, hl with | [_], _ => rfl) (fun vs H Q E h => ?_) (fun f cdv A outer s H vs Q E hr h => ?_)
  · obtain ⟨a, ds, n, rfl, _⟩ := h
    rfl
  obtain ⟨a, ds, n, rfl, hH, tree, hn, q⟩ := h
  obtain ⟨rs, hrs, hlen, hds⟩ := id hH
  have hdn := tree.len
  refine ⟨_, (pss_cons (ps_setLc (i := 1) (own := [("room", 2)]) (g := gName 2)  rfl sc_exits_of.nd rfl rfl (sw_true rfl rfl rfl (by decide +kernel)) (pi_range1 rfl T.range (pa_cons (pe_op op_add (pe_callB call_len_seq (by rfl) T.len PySem.boot_len (pa_cons (pv 0) pa_nil)) pe_int) pa_nil)) (blkOk_by (N := N_exits_of) (sc := defScope s_exits_of) (own := [("room", 2)]) (by decide +kernel)) (fun _ _ _ _ _ => (pg_name (i := 2) sc_exits_of.nd rfl (.inl rfl) (.inr rfl))) (fun _ _ _ _ _ => pts_nil) (fun _ _ _ _ _ => (pe_lst pa_nil)))
    (pss_cons (ps_for PassesOwn.never rfl (pi_enumT (by rfl) T.enumerate (pa_cons (pv 0) pa_nil)) (pg_tup (n := 2) rfl (pgs_cons (pg_name (i := 3) sc_exits_of.nd rfl (.inl rfl)) (pgs_cons (pg_tup (n := 2) rfl (pgs_cons (pg_name (i := 4) sc_exits_of.nd rfl (.inl rfl)) (pgs_cons (pg_name (i := 5) sc_exits_of.nd rfl (.inl rfl)) pgs_nil))) pgs_nil)))
    (pss_cons (ps_expr (pe_bm PySem.F.plainAttrs_list PySem.F.slot_list_append PySem.F.type_list_append mt_append (pe_ix ix_list (pv 1) (pv 4) (fun _ _ => rfl)) (pa_cons (pe_tup (pa_cons (pv 3) (pa_cons (pv 5) pa_nil))) pa_nil)))
    (pss_one (ps_expr (pe_bm PySem.F.plainAttrs_list PySem.F.slot_list_append PySem.F.type_list_append mt_append (pe_ix ix_list (pv 1) (pv 5) (fun _ _ => rfl)) (pa_cons (pe_tup (pa_cons (pv 3) (pa_cons (pv 4) pa_nil))) pa_nil))))))
    (pss_one (ps_ret (pv 1))))), ?_⟩
  have en : (((rs.map V.ref).length : Nat) : Int) + 1 = ((n : Nat) : Int) := by
    rw [List.length_map, hlen]
    omega
  refine ⟨_, rfl, _, _, rfl, .inr hrs, _, _, rfl, rfl, (n : Int), congrArg (fun z => [V.int z]) en, by omega, by omega, fun p np => ?_⟩
  refine lc_range (lo := 0) (n := n) (fun i H1 => ∃ ps : List Addr, Same H H1 ∧ H1 p = some (.lst (ps.map V.ref)) ∧ ps.length = i ∧ ps.Nodup ∧ ∀ x ∈ ps, H x = none ∧ H1 x = some (.lst [])) ?_ ?_ ?_
  · exact ⟨[], Same.upd np, upd_same, rfl, List.nodup_nil, fun _ h => nomatch h⟩
  · rintro i H1 hi ⟨ps, sm, hp, hl, nd, hx⟩
    refine ⟨rfl, lcYes ?_⟩
    refine ⟨Nat.zero_le _, fun x nx => ?_⟩
    have npx : p ≠ x := ne_of_none hp nx
    have xps : x ∉ ps := fun m => by
      rw [(hx x m).2] at nx
      cases nx
    have pps : p ∉ ps := fun m => by
      have h1 := (hx p m).2
      rw [hp] at h1
      cases ps with
      | nil => cases m
      | cons a r => cases h1
    refine ⟨ps.map V.ref, by rw [upd_ne npx]; exact hp, ?_, ps ++ [x], (sm.trans (Same.upd nx)).at np, ?_, by simp [hl], ?_, fun z m => ?_⟩
    · rw [List.length_map]
      exact small1000 (by omega)
    · rw [upd_same, List.map_append]
      rfl
    · exact nd_snoc nd xps
    · rcases List.mem_append.mp m with m | m
      · have ne1 : z ≠ p := fun e => pps (e ▸ m)
        have ne2 : z ≠ x := fun e => xps (e ▸ m)
        rw [upd_ne ne1, upd_ne ne2]
        exact hx z m
      · rw [List.mem_singleton.mp m, upd_ne npx.symm, upd_same]
        exact ⟨sm.free nx, rfl⟩
  · rintro H1 ⟨ps, sm, hp, hl, nd, hx⟩
    have pps : p ∉ ps := fun m => by
      have h1 := (hx p m).2
      rw [hp] at h1
      cases ps with
      | nil => cases m
      | cons a r => cases h1
    refine ⟨_, rfl, a, _, rfl, sm.tup hrs, ?_⟩
    refine for_it (walk_enumT (K := K) (a := a) (xs := rs.map V.ref)) (fun k σ H2 => ∃ ex y2 y3 y4 y5, σ = [some (.ref a), some (.ref p), y2, y3, y4, y5] ∧ Same H H2 ∧ H2 p = some (.lst (ps.map V.ref)) ∧ Rows H2 ps ex ∧
        (∀ x d y, (d, y) ∈ ex x ↔ d < k ∧ Joins ds d x y) ∧ ∀ x, (ex x).length ≤ 2 * k)
      ⟨fun _ => [], _, _, _, _, rfl, sm, hp, fun x q e => ⟨[], (hx q (List.mem_of_getElem? e)).2, rfl, fun i t e h => by simp at h⟩, fun x d y => by simp, fun x => Nat.zero_le _⟩
      (fun i σ H1 _ ⟨_, _, _, _, _, _, sm, _⟩ => sm.tup hrs) ?_ ?_
    · rintro k x σ H2 H3 hk ⟨ex, y2, y3, y4, y5, rfl, sm2, hp2, ro, mem, le⟩ ⟨t, x1, x2, rfl, nt, rfl, ex1, ex2⟩
      cases ex1
      have hk' : k < ds.length := by
        rw [List.length_map, hlen] at hk
        exact hk
      obtain ⟨e, he⟩ : ∃ e, ds[k]? = some e := get_of rfl hk'
      obtain ⟨r, hr0⟩ : ∃ r, rs[k]? = some r := get_of hlen hk'
      have ex2' : V.ref r = x2 := by
        have ex2 : (rs.map V.ref)[k]? = some x2 := ex2
        rw [List.getElem?_map, hr0] at ex2
        exact Option.some.inj ex2
      subst ex2'
      have elt := tree.lt e (List.mem_of_getElem? he)
      obtain ⟨side, s1, s2⟩ := tree.side
      have ene : e.1 ≠ e.2 := fun z => s1 k e he (by rw [z])
      have smt : Same H2 (upd H2 t (.tup [.int (k : Nat), .ref r])) := Same.upd nt
      have sm3 := sm2.trans smt
      have hp3 := smt _ _ hp2
      have ro3 := ro.same smt
      refine ⟨t, _, rfl, SqT.of upd_same, rfl, _, _, rfl, _, _, rfl, ⟨r, _, rfl, sm3.tup (hds k r e hr0 he), rfl, _, _, rfl, _, _, rfl, rfl, rfl, ?_⟩⟩
      generalize upd H2 t (.tup [.int (k : Nat), .ref r]) = H4 at sm3 hp3 ro3 smt
      obtain ⟨q1, hq1⟩ := get_of hl elt.1
      obtain ⟨q2, hq2⟩ := get_of hl elt.2
      obtain ⟨ts1, g1, g2, g3⟩ := ro3 _ _ hq1
      refine ⟨_, rfl, _, rfl, _, _, _, V.ref q1, rfl, rfl, SqL.of hp3, atI_nat (v := V.ref q1) (by rw [List.getElem?_map, hq1]; rfl), .inl ⟨rfl, _, SqL.of g1⟩, _, rfl, _, rfl, by show 2 ≤ sizeLine; decide, fun t1 nt1 => ?_⟩
      refine ⟨q1, _, _, rfl, rfl, by rw [upd_ne (ne_of_none g1 nt1)]; exact g1, by rw [List.length_map, g2]; exact small3k (by have := le e.1; omega), ?_⟩
      have ro4 := ro3.push nd hq1 nt1 (d := k) (y := e.2) g1
      have nq1 : H q1 = none := (hx q1 (List.mem_of_getElem? hq1)).1
      have nq2 : H q2 = none := (hx q2 (List.mem_of_getElem? hq2)).1
      have pq1 : p ≠ q1 := fun z => pps (z ▸ List.mem_of_getElem? hq1)
      have pq2 : p ≠ q2 := fun z => pps (z ▸ List.mem_of_getElem? hq2)
      have sm4 : Same H (upd (upd H4 t1 (.tup [.int (k : Nat), .int (e.2 : Nat)])) q1 (.lst (ts1.map V.ref ++ [V.ref t1]))) := (sm3.trans (Same.upd nt1)).at nq1
      have hp4 : (upd (upd H4 t1 (.tup [.int (k : Nat), .int (e.2 : Nat)])) q1 (.lst (ts1.map V.ref ++ [V.ref t1]))) p = some (.lst (ps.map V.ref)) := by
        rw [upd_ne pq1, upd_ne (ne_of_none hp3 nt1)]
        exact hp3
      generalize (upd (upd H4 t1 (.tup [.int (k : Nat), .int (e.2 : Nat)])) q1 (.lst (ts1.map V.ref ++ [V.ref t1]))) = H5 at ro4 sm4 hp4
      obtain ⟨ts2, f1, f2, f3⟩ := ro4 _ _ hq2
      have f2' : ts2.length = (ex e.2).length := by
        rw [f2]
        simp only [if_neg ene.symm]
      refine ⟨_, rfl, _, rfl, _, _, _, V.ref q2, rfl, rfl, SqL.of hp4, atI_nat (v := V.ref q2) (by rw [List.getElem?_map, hq2]; rfl), .inl ⟨rfl, _, SqL.of f1⟩, _, rfl, _, rfl, by show 2 ≤ sizeLine; decide, fun t2 nt2 => ?_⟩
      refine ⟨q2, _, _, rfl, rfl, by rw [upd_ne (ne_of_none f1 nt2)]; exact f1, by rw [List.length_map, f2']; exact small3k (by have := le e.2; omega), ?_⟩
      refine ⟨_, _, _, _, _, rfl, (sm4.trans (Same.upd nt2)).at nq2, by rw [upd_ne pq2, upd_ne (ne_of_none hp4 nt2)]; exact hp4, ro4.push nd hq2 nt2 (d := k) (y := e.1) f1, fun x d y => ?_, fun x => ?_⟩
      · exact ex_mem he ene mem x d y
      · have := le x
        by_cases e2 : x = e.2
        · simp only [e2, if_true, if_neg ene.symm]
          have := le e.2
          simp; omega
        · by_cases e1 : x = e.1
          · simp only [e1, if_true, if_neg ene]
            have := le e.1
            simp; omega
          · simp only [if_neg e1, if_neg e2]
            omega
    · rintro σ H2 ⟨ex, y2, y3, y4, y5, rfl, sm2, hp2, ro, mem, le⟩
      refine ⟨_, rfl, q H2 p ps ex sm2 np hp2 hl ro fun x d y => ?_⟩
      rw [mem x d y]
      refine ⟨fun h => h.2, fun h => ⟨?_, h⟩⟩
      rw [List.length_map, hlen]
      rcases h with h | h
      · exact get_lt h
      · exact get_lt h
end
end K5

namespace K5
open PySem PySem.Spec PyProof.Rows L2
/-- a dict whose keys are numbers: key by key -/
def DicR {β : Type} (VR : V → β → Prop) (kvs : List (Key × V)) (ks : List (Nat × β)) : Prop := Paired (fun (kv : Key × V) (k : Nat × β) => kv.1 = Sum.inl (k.1 : Int) ∧ VR kv.2 k.2) kvs ks
section
variable {β : Type} {VR VR' : V → β → Prop}
theorem DicR.mono {kvs ks} (h : DicR VR kvs ks) (f : ∀ v o, VR v o → VR' v o) : DicR VR' kvs ks := Paired.mapP h fun a b x => ⟨x.1, f _ _ x.2⟩
theorem DicR.len {kvs ks} (h : DicR VR kvs ks) : kvs.length = ks.length := Paired.length h
theorem DicR.no : ∀ {kvs : List (Key × V)} {ks : List (Nat × β)} {x : Nat}, DicR VR kvs ks → x ∉ ks.map Prod.fst → valV kvs (Sum.inl (x : Int)) = none
  | _, _, x, .nil, _ => rfl
  | kv :: _, k :: _, x, .cons h t, hx => by
    have hne : ¬ kv.1 = Sum.inl (x : Int) := fun z => by
      rw [h.1] at z
      have z := Sum.inl.inj z
      exact hx (List.mem_map.mpr ⟨k, List.mem_cons_self, by omega⟩)
    rw [valV_neg hne]
    exact DicR.no t fun m => hx (by rw [List.map_cons]; exact List.mem_cons_of_mem _ m)
theorem DicR.val : ∀ {kvs : List (Key × V)} {ks : List (Nat × β)} {x : Nat}, DicR VR kvs ks → x ∈ ks.map Prod.fst → ∃ v o, valV kvs (Sum.inl (x : Int)) = some v ∧ (x, o) ∈ ks ∧ VR v o
  | _, _, x, .nil, hx => by cases hx
  | kv :: _, k :: _, x, .cons h t, hx => by
    by_cases e : k.1 = x
    · refine ⟨kv.2, k.2, valV_pos (by rw [h.1, e]), ?_, h.2⟩
      rw [← e]
      exact List.mem_cons_self
    · have hne : ¬ kv.1 = Sum.inl (x : Int) := fun z => by
        rw [h.1] at z
        have z := Sum.inl.inj z
        omega
      rw [List.map_cons] at hx
      obtain ⟨v, o, a, b, c⟩ := DicR.val t ((List.mem_cons.mp hx).resolve_left fun q => e q.symm)
      exact ⟨v, o, by rw [valV_neg hne]; exact a, List.mem_cons_of_mem _ b, c⟩
theorem DicR.snoc : ∀ {kvs : List (Key × V)} {ks : List (Nat × β)} {x : Nat} {v : V} {o : β}, DicR VR kvs ks → VR v o → DicR VR (kvs ++ [(Sum.inl (x : Int), v)]) (ks ++ [(x, o)])
  | _, _, x, v, o, .nil, r => .cons ⟨rfl, r⟩ .nil
  | _, _, x, v, o, .cons h t, r => .cons h (DicR.snoc t r)
theorem DicR.add {kvs : List (Key × V)} {ks : List (Nat × β)} {x : Nat} {v : V} {o : β} (h : DicR VR kvs ks) (hx : x ∉ ks.map Prod.fst) (r : VR v o) : DicR VR (putK kvs (Sum.inl (x : Int)) v) (ks ++ [(x, o)]) := by
  rw [putK_new v (h.no hx)]
  exact h.snoc r
end
/-- a way's step: None, or a tuple (door, next room) -/
def WayR (H : Hp) (v : V) (o : Option (Nat × Nat)) : Prop := match o with
  | none => v = .non
  | some e => ∃ t, v = .ref t ∧ H t = some (.tup [.int (e.1 : Int), .int (e.2 : Int)])
theorem WayR.keep {H H' : Hp} {v o} (h : WayR H v o) (s : ∀ t xs, H t = some (.tup xs) → H' t = some (.tup xs)) : WayR H' v o := by
  cases o with
  | none => exact h
  | some e =>
    obtain ⟨t, a, b⟩ := h
    exact ⟨t, a, s _ _ b⟩
theorem snoc_nil {α : Type} (l : List α) : l = [] ∨ ∃ r x, l = r ++ [x] := by
  by_cases h : l = []
  · exact .inl h
  · exact .inr ⟨l.dropLast, l.getLast h, (List.dropLast_concat_getLast h).symm⟩
theorem mem_ofNat {d : Nat} {l : List Nat} : ((d : Int) ∈ l.map fun x : Nat => (x : Int)) ↔ d ∈ l := by
  constructor
  · intro h
    obtain ⟨x, hx, e⟩ := List.mem_map.mp h
    have : x = d := by omega
    exact this ▸ hx
  · intro h
    exact List.mem_map.mpr ⟨d, h, rfl⟩
theorem nv_int (l : List Nat) : nv l = (l.map fun x : Nat => (x : Int)).map V.int := by
  unfold nv
  rw [List.map_map]
  rfl
theorem nv_snoc (l : List Nat) (x : Nat) : nv (l ++ [x]) = nv l ++ [.int (x : Int)] := by
  unfold nv
  rw [List.map_append]
  rfl
/-- the dict and the list that the search writes; what stood ahead of them stands -/
structure WS (Hb H : Hp) (pw pq : Addr) (ks : List (Nat × Option (Nat × Nat))) (ws : List Nat) : Prop where
  sm : Same Hb H
  w : ∃ kvs, H pw = some (.dK kvs) ∧ DicR (WayR H) kvs ks
  q : H pq = some (.lst (nv ws))
  le : ws.length ≤ ks.length
theorem WS.ne {Hb H pw pq ks ws} (S : WS Hb H pw pq ks ws) : pw ≠ pq := by
  obtain ⟨kvs, h, _⟩ := S.w
  exact ne_of h S.q (by intro z; cases z)
theorem WS.setq {Hb H pw pq ks ws ws'} (S : WS Hb H pw pq ks ws) (nq : Hb pq = none) (hl : ws'.length ≤ ks.length) : WS Hb (upd H pq (.lst (nv ws'))) pw pq ks ws' := by
  obtain ⟨kvs, h, r⟩ := S.w
  refine ⟨S.sm.at nq, ⟨kvs, by rw [upd_ne S.ne]; exact h, r.mono fun v o x => x.keep fun t xs e => ?_⟩, upd_same, hl⟩
  rw [upd_ne (ne_lt S.q e)]
  exact e
theorem WS.add {Hb H pw pq ks ws} (S : WS Hb H pw pq ks ws) (nw : Hb pw = none) {t : Addr} (nt : H t = none) {kvs} (hk : H pw = some (.dK kvs)) (r : DicR (WayR H) kvs ks) {y d here : Nat} (ny : y ∉ ks.map Prod.fst) :
    WS Hb (upd (upd H t (.tup [.int (d : Int), .int (here : Int)])) pw (.dK (putK kvs (Sum.inl (y : Int)) (.ref t)))) pw pq (ks ++ [(y, some (d, here))]) ws := by
  have ntw : t ≠ pw := (ne_of_none hk nt).symm
  refine ⟨(S.sm.trans (Same.upd nt)).at nw, ⟨_, upd_same, (r.mono fun v o x => x.keep fun t' xs e => ?_).add ny ⟨t, rfl, by rw [upd_ne ntw, upd_same]⟩⟩, ?_, by rw [List.length_append]; exact Nat.le_trans S.le (Nat.le_add_right _ _)⟩
  · rw [upd_ne (ne_of e hk (by intro z; cases z)), upd_ne (ne_of_none e nt)]
    exact e
  · rw [upd_ne S.ne.symm, upd_ne (ne_of_none S.q nt)]
    exact S.q
def spWays (K : PySem.W.Frag) : Sp := fun vs H Q _ => ∃ (a sh : Addr) (ds : List (Nat × Nat)) (n room : Nat) (shut : List Nat), vs = [.ref a, .int (room : Int), .ref sh] ∧ HouseAt K H a ds ∧ Tree n ds ∧ n ≤ 1000 ∧ room < n ∧ SqL K H sh (nv shut) ∧ shut.length ≤ 1000 ∧
  ∀ (H' : Hp) (p : Addr) (kvs : List (Key × V)) (ks : List (Nat × Option (Nat × Nat))), Same H H' → H p = none → H' p = some (.dK kvs) → DicR (WayR H') kvs ks → Dfs n ds shut (ks.map Prod.fst) [] → Ptr ds shut room ks → room ∈ ks.map Prod.fst → Q (.ref p) H'
section
variable {P : Program} {w : World} {K : PySem.W.Frag}
      {mg : Str → Option Value} {base : Heap}
theorem ok_ways_from (T : Bl mg) (D : Def K mg "ways_from" s_ways_from) (C_exits_of : Cal P w K mg base "exits_of" ["house"] 1 (spExits K)) : Cal P w K mg base "ways_from" ["house", "room", "shut"] 2 (spWays K) := by
  refine D.ok sc_ways_from (fun _ _ _ _ _ _ us hl => match us, hl with | [_, _, _], _ => rfl) (fun vs H Q E h => ?_) (fun f cdv A outer s H vs Q E hr h => ?_)
  · obtain ⟨a, sh, ds, n, room, shut, rfl, _⟩ := h
    rfl
  obtain ⟨a, sh, ds, n, room, shut, rfl, hH, tree, hn, hroom, hsh, hshl, q⟩ := h
  obtain ⟨f_exits_of, fd_exits_of, g_exits_of, k_exits_of, b_exits_of, G_exits_of⟩ := C_exits_of
  refine ⟨_, (pss_cons (ps_set (i := 3) sc_ways_from.nd rfl (.inl rfl) (pe_call G_exits_of (hr.mono (by decide)) (by rfl) g_exits_of k_exits_of b_exits_of .nil pass0 (pa_cons (pv 0) pa_nil)))
    (pss_cons (ps_set (i := 4) sc_ways_from.nd rfl (.inl rfl) (pe_callTy (cr_setI rfl) (by rfl) T.set (by decide +kernel) (pa_cons (pv 2) pa_nil)))
    (pss_cons (ps_set (i := 5) sc_ways_from.nd rfl (.inl rfl) (pe_disp (pps_cons (pv 1) pe_non pps_nil) (by rfl) (by rfl) (fun z => by cases z) (by decide)))
    (pss_cons (ps_set (i := 6) sc_ways_from.nd rfl (.inl rfl) (pe_lst (pa_cons (pv 1) pa_nil)))
    (pss_cons (ps_while PassesOwn.never (pt_truth (pv 6) (by intro _; rfl)) (pss_cons (ps_set (i := 7) sc_ways_from.nd rfl (.inl rfl) (pe_bm0 PySem.F.plainAttrs_list PySem.F.slot_list_pop PySem.F.type_list_pop mt_pop (pv 6)))
    (pss_one (ps_for PassesOwn.never rfl (pi_list (pe_ix ix_list (pv 3) (pv 7) (fun _ _ => rfl))) (pg_tup (n := 2) rfl (pgs_cons (pg_name (i := 8) sc_ways_from.nd rfl (.inl rfl)) (pgs_cons (pg_name (i := 9) sc_ways_from.nd rfl (.inl rfl)) pgs_nil)))
    (pss_one (ps_if (PW.pt (pw_and (pt_cmpR op_notset (pv 8) (pv 4) (by rfl)) (pw_and1 (pt_cmp (pc_dnotin (hu_of hr) (pv 9) (pv 5)))))) (pss_cons (ps_dput (hu_of hr) (pv 5) (pv 9) (pe_tup (pa_cons (pv 8) (pa_cons (pv 7) pa_nil))) rfl)
    (pss_one (ps_expr (pe_bm PySem.F.plainAttrs_list PySem.F.slot_list_append PySem.F.type_list_append mt_append (pv 6) (pa_cons (pv 9) pa_nil))))) pss_nil))))))
    (pss_one (ps_ret (pv 5)))))))), ?_⟩
  refine ⟨_, rfl, a, ds, n, rfl, hH, tree, hn, fun H1 px ps ex sm1 npx hpx hpl ro mem => ?_⟩
  refine ⟨_, rfl, sh, shut.map (fun x : Nat => (x : Int)), rfl, by rw [← nv_int]; exact sm1.seq hsh, ?_, fun sa S sn nsa hS => ?_⟩
  · rw [List.length_map]
    exact Nat.lt_of_le_of_lt (Nat.succ_le_succ hshl) (by decide)
  have sm2 : Same H1 (upd H1 sa (.set S sn)) := Same.upd nsa
  have hsa : (upd H1 sa (.set S sn)) sa = some (.set S sn) := upd_same
  have hpx2 := sm2 _ _ hpx
  have ro2 := ro.same sm2
  have sm := sm1.trans sm2
  generalize upd H1 sa (.set S sn) = H2 at sm2 hsa hpx2 ro2 sm
  intro pw npw
  refine ⟨_, rfl, upd_same, [(Sum.inl (room : Int), .non)], rfl, (by show 1 ≤ 15; decide), ?_⟩
  rw [upd_upd]
  refine ⟨_, rfl, by show 1 ≤ sizeLine; decide, fun pq npq => ?_⟩
  have npw2 : pw ≠ pq := fun z => by
    subst z
    rw [upd_same] at npq
    cases npq
  have npq2 : H2 pq = none := by
    rw [upd_ne npw2.symm] at npq
    exact npq
  have S0 : WS H2 (upd (upd H2 pw (.dK (mergeK [] [(Sum.inl (room : Int), .non)]))) pq (.lst [.int (room : Int)])) pw pq [(room, none)] [room] :=
    ⟨(Same.upd npw).at npq2, ⟨[(Sum.inl (room : Int), .non)], by rw [upd_ne npw2, upd_same]; rfl, .cons ⟨rfl, rfl⟩ .nil⟩, by rw [upd_same]; rfl, Nat.le_refl _⟩
  generalize (upd (upd H2 pw (.dK (mergeK [] [(Sum.inl (room : Int), .non)]))) pq (.lst [.int (room : Int)])) = H3 at S0
  refine ⟨fun m σ H4 => ∃ ks ws y7 y8 y9, m = 2 * (n - ks.length) + ws.length ∧ σ = [some (.ref a), some (.int (room : Int)), some (.ref sh), some (.ref px), some (.ref sa), some (.ref pw), some (.ref pq), y7, y8, y9] ∧
      WS H2 H4 pw pq ks ws ∧ Dfs n ds shut (ks.map Prod.fst) ws ∧ Ptr ds shut room ks ∧ room ∈ ks.map Prod.fst,
    ⟨_, [(room, none)], [room], _, _, _, rfl, rfl, S0, Dfs.start hroom, Ptr.start, List.mem_singleton.mpr rfl⟩, fun m σ H4 hW => ?_⟩
  obtain ⟨ks, ws, y7, y8, y9, rfl, rfl, S, df, pt, hrm⟩ := hW
  refine ⟨_, rfl, _, .inl ⟨nv ws, SqL.of S.q, rfl⟩, ?_⟩
  rcases snoc_nil ws with rfl | ⟨wr, here, rfl⟩
  · refine iteF ⟨_, rfl, ?_⟩
    obtain ⟨kvs, hk, r⟩ := S.w
    exact q H4 pw kvs ks (sm.trans S.sm) (sm.free npw) hk r df pt hrm
  · have e1 : (!(nv (wr ++ [here])).isEmpty) = true := by
      rw [nv_snoc]
      cases nv wr <;> rfl
    rw [e1]
    have hhere : here < n := df.lt _ (df.sub _ (List.mem_append.mpr (.inr (List.mem_singleton.mpr rfl))))
    have dfi := df.pop
    have hlast : (nv (wr ++ [here]))[(nv (wr ++ [here])).length - 1]? = some (.int (here : Int)) := by
      rw [nv_snoc, List.length_append, List.length_singleton, Nat.add_sub_cancel, List.getElem?_append_right (Nat.le_refl _), Nat.sub_self]
      rfl
    refine iteT ⟨fun σ' H' => ∃ ks' ws' y7 y8 y9, 2 * (n - ks'.length) + ws'.length < 2 * (n - ks.length) + (wr ++ [here]).length ∧ σ' = [some (.ref a), some (.int (room : Int)), some (.ref sh), some (.ref px), some (.ref sa), some (.ref pw), some (.ref pq), y7, y8, y9] ∧
      WS H2 H' pw pq ks' ws' ∧ Dfs n ds shut (ks'.map Prod.fst) ws' ∧ Ptr ds shut room ks' ∧ room ∈ ks'.map Prod.fst, fun σ' H' ⟨ks', ws', z7, z8, z9, h1, h2⟩ => ⟨_, h1, ks', ws', z7, z8, z9, rfl, h2⟩, ?_⟩
    refine ⟨_, rfl, .inl ⟨rfl, _, SqL.of S.q⟩, pq, _, _, rfl, rfl, S.q, hlast, ?_⟩
    rw [nv_snoc, List.dropLast_concat]
    have S1 := S.setq (ws' := wr) npq2 (by have := S.le; simp at this; omega)
    generalize upd H4 pq (.lst (nv wr)) = H5 at S1
    obtain ⟨qx, hqx⟩ := get_of hpl hhere
    obtain ⟨ts, g1, g2, g3⟩ := ro2 _ _ hqx
    refine ⟨_, rfl, _, rfl, px, _, _, V.ref qx, rfl, rfl, SqL.of (S1.sm _ _ hpx2), atI_nat (v := V.ref qx) (by rw [List.getElem?_map, hqx]; rfl), qx, rfl, ⟨_, SqL.of (S1.sm _ _ g1)⟩, ?_⟩
    refine for_it (walk_list (K := K) (a := qx) (xs := ts.map V.ref)) (fun j σ H6 => ∃ ks' ws' y8 y9, 2 * (n - ks'.length) + ws'.length < 2 * (n - ks.length) + (wr ++ [here]).length ∧ σ = [some (.ref a), some (.int (room : Int)), some (.ref sh), some (.ref px), some (.ref sa), some (.ref pw), some (.ref pq), some (.int (here : Int)), y8, y9] ∧
      WS H2 H6 pw pq ks' ws' ∧ DfsIn n ds shut (ks'.map Prod.fst) ws' here ((ex here).take j) ∧ Ptr ds shut room ks' ∧ room ∈ ks'.map Prod.fst)
      ⟨ks, wr, _, _, by rw [List.length_append, List.length_singleton]; omega, rfl, S1, dfi, pt, hrm⟩ (fun i σ H1 _ ⟨_, _, _, _, _, _, S, _⟩ => SqL.of (S.sm _ _ g1)) ?_ ?_
    · rintro j x σ H6 H7 hj ⟨ks', ws', y8, y9, hm, rfl, S2, di, pt', hrm'⟩ ⟨rfl, ex1⟩
      have hj' : j < ts.length := by
        rw [List.length_map] at hj
        exact hj
      obtain ⟨t, ht⟩ : ∃ t, ts[j]? = some t := get_of rfl hj'
      obtain ⟨e, he⟩ : ∃ e, (ex here)[j]? = some e := get_of g2.symm hj'
      rw [List.getElem?_map, ht] at ex1
      cases ex1
      have htup := S2.sm _ _ (g3 j t e ht he)
      have ejoin : Joins ds e.1 here e.2 := (mem here e.1 e.2).mp (List.mem_of_getElem? he)
      have etake : (ex here).take (j + 1) = (ex here).take j ++ [(e.1, e.2)] := by
        rw [List.take_add_one, he]
        rfl
      obtain ⟨kvs, hk, r⟩ := S2.w
      refine ⟨t, _, rfl, SqT.of htup, rfl, _, _, rfl, _, _, rfl, rfl, ?_⟩
      refine ⟨_, rfl, _, rfl, _, sa, _, sn, rfl, rfl, S2.sm _ _ hsa, _, rfl, ?_⟩
      rw [hS]
      by_cases hd : e.1 ∈ shut
      · rw [decide_eq_true (mem_ofNat.mpr hd)]
        refine iteF (iteF ?_)
        exact ⟨ks', ws', _, _, hm, rfl, S2, by rw [etake]; exact di.skip (.inl hd), pt', hrm'⟩
      · rw [decide_eq_false fun z => hd (mem_ofNat.mp z)]
        refine iteT ⟨_, rfl, _, rfl, pw, _, rfl, DGet.k (k := Sum.inl (e.2 : Int)) hk, _, rfl, ?_⟩
        by_cases hy : e.2 ∈ ks'.map Prod.fst
        · obtain ⟨v, o, hv, _, _⟩ := r.val hy
          rw [hv]
          refine iteF ?_
          exact ⟨ks', ws', _, _, hm, rfl, S2, by rw [etake]; exact di.skip (.inr hy), pt', hrm'⟩
        · rw [r.no hy]
          refine iteT ?_
          have ely := (Joins.lt tree ejoin).2.1
          have di2 := di.add (d := e.1) ely hy
          have hle := di2.le
          rw [List.length_append, List.length_singleton, List.length_map] at hle
          refine ⟨_, rfl, _, rfl, by show 2 ≤ sizeLine; decide, fun t2 nt2 => ⟨_, rfl, _, rfl, pw, _, rfl, DPut.k (k := Sum.inl (e.2 : Int)) (by rw [upd_ne (ne_of_none hk nt2)]; exact hk) (by rw [r.len]; exact small1000 (by omega)), ?_⟩⟩
          have S3 := S2.add npw nt2 hk r (y := e.2) (d := e.1) (here := here) hy
          generalize (upd (upd H7 t2 (.tup [.int (e.1 : Int), .int (here : Int)])) pw (.dK (putK kvs (Sum.inl (e.2 : Int)) (.ref t2)))) = H8 at S3
          refine ⟨_, rfl, .inl ⟨rfl, _, SqL.of S3.q⟩, _, rfl, pq, _, _, rfl, rfl, S3.q, ?_, ?_⟩
          · rw [nv_len]
            have := S2.le
            exact small1000 (by omega)
          · rw [← nv_snoc]
            refine ⟨ks' ++ [(e.2, some (e.1, here))], ws' ++ [e.2], _, _, ?_, rfl, S3.setq npq2 (by have := S2.le; simp; omega), ?_, pt'.add ejoin.symm hd di.he hy, ?_⟩
            · rw [List.length_append, List.length_append, List.length_singleton, List.length_singleton]
              omega
            · rw [etake, List.map_append]
              exact di2
            · rw [List.map_append]
              exact List.mem_append.mpr (.inl hrm')
    · rintro σ H6 ⟨ks', ws', y8, y9, hm, rfl, S2, di, pt', hrm'⟩
      refine ⟨ks', ws', _, _, _, hm, rfl, S2, di.done fun d y j => ?_, pt', hrm'⟩
      rw [List.length_map, g2, List.take_length]
      exact (mem here d y).mpr j
end
end K5

namespace K5
open PySem PySem.Spec PyProof.Rows L2
theorem bits29 {m : Int} (h0 : 0 < m) (h1 : m < 2 ^ 29) : ((Builtin.Int.intBits m : Nat) : Int) / 30 = 0 := by
  have h : Builtin.Int.intBits m ≤ 29 := by
    unfold Builtin.Int.intBits
    have hne : ¬ (m == 0) = true := fun z => by
      have := eq_of_beq z
      omega
    rw [if_neg hne]
    have : m.natAbs.log2 < 29 := (Nat.log2_lt (by omega)).mpr (by omega)
    omega
  omega
/-- a generator of draws: a list of three numbers, the third at most b -/
def GenAt (H : Hp) (g : Addr) (b : Nat) : Prop := ∃ x y z : Int, H g = some (.lst [.int x, .int y, .int z]) ∧ 0 ≤ x ∧ 0 ≤ z ∧ z ≤ (b : Int)
theorem GenAt.mono {H g b c} (h : GenAt H g b) (l : b ≤ c) : GenAt H g c := by
  obtain ⟨x, y, z, a, b, c, d⟩ := h
  exact ⟨x, y, z, a, b, c, by omega⟩
theorem GenAt.same {H H' g b} (h : GenAt H g b) (s : Same H H') : GenAt H' g b := by
  obtain ⟨x, y, z, a, b, c, d⟩ := h
  exact ⟨x, y, z, s _ _ a, b, c, d⟩
theorem GenAt.lst {H g b} (h : GenAt H g b) : ∃ xs, H g = some (.lst xs) := by
  obtain ⟨x, y, z, a, _⟩ := h
  exact ⟨_, a⟩
def spCell (K : PySem.W.Frag) : Sp := fun vs H Q _ => ∃ (a : Addr) (ns : List Int) (i : Int), vs = [.ref a, .int i] ∧ SqL K H a (ns.map V.int) ∧ 0 ≤ i ∧ ∀ z : Int, Q (.int z) H
def spHash : Sp := fun vs H Q _ => ∃ x i : Int, vs = [.int x, .int i] ∧ 0 ≤ i ∧ i < 2 ^ 62 ∧ ∀ z : Int, Q (.int z) H
def spGen (K : PySem.W.Frag) : Sp := fun vs H Q _ => ∃ (a : Addr) (ns : List Int) (i : Nat), vs = [.ref a, .int (i : Int)] ∧ SqL K H a (ns.map V.int) ∧ i ≤ 1000 ∧ ∀ (H' : Hp) (g : Addr), Same H H' → H g = none → GenAt H' g 1000000 → Q (.ref g) H'
def spRand : Sp := fun vs H Q _ => ∃ (g : Addr) (b m : Nat), vs = [.ref g, .int (m : Int)] ∧ GenAt H g b ∧ 0 < m ∧ m < 2 ^ 29 ∧ b < 2 ^ 60 ∧ ∀ (H' : Hp) (v : Nat), But g H H' → GenAt H' g (b + 1) → v < m → Q (.int (v : Int)) H'
section
variable {P : Program} {w : World} {K : PySem.W.Frag}
      {mg : Str → Option Value} {base : Heap}
theorem ok_cell (T : Bl mg) (D : Def K mg "_law_cell" s_l_cell) : Cal P w K mg base "_law_cell" ["_law_script", "_law_index"] 1 (spCell K) := by
  refine D.ok sc_l_cell (fun _ _ _ _ _ _ us hl => match us, hl with | [_, _], _ => rfl) (fun vs H Q E h => ?_) (fun f cdv A outer s H vs Q E hr h => ?_)
  · obtain ⟨a, ns, i, rfl, _⟩ := h
    rfl
  obtain ⟨a, ns, i, rfl, hs, hi, q⟩ := h
  refine ⟨_, (pss_cons (ps_if (pt_cmpR op_lt (pv 1) (pe_callB call_len_seq (by rfl) T.len PySem.boot_len (pa_cons (pv 0) pa_nil)) (nomark _)) (pss_one (ps_ret (pe_ix ix_list (pv 0) (pv 1) (fun _ _ => rfl)))) pss_nil)
    (pss_one (ps_ret pe_int))), ?_⟩
  refine ⟨_, rfl, _, rfl, _, _, rfl, .inl hs, _, _, rfl, rfl, _, rfl, ite2 (fun h => ?_) (fun h => ?_)⟩
  · have h := of_decide_eq_true h
    rw [List.length_map] at h
    obtain ⟨k, rfl⟩ : ∃ k : Nat, i = (k : Int) := ⟨i.toNat, by omega⟩
    have hk : k < ns.length := by omega
    refine ⟨_, rfl, _, rfl, _, _, _, _, rfl, rfl, hs, atI_nat (v := V.int ns[k]) (by rw [List.getElem?_map, List.getElem?_eq_getElem hk]; rfl), q _⟩
  · exact q 0
theorem ok_hash (T : Bl mg) (D : Def K mg "_law_hash" s_l_hash) : Cal P w K mg base "_law_hash" ["_law_seed", "_law_index"] 1 spHash := by
  refine D.ok sc_l_hash (fun _ _ _ _ _ _ us hl => match us, hl with | [_, _], _ => rfl) (fun vs H Q E h => ?_) (fun f cdv A outer s H vs Q E hr h => ?_)
  · obtain ⟨x, i, rfl, _⟩ := h
    rfl
  obtain ⟨x, i, rfl, h0, h1, q⟩ := h
  refine ⟨_, (pss_cons (ps_set (i := 2) sc_l_hash.nd rfl (.inl rfl) (pe_op op_mod (pe_op op_add (pe_op op_add (pe_op op_add (pe_op op_mul (pv 0) pe_int) (pe_op op_mul (pe_op op_mul pe_int (pv 1)) (pv 1))) (pv 1)) pe_int) pe_int))
    (pss_cons (ps_set (i := 2) sc_l_hash.nd rfl (.inl rfl) (pe_op op_mod (pe_op op_add (pe_op op_mul (pv 2) (pv 2)) pe_int) pe_int))
    (pss_one (ps_ret (pe_op op_mod (pe_op op_mul (pv 2) pe_int) pe_int))))), ?_⟩
  refine ⟨_, rfl, _, _, rfl, rfl, .inr (by decide), _, rfl, _, _, rfl, rfl, .inl (by decide), _, rfl, _, _, rfl, rfl, .inr ⟨by omega, by omega⟩, _, _, rfl, rfl, _, rfl, _, _, rfl, rfl, _, _, rfl, rfl, _, _, rfl, rfl, (by show (0 : Int) < 2147483647; decide), ?_⟩
  have b0 := Int.emod_nonneg (x * 1103515245 + 7919 * i * i + i + 1) (show (2147483647 : Int) ≠ 0 by decide)
  have b1 := Int.emod_lt_of_pos (x * 1103515245 + 7919 * i * i + i + 1) (show (0 : Int) < 2147483647 by decide)
  generalize (x * 1103515245 + 7919 * i * i + i + 1) % 2147483647 = u at b0 b1
  refine ⟨_, rfl, _, rfl, _, _, rfl, rfl, .inl ⟨by omega, by omega⟩, _, _, rfl, rfl, _, _, rfl, rfl, (by show (0 : Int) < 2147483629; decide), ?_⟩
  refine ⟨_, rfl, _, _, rfl, rfl, .inr (by decide), _, _, rfl, rfl, (by show (0 : Int) < 2147483587; decide), q _⟩
theorem ok_generator (T : Bl mg) (D : Def K mg "_law_generator" s_l_generator) (C_l_cell : Cal P w K mg base "_law_cell" ["_law_script", "_law_index"] 1 (spCell K)) : Cal P w K mg base "_law_generator" ["_law_script", "_law_index"] 2 (spGen K) := by
  refine D.ok sc_l_generator (fun _ _ _ _ _ _ us hl => match us, hl with | [_, _], _ => rfl) (fun vs H Q E h => ?_) (fun f cdv A outer s H vs Q E hr h => ?_)
  · obtain ⟨a, ns, i, rfl, _⟩ := h
    rfl
  obtain ⟨a, ns, i, rfl, hs, hi, q⟩ := h
  obtain ⟨f_l_cell, fd_l_cell, g_l_cell, k_l_cell, b_l_cell, G_l_cell⟩ := C_l_cell
  refine ⟨_, (pss_cons (ps_set (i := 2) sc_l_generator.nd rfl (.inl rfl) (pe_call G_l_cell (hr.mono (by decide)) (by rfl) g_l_cell k_l_cell b_l_cell .nil pass0 (pa_cons (pv 0) (pa_cons (pv 1) pa_nil))))
    (pss_one (ps_ret (pe_lst (pa_cons (pe_op op_mod (pe_callB (call_max2 rfl) (by rfl) T.max (by decide +kernel) (pa_cons (pe_op op_sub (pv 2) (pe_op op_pow pe_int pe_int)) (pa_cons pe_int pa_nil))) (pe_op op_powX (pe_op op_pow pe_int pe_int) pe_int)) (pa_cons (pe_op op_mod (pv 2) pe_int) (pa_cons (pe_op op_mul pe_int (pv 1)) pa_nil))))))), ?_⟩
  refine ⟨_, rfl, _, rfl, a, ns, _, rfl, hs, by omega, fun z => ?_⟩
  have hpos : (0 : Int) < (10 ^ (60 : Int).toNat) ^ (10 : Int).toNat := by decide +kernel
  refine ⟨_, rfl, _, _, rfl, rfl, ⟨by decide, by decide, by decide⟩, _, _, rfl, rfl, _, _, rfl, _, _, rfl, rfl, ⟨by decide, by decide, by decide⟩, _, _, rfl, rfl, (by decide +kernel), _, _, rfl, rfl, hpos, _, rfl, _, _, rfl, rfl, (by show (0 : Int) < 2147483647; decide), _, rfl, _, _, rfl, rfl, .inl (by decide), by show 3 ≤ sizeLine; decide, fun g ng => ?_⟩
  refine q _ g (Same.upd ng) ng ⟨_, _, _, upd_same, Int.emod_nonneg _ (by omega), by omega, by omega⟩
theorem ok_random (T : Bl mg) (D : Def K mg "_law_random" s_l_random) (C_l_hash : Cal P w K mg base "_law_hash" ["_law_seed", "_law_index"] 1 spHash) : Cal P w K mg base "_law_random" ["_law_generator_here", "_law_bound"] 2 spRand := by
  refine D.ok sc_l_random (fun _ _ _ _ _ _ us hl => match us, hl with | [_, _], _ => rfl) (fun vs H Q E h => ?_) (fun f cdv A outer s H vs Q E hr h => ?_)
  · obtain ⟨g, b, m, rfl, _⟩ := h
    rfl
  obtain ⟨g, b, m, rfl, ⟨x, y, z, hg, hx, hz, hzb⟩, hm, hm2, hb, q⟩ := h
  obtain ⟨f_l_hash, fd_l_hash, g_l_hash, k_l_hash, b_l_hash, G_l_hash⟩ := C_l_hash
  refine ⟨_, (pss_cons (ps_if (pt_cmpR op_gt (pe_ix ix_list (pv 0) pe_int (fun _ _ => rfl)) pe_int (nomark _)) (pss_cons (ps_set (i := 2) sc_l_random.nd rfl (.inl rfl) (pe_op op_mod (pe_ix ix_list (pv 0) pe_int (fun _ _ => rfl)) (pv 1)))
    (pss_cons (ps_asg (pe_op op_fdiv (pe_ix ix_list (pv 0) pe_int (fun _ _ => rfl)) (pv 1)) (pg_sub (pv 0) pe_int set_list))
    (pss_one (ps_ret (pv 2))))) pss_nil)
    (pss_cons (ps_set (i := 2) sc_l_random.nd rfl (.inl rfl) pe_int)
    (pss_cons (ps_for PassesOwn.never rfl (pi_range1 rfl T.range (pa_cons (pe_op op_add pe_int (pe_op op_fdiv (pe_bits (pv 1)) pe_int)) pa_nil)) (pg_name (i := 3) sc_l_random.nd rfl (.inl rfl))
    (pss_cons (ps_asg (pe_op op_add (pe_ix ix_list (pv 0) pe_int (fun _ _ => rfl)) pe_int) (pg_sub (pv 0) pe_int set_list))
    (pss_one (ps_set (i := 2) sc_l_random.nd rfl (.inl rfl) (pe_op op_add (pe_op op_mul (pv 2) pe_int) (pe_call G_l_hash (hr.mono (by decide)) (by rfl) g_l_hash k_l_hash b_l_hash .nil pass0 (pa_cons (pe_ix ix_list (pv 0) pe_int (fun _ _ => rfl)) (pa_cons (pe_ix ix_list (pv 0) pe_int (fun _ _ => rfl)) pa_nil))))))))
    (pss_one (ps_ret (pe_op op_mod (pv 2) (pv 1))))))), ?_⟩
  have hm' : (0 : Int) < (m : Int) := by omega
  refine ⟨_, rfl, _, _, _, V.int x, rfl, rfl, SqL.of hg, atI_nat (j := 0) (v := V.int x) rfl, _, _, rfl, rfl, _, rfl, ite2 (fun h => ?_) (fun h => ?_)⟩
  · refine ⟨_, rfl, _, _, _, V.int x, rfl, rfl, SqL.of hg, atI_nat (j := 0) (v := V.int x) rfl, _, rfl, _, _, rfl, rfl, hm', ?_⟩
    refine ⟨_, rfl, _, _, _, V.int x, rfl, rfl, SqL.of hg, atI_nat (j := 0) (v := V.int x) rfl, _, rfl, _, _, rfl, rfl, ⟨hm', by omega⟩, ?_⟩
    refine ⟨_, rfl, g, _, _, 0, rfl, rfl, hg, rfl, ?_⟩
    refine ⟨_, rfl, ?_⟩
    have e : x % (m : Int) = ((x % (m : Int)).toNat : Int) := (Int.toNat_of_nonneg (Int.emod_nonneg _ (by omega))).symm
    have l := Int.emod_lt_of_pos x hm'
    show Q (.int (x % (m : Int))) _
    rw [e]
    refine q _ _ (fun c o n e => by rw [upd_ne n]; exact e) ⟨x / (m : Int), y, z, upd_same, Int.ediv_nonneg hx (by omega), hz, by omega⟩ (by omega)
  · have eb : (1 : Int) + ((Builtin.Int.intBits (m : Int) : Nat) : Int) / 30 = 1 := by
      rw [bits29 hm' (by omega)]
      rfl
    refine ⟨_, rfl, _, rfl, _, _, rfl, rfl, ⟨by decide, by decide⟩, _, _, rfl, rfl, (1 : Int), congrArg (fun z => [V.int z]) eb, by decide, by decide, ?_⟩
    refine for_range (lo := 0) (n := 1) (fun i σ H1 => ∃ (r : Int) (y3 : Option V) (z1 : Int), σ = [some (.ref g), some (.int (m : Int)), some (.int r), y3] ∧ But g H H1 ∧ H1 g = some (.lst [.int x, .int y, .int z1]) ∧ 0 ≤ z1 ∧ z1 ≤ (b : Int) + (i : Int))
      ⟨0, _, z, rfl, fun _ _ _ e => e, hg, hz, by omega⟩ ?_ ?_
    · rintro i σ H1 hi ⟨r, y3, z1, rfl, bt, hg1, hz1, hz2⟩
      refine ⟨_, rfl, _, _, _, V.int z1, rfl, rfl, SqL.of hg1, atI_nat (j := 2) (v := V.int z1) rfl, _, _, rfl, rfl, _, rfl, g, _, _, 2, rfl, rfl, hg1, rfl, ?_⟩
      have hg2 : (upd H1 g (.lst [.int x, .int y, .int (z1 + 1)])) g = some (.lst [.int x, .int y, .int (z1 + 1)]) := upd_same
      refine ⟨_, rfl, _, _, rfl, rfl, .inr (by decide), _, rfl, _, _, _, V.int y, rfl, rfl, SqL.of hg2, atI_nat (j := 1) (v := V.int y) rfl, _, rfl, _, _, _, V.int (z1 + 1), rfl, rfl, SqL.of hg2, atI_nat (j := 2) (v := V.int (z1 + 1)) rfl, _, _, rfl, by omega, by omega, fun u => ?_⟩
      refine ⟨_, _, rfl, rfl, ?_⟩
      exact ⟨_, _, z1 + 1, rfl, bt.upd _, hg2, by omega, by omega⟩
    · rintro σ H1 ⟨r, y3, z1, rfl, bt, hg1, hz1, hz2⟩
      refine ⟨_, rfl, _, rfl, _, _, rfl, rfl, hm', ?_⟩
      have e : r % (m : Int) = ((r % (m : Int)).toNat : Int) := (Int.toNat_of_nonneg (Int.emod_nonneg _ (by omega))).symm
      have l := Int.emod_lt_of_pos r hm'
      show Q (.int (r % (m : Int))) _
      rw [e]
      exact q _ _ bt ⟨x, y, z1, hg1, hx, hz1, by omega⟩ (by omega)
end
end K5

namespace K5
open PySem PySem.Spec PyProof.Rows L2
theorem cons_erase {α : Type} : ∀ (l : List α) (i : Nat) (y : α), l[i]? = some y → (y :: l.eraseIdx i).Perm l
  | [], i, y, h => by simp at h
  | a :: r, 0, y, h => by
    have e : a = y := Option.some.inj h
    subst e
    exact List.Perm.refl _
  | a :: r, i + 1, y, h => ((List.Perm.swap a y _).trans ((cons_erase r i y h).cons a))
theorem _root_.L2.But.seq {K : PySem.W.Frag} {g a : Addr} {H H' : Hp} {xs : List V} (s : But g H H') (n : a ≠ g) (h : SqL K H a xs) : SqL K H' a xs := by
  rcases h with (h | ⟨o, h⟩) | h
  · exact .inl (.inl (s _ _ n h))
  · exact .inl (.inr ⟨o, s _ _ n h⟩)
  · exact .inr h
theorem _root_.L2.But.at {g p : Addr} {H H' : Hp} (s : But g H H') (n : H p = none) (o : HO) : But g H (upd H' p o) := fun b u ne e => by
  rw [upd_ne (ne_of_none e n)]
  exact s b u ne e
theorem _root_.L2.But.refl (g : Addr) (H : Hp) : But g H H := fun _ _ _ e => e
theorem _root_.L2.But.free {g p : Addr} {H H' : Hp} (s : But g H H') (ne : p ≠ g) (h : H' p = none) : H p = none := by
  cases q : H p with
  | none => rfl
  | some o =>
    rw [s p o ne q] at h
    cases h
theorem GenAt.at {H g b p o} (h : GenAt H g b) (n : p ≠ g) : GenAt (upd H p o) g b := by
  obtain ⟨x, y, z, a, r⟩ := h
  exact ⟨x, y, z, by rw [upd_ne n.symm]; exact a, r⟩
theorem GenAt.ne {H g b p} (h : GenAt H g b) (n : H p = none) : p ≠ g := by
  obtain ⟨x, y, z, a, r⟩ := h
  exact (ne_of_none a n).symm
theorem seq_nat {v n : Nat} (h : v < n) : seqIndex? (v : Int) n = some v := (ixN_seq (ixN_nat h)).1
def spShuf (K : PySem.W.Frag) : Sp := fun vs H Q _ => ∃ (g a : Addr) (b : Nat) (xs : List V), vs = [.ref g, .ref a] ∧ GenAt H g b ∧ SqL K H a xs ∧ a ≠ g ∧ xs.length ≤ 1000 ∧ b < 2 ^ 59 ∧
  ∀ (H' : Hp) (q : Addr) (ys : List V), But g H H' → GenAt H' g (b + xs.length) → H q = none → H' q = some (.lst ys) → ys.Perm xs → Q (.ref q) H'
section
variable {P : Program} {w : World} {K : PySem.W.Frag}
      {mg : Str → Option Value} {base : Heap}
theorem ok_shuffled (T : Bl mg) (D : Def K mg "_law_shuffled" s_l_shuffled) (C_l_random : Cal P w K mg base "_law_random" ["_law_generator_here", "_law_bound"] 2 spRand) : Cal P w K mg base "_law_shuffled" ["_law_generator_here", "_law_items"] 3 (spShuf K) := by
  refine D.ok sc_l_shuffled (fun _ _ _ _ _ _ us hl => match us, hl with | [_, _], _ => rfl) (fun vs H Q E h => ?_) (fun f cdv A outer s H vs Q E hr h => ?_)
  · obtain ⟨g, a, b, xs, rfl, _⟩ := h
    rfl
  obtain ⟨g, a, b, xs, rfl, hg, hs, nag, hxs, hb, q⟩ := h
  obtain ⟨f_l_random, fd_l_random, g_l_random, k_l_random, b_l_random, G_l_random⟩ := C_l_random
  refine ⟨_, (pss_cons (ps_set (i := 2) sc_l_shuffled.nd rfl (.inr rfl) (pe_callTy call_list_of (by rfl) T.list (by decide +kernel) (pa_cons (pv 1) pa_nil)))
    (pss_one (ps_ret (pe_lc (own := [("_law_item", 3)]) (g := gName 3)  (te := (tBM K "list" rPopAt (tVar 2) (tCons (tCall spRand [] E0 (tCons (tVar 0) (tCons (tCB (fun xs H Q => ∃ p ys, xs = [V.ref p] ∧ (SqL K H p ys ∨ SqT K H p ys) ∧ Q (.int ys.length) H) (tCons (tVar 2) tNil)) tNil))) tNil))) rfl sc_l_shuffled.nd (pi_list (pv 1)) (blkOk_by (N := N_l_shuffled) (sc := defScope s_l_shuffled) (own := [("_law_item", 3)]) (by decide +kernel)) (fun _ _ _ _ _ => (pg_name (i := 3) sc_l_shuffled.nd rfl (.inl rfl) (.inr rfl))) (fun _ _ _ _ _ => pts_nil) (fun _ _ _ _ _ => (pe_bm PySem.F.plainAttrs_list PySem.F.slot_list_pop PySem.F.type_list_pop mt_popAt (pv 2) (pa_cons (pe_call G_l_random (hr.mono (by decide)) (by rfl) g_l_random k_l_random b_l_random .nil pass0 (pa_cons (pv 0) (pa_cons (pe_callB call_len_seq (by rfl) T.len PySem.boot_len (pa_cons (pv 2) pa_nil)) pa_nil))) pa_nil))))))), ?_⟩
  refine ⟨_, rfl, a, xs, rfl, .inl hs, fun pp npp => ?_⟩
  have s1 := Same.upd (o := .lst xs) npp
  have h1 : (upd H pp (.lst xs)) pp = some (.lst xs) := upd_same
  have g1 := hg.same s1
  generalize upd H pp (.lst xs) = H1 at s1 h1 g1
  refine ⟨_, rfl, a, rfl, ⟨_, s1.seq hs⟩, fun pd npd => ?_⟩
  have ndp : pd ≠ pp := (ne_of_none h1 npd).symm
  have ndg : pd ≠ g := g1.ne npd
  have npg : pp ≠ g := hg.ne npp
  refine lc_it (walk_list (K := K) (a := a) (xs := xs)) (fun i H2 => ∃ acc pl, But g H H2 ∧ GenAt H2 g (b + i) ∧ H2 pp = some (.lst pl) ∧ H2 pd = some (.lst acc) ∧ (acc ++ pl).Perm xs ∧ acc.length = i)
    ⟨[], xs, s1.but.at (s1.free npd) _, g1.at ndg, by rw [upd_ne ndp.symm]; exact h1, upd_same, List.Perm.refl _, rfl⟩ (fun i H2 _ ⟨_, _, bt, _⟩ => bt.seq nag hs) ?_ ?_
  · rintro i v H2 H3 hi ⟨acc, pl, bt, g2, h2, hd2, pm, hl⟩ ⟨rfl, ex⟩
    have hlen := pm.length_eq
    rw [List.length_append] at hlen
    refine ⟨rfl, lcYes ?_⟩
    refine ⟨_, rfl, .inl ⟨rfl, _, SqL.of h2⟩, _, rfl, _, rfl, pp, pl, rfl, .inl (SqL.of h2), ?_⟩
    refine ⟨g, b + i, pl.length, rfl, g2, by omega, by omega, by omega, fun H4 u bt4 g4 hu => ?_⟩
    have h4 := bt4 _ _ npg h2
    have hd4 := bt4 _ _ ndg hd2
    obtain ⟨y, hy⟩ : ∃ y, pl[u]? = some y := ⟨_, List.getElem?_eq_getElem hu⟩
    refine ⟨pp, pl, _, u, y, rfl, rfl, h4, by omega, by omega, seq_nat hu, hy, ?_⟩
    refine ⟨acc, by rw [upd_ne ndp]; exact hd4, small1000 (by omega), acc ++ [y], pl.eraseIdx u, ?_, ?_, ?_, upd_same, ?_, by rw [List.length_append, hl]; rfl⟩
    · exact (((bt.trans bt4).at npp _).at (s1.free npd) _)
    · exact (g4.at npg).at ndg
    · rw [upd_ne ndp.symm, upd_same]
    · rw [List.append_assoc]
      exact (List.Perm.append_left acc (cons_erase pl u y hy)).trans pm
  · rintro H2 ⟨acc, pl, bt, g2, h2, hd2, pm, hl⟩
    have hlen := pm.length_eq
    rw [List.length_append] at hlen
    have : pl = [] := List.eq_nil_of_length_eq_zero (by omega)
    subst this
    rw [List.append_nil] at pm
    exact q H2 pd acc bt g2 (s1.free npd) hd2 pm
end
end K5

namespace K5
open PySem PySem.Spec PyProof.Rows L2
/-! ### moves and states, as plain mathematics -/
/-- person, start, end -/
abbrev Mv := Nat × Nat × Nat
/-- where each person is; whom each door bars -/
abbrev S2 := List Nat × List Nat
theorem Tree.one_door {n ds} (T : Tree n ds) {d c x y : Nat} (j : Joins ds d x y) (k : Joins ds c x y) : d = c := by
  obtain ⟨side, s1, s2⟩ := T.side
  refine Classical.byContradiction fun h => ?_
  exact side_join s1 j (side_other s2 k h)
/-- the door between two rooms -/
def dix (ds : List (Nat × Nat)) (x y : Nat) : Nat := ((List.range ds.length).find? fun d => decide (ds[d]? = some (x, y) ∨ ds[d]? = some (y, x))).getD 0
theorem joins_lt {ds : List (Nat × Nat)} {d x y : Nat} (j : Joins ds d x y) : d < ds.length := by
  rcases j with j | j
  · exact get_lt j
  · exact get_lt j
theorem dix_is {n ds} (T : Tree n ds) {d x y : Nat} (j : Joins ds d x y) : dix ds x y = d := by
  unfold dix
  cases h : (List.range ds.length).find? fun d => decide (ds[d]? = some (x, y) ∨ ds[d]? = some (y, x)) with
  | none =>
    have := List.find?_eq_none.mp h d (List.mem_range.mpr (joins_lt j))
    exact absurd (decide_eq_true (show ds[d]? = some (x, y) ∨ ds[d]? = some (y, x) from j)) this
  | some c =>
    have k : ds[c]? = some (x, y) ∨ ds[c]? = some (y, x) := by
      have := List.find?_some h
      exact of_decide_eq_true this
    exact T.one_door k j
/-- a move that names a person and a door -/
def VM (ds : List (Nat × Nat)) (P : Nat) (m : Mv) : Prop := m.1 < P ∧ ∃ d, Joins ds d m.2.1 m.2.2
/-- why the move is not possible -/
def why (ds : List (Nat × Nat)) (S : S2) (m : Mv) : Option String :=
  if S.1.getD m.1 0 ≠ m.2.1 then some "away" else if S.2.getD (dix ds m.2.1 m.2.2) 0 = m.1 then some "barred" else none
def nxt (ds : List (Nat × Nat)) (S : S2) (m : Mv) : S2 := (S.1.set m.1 m.2.2, S.2.set (dix ds m.2.1 m.2.2) m.1)
def runs (ds : List (Nat × Nat)) : Nat → S2 → List Mv → (Nat × String) ⊕ S2
  | _, S, [] => .inr S
  | i, S, m :: r => match why ds S m with
    | some w => .inl (i, w)
    | none => runs ds (i + 1) (nxt ds S m) r
structure StOk (n : Nat) (ds : List (Nat × Nat)) (S : S2) : Prop where
  one : 1 ≤ S.1.length
  few : S.1.length ≤ 4
  rooms : ∀ x ∈ S.1, x < n
  doors : S.2.length = ds.length
  bars : ∀ y ∈ S.2, y < S.1.length
theorem StOk.nxt {n ds S m} (T : Tree n ds) (h : StOk n ds S) (v : VM ds S.1.length m) : StOk n ds (nxt ds S m) := by
  obtain ⟨v1, d, j⟩ := v
  obtain ⟨_, l2, _, _⟩ := j.lt T
  have e1 : (K5.nxt ds S m).1.length = S.1.length := List.length_set
  refine ⟨by rw [e1]; exact h.one, by rw [e1]; exact h.few, fun x hx => ?_, by rw [show (K5.nxt ds S m).2.length = S.2.length from List.length_set]; exact h.doors, fun y hy => ?_⟩
  · rcases List.mem_or_eq_of_mem_set hx with q | q
    · exact h.rooms x q
    · rw [q]; exact l2
  · rw [e1]
    rcases List.mem_or_eq_of_mem_set hy with q | q
    · exact h.bars y q
    · rw [q]; exact v1
theorem nxt_len {ds S m} : (nxt ds S m).1.length = S.1.length := List.length_set
theorem runs_drop {ds : List (Nat × Nat)} {S : S2} {ms : List Mv} {k : Nat} {m : Mv} (h : ms[k]? = some m) : runs ds k S (ms.drop k) = match why ds S m with
    | some w => .inl (k, w)
    | none => runs ds (k + 1) (nxt ds S m) (ms.drop (k + 1)) := by
  have hk := get_lt h
  have e : ms.drop k = m :: ms.drop (k + 1) := by
    rw [List.drop_eq_getElem_cons hk]
    rw [List.getElem?_eq_getElem hk] at h
    rw [Option.some.inj h]
  rw [e]
  rfl
/-- the moves that are possible -/
def Can (ds : List (Nat × Nat)) (S : S2) (m : Mv) : Prop := m.1 < S.1.length ∧ S.1[m.1]? = some m.2.1 ∧ ∃ d, Joins ds d m.2.1 m.2.2 ∧ S.2[d]? ≠ some m.1
theorem Can.vm {ds S m} (h : Can ds S m) : VM ds S.1.length m := ⟨h.1, h.2.2.choose, h.2.2.choose_spec.1⟩
theorem getD_of {l : List Nat} {i x : Nat} (h : l[i]? = some x) : l.getD i 0 = x := by
  rw [List.getD_eq_getElem?_getD, h]
  rfl
theorem Can.why {n ds S m} (T : Tree n ds) (h : Can ds S m) (o : StOk n ds S) : why ds S m = none := by
  obtain ⟨h1, h2, d, j, h3⟩ := h
  unfold K5.why
  rw [if_neg (by rw [getD_of h2]; simp), dix_is T j]
  have hd : d < S.2.length := by rw [o.doors]; exact joins_lt j
  obtain ⟨b, hb⟩ : ∃ b, S.2[d]? = some b := get_of rfl hd
  rw [getD_of hb, if_neg]
  intro z
  exact h3 (by rw [hb, z])
def mcode (m : Mv) : Int := TS.code 64 [(m.1 : Int), (m.2.1 : Int), (m.2.2 : Int)]
theorem mcode_is (m : Mv) : mcode m = (m.1 : Int) * 4096 + (m.2.1 : Int) * 64 + (m.2.2 : Int) := by
  unfold mcode
  show (m.1 : Int) * 64 ^ 2 + ((m.2.1 : Int) * 64 ^ 1 + ((m.2.2 : Int) * 64 ^ 0 + 0)) = _
  rw [show (64 : Int) ^ 2 = 4096 by decide, show (64 : Int) ^ 1 = 64 by decide, show (64 : Int) ^ 0 = 1 by decide]
  omega
def Sm (m : Mv) : Prop := m.1 < 64 ∧ m.2.1 < 64 ∧ m.2.2 < 64
theorem mcode_inj {m m' : Mv} (a : Sm m) (b : Sm m') (e : mcode m = mcode m') : m = m' := by
  obtain ⟨x, y, z⟩ := m
  obtain ⟨x', y', z'⟩ := m'
  rw [mcode_is, mcode_is] at e
  unfold Sm at a b
  simp only at e a b
  have h1 : x = x' := by omega
  have h2 : y = y' := by omega
  have h3 : z = z' := by omega
  rw [h1, h2, h3]
/-- the moves with P, each once, ascending -/
structure Canon (l : List Mv) (P : Mv → Prop) : Prop where
  mem : ∀ m, m ∈ l ↔ P m
  sm : ∀ m ∈ l, Sm m
  asc : l.Pairwise fun a b => mcode a < mcode b
theorem asc_unique : ∀ (l l' : List Mv), (l.Pairwise fun a b => mcode a < mcode b) → (l'.Pairwise fun a b => mcode a < mcode b) → (∀ m, m ∈ l ↔ m ∈ l') → (∀ m ∈ l, Sm m) → l = l'
  | [], [], _, _, _, _ => rfl
  | [], b :: r, _, _, h, _ => by
    have := (h b).mpr List.mem_cons_self
    cases this
  | a :: r, [], _, _, h, _ => by
    have := (h a).mp List.mem_cons_self
    cases this
  | a :: r, b :: r', p, p', h, sm => by
    obtain ⟨p1, p2⟩ := List.pairwise_cons.mp p
    obtain ⟨q1, q2⟩ := List.pairwise_cons.mp p'
    have e : a = b := by
      rcases List.mem_cons.mp ((h a).mp List.mem_cons_self) with e | h1
      · exact e
      · rcases List.mem_cons.mp ((h b).mpr List.mem_cons_self) with e | h2
        · exact e.symm
        · have := p1 b h2
          have := q1 a h1
          omega
    subst e
    have : r = r' := by
      refine asc_unique r r' p2 q2 (fun m => ?_) fun m hm => sm m (List.mem_cons_of_mem _ hm)
      constructor
      · intro hm
        rcases List.mem_cons.mp ((h m).mp (List.mem_cons_of_mem _ hm)) with e | h1
        · subst e
          have := p1 m hm
          omega
        · exact h1
      · intro hm
        rcases List.mem_cons.mp ((h m).mpr (List.mem_cons_of_mem _ hm)) with e | h1
        · subst e
          have := q1 m hm
          omega
        · exact h1
    rw [this]
theorem Canon.unique {l l' P} (a : Canon l P) (b : Canon l' P) : l = l' := asc_unique l l' a.asc b.asc (fun m => (a.mem m).trans (b.mem m).symm) a.sm
/-! ### how they stand in the heap -/
def tI (m : Mv) : List V := [.int (m.1 : Int), .int (m.2.1 : Int), .int (m.2.2 : Int)]
def TL (H : Hp) (ts : List Addr) (l : List Mv) : Prop := ts.length = l.length ∧ ∀ (i : Nat) (t : Addr) (m : Mv), ts[i]? = some t → l[i]? = some m → H t = some (.tup (tI m))
def TrisAt (H : Hp) (q : Addr) (l : List Mv) : Prop := ∃ ts : List Addr, H q = some (.lst (ts.map V.ref)) ∧ TL H ts l
def StateAt (K : PySem.W.Frag) (H : Hp) (a : Addr) (S : S2) : Prop := ∃ r b : Addr, SqT K H a [.ref r, .ref b] ∧ SqT K H r (nv S.1) ∧ SqT K H b (nv S.2)
section
variable {K : PySem.W.Frag} {H H' : Hp} {a g q t : Addr} {S : S2} {l : List Mv} {ts : List Addr} {m : Mv}
theorem StateAt.same (h : StateAt K H a S) (s : Same H H') : StateAt K H' a S := by
  obtain ⟨r, b, h1, h2, h3⟩ := h
  exact ⟨r, b, s.tup h1, s.tup h2, s.tup h3⟩
theorem StateAt.but {xs : List V} (h : StateAt K H a S) (hg : H g = some (.lst xs)) (s : But g H H') : StateAt K H' a S := by
  obtain ⟨r, b, h1, h2, h3⟩ := h
  exact ⟨r, b, s.tup hg h1, s.tup hg h2, s.tup hg h3⟩
theorem TL.same (h : TL H ts l) (s : Same H H') : TL H' ts l := ⟨h.1, fun i t m x y => s _ _ (h.2 i t m x y)⟩
theorem TL.but {xs : List V} (h : TL H ts l) (hg : H g = some (.lst xs)) (s : But g H H') : TL H' ts l := ⟨h.1, fun i t m x y => s _ _ (ne_lt hg (h.2 i t m x y)) (h.2 i t m x y)⟩
theorem TL.nil : TL H [] [] := ⟨rfl, fun i t m x => by simp at x⟩
theorem TL.append {ts2 : List Addr} {l2 : List Mv} (h : TL H ts l) (h2 : TL H ts2 l2) : TL H (ts ++ ts2) (l ++ l2) := by
  refine ⟨by rw [List.length_append, List.length_append, h.1, h2.1], fun i t m x y => ?_⟩
  by_cases hi : i < ts.length
  · rw [List.getElem?_append_left hi] at x
    rw [List.getElem?_append_left (by rw [← h.1]; exact hi)] at y
    exact h.2 i t m x y
  · rw [List.getElem?_append_right (by omega)] at x
    rw [List.getElem?_append_right (by rw [← h.1]; omega), ← h.1] at y
    exact h2.2 _ t m x y
theorem TL.one (h : H t = some (.tup (tI m))) : TL H [t] [m] := by
  refine ⟨rfl, fun i t' m' x y => ?_⟩
  match i with
  | 0 => cases x; cases y; exact h
  | i + 1 => simp at x
theorem TL.take (h : TL H ts l) (k : Nat) : TL H (ts.take k) (l.take k) := by
  refine ⟨by rw [List.length_take, List.length_take, h.1], fun i t m x y => ?_⟩
  rw [List.getElem?_take] at x y
  split at x
  · rename_i hi
    rw [if_pos hi] at y
    exact h.2 i t m x y
  · cases x
theorem TL.drop (h : TL H ts l) (k : Nat) : TL H (ts.drop k) (l.drop k) := by
  refine ⟨by rw [List.length_drop, List.length_drop, h.1], fun i t m x y => ?_⟩
  rw [List.getElem?_drop] at x y
  exact h.2 _ t m x y
theorem TrisAt.same (h : TrisAt H q l) (s : Same H H') : TrisAt H' q l := by
  obtain ⟨ts, h1, h2⟩ := h
  exact ⟨ts, s _ _ h1, h2.same s⟩
theorem TL.perm (h : TL H ts l) {ys : List V} (p : ys.Perm (ts.map V.ref)) : ∃ (ts' : List Addr) (l' : List Mv), ys = ts'.map V.ref ∧ l'.Perm l ∧ TL H ts' l' := by
  have e1 : ts.map V.ref = (ts.zip l).map (fun z => V.ref z.1) := by
    have e : (ts.zip l).map (fun z => V.ref z.1) = ((ts.zip l).map Prod.fst).map V.ref := by rw [List.map_map]; rfl
    rw [e, List.map_fst_zip (by rw [h.1]; omega)]
  rw [e1] at p
  obtain ⟨zs, ez, pz⟩ := perm_of_map _ _ _ p
  refine ⟨zs.map Prod.fst, zs.map Prod.snd, by rw [ez, List.map_map]; rfl, ?_, by simp, fun i t e a b => ?_⟩
  · have q := pz.map Prod.snd
    rw [List.map_snd_zip (by rw [h.1]; omega)] at q
    exact q
  · rw [List.getElem?_map] at a b
    cases hz : zs[i]? with
    | none => rw [hz] at a; cases a
    | some z =>
      rw [hz] at a b
      cases a
      cases b
      have hm := pz.mem_iff.mp (List.mem_of_getElem? hz)
      obtain ⟨j, hj⟩ := List.mem_iff_getElem?.mp hm
      rw [List.getElem?_zip_eq_some] at hj
      exact h.2 j _ _ hj.1 hj.2
/-- sorted's answer over such moves -/
theorem sorted_canon {ys : List V} {P : Mv → Prop} (h : TL H ts l) (mem : ∀ m, m ∈ l ↔ P m) (sm : ∀ m ∈ l, Sm m) (nd : l.Nodup) (pm : ys.Perm (ts.map V.ref))
    (asc : ys.Pairwise fun x y => ∀ n m, TupI K H x n → TupI K H y m → TS.code 64 n ≤ TS.code 64 m) : ∃ (ts' : List Addr) (l' : List Mv), ys = ts'.map V.ref ∧ Canon l' P ∧ TL H ts' l' := by
  obtain ⟨ts', l', rfl, pl, tl⟩ := h.perm pm
  have nd' := pl.nodup_iff.mpr nd
  refine ⟨ts', l', rfl, ⟨fun m => pl.mem_iff.trans (mem m), fun m hm => sm m (pl.mem_iff.mp hm), ?_⟩, tl⟩
  rw [List.pairwise_iff_getElem]
  intro i j hi hj hij
  have hi' : i < ts'.length := by rw [tl.1]; exact hi
  have hj' : j < ts'.length := by rw [tl.1]; exact hj
  have a1 := List.pairwise_iff_getElem.mp asc i j (by rw [List.length_map]; exact hi') (by rw [List.length_map]; exact hj') hij
  rw [List.getElem_map, List.getElem_map] at a1
  have t1 := tl.2 i ts'[i] l'[i] (List.getElem?_eq_getElem hi') (List.getElem?_eq_getElem hi)
  have t2 := tl.2 j ts'[j] l'[j] (List.getElem?_eq_getElem hj') (List.getElem?_eq_getElem hj)
  have le : mcode l'[i] ≤ mcode l'[j] := a1 _ _ ⟨_, rfl, SqT.of t1⟩ ⟨_, rfl, SqT.of t2⟩
  have ne : mcode l'[i] ≠ mcode l'[j] := by
    intro e
    have := mcode_inj (sm _ (pl.mem_iff.mp (List.getElem_mem hi))) (sm _ (pl.mem_iff.mp (List.getElem_mem hj))) e
    exact absurd this (List.pairwise_iff_getElem.mp nd' i j hi hj hij)
  omega
theorem tup_of {m : Mv} (h : H t = some (.tup (tI m))) (sm : Sm m) : ∃ ns, TupI K H (.ref t) ns ∧ ns.length = 3 ∧ TS.Bd 64 ns := by
  refine ⟨[(m.1 : Int), (m.2.1 : Int), (m.2.2 : Int)], ⟨t, rfl, SqT.of h⟩, rfl, ?_⟩
  obtain ⟨h1, h2, h3⟩ := sm
  intro x hx
  simp only [List.mem_cons, List.not_mem_nil,
        or_false] at hx
  rcases hx with rfl | rfl | rfl <;> omega
end
/-! ### as data -/
def dM (m : Mv) : PyData := .tuple [.int (m.1 : Int), .int (m.2.1 : Int), .int (m.2.2 : Int)]
def dMs (l : List Mv) : PyData := .list (l.map dM)
def dIs (l : List Nat) : List PyData := (l.map fun x : Nat => (x : Int)).map PyData.int
def dS (S : S2) : PyData := .tuple [.tuple (dIs S.1), .tuple (dIs S.2)]
def dO : (Nat × String) ⊕ S2 → PyData
  | .inl (i, w) => .list [.int (i : Int), .tuple [.str (Str.ofString w)]]
  | .inr S => dS S
theorem dIs_lay : ∀ l : List Nat, PyData.canLayAll0 (dIs l) = true
  | [] => by simp [dIs, PyData.canLayAll0]
  | x :: r => by
    have := dIs_lay r
    unfold dIs at this ⊢
    simp only [List.map_cons, PyData.canLayAll0, PyData.canLay0, this, Bool.and_true]
theorem dIs_depth : ∀ l : List Nat, PyData.depthAll (dIs l) ≤ 1
  | [] => by simp [dIs, PyData.depthAll]
  | x :: r => by
    have := dIs_depth r
    unfold dIs at this ⊢
    simp only [List.map_cons, PyData.depthAll,
          PyData.depth]
    omega
theorem dM_lay (z : Mv) : (dM z).canLay0 = true := by simp [dM, PyData.canLay0, PyData.canLayAll0]
theorem dM_depth (z : Mv) : (dM z).depth ≤ 2 := by simp [dM, PyData.depth, PyData.depthAll]
theorem dMs_lay : ∀ zs : List Mv, PyData.canLayAll0 (zs.map dM) = true
  | [] => by simp [PyData.canLayAll0]
  | z :: zs => by simp [PyData.canLayAll0, dM_lay z, dMs_lay zs]
theorem dMs_depth : ∀ zs : List Mv, PyData.depthAll (zs.map dM) ≤ 2
  | [] => by simp [PyData.depthAll]
  | z :: zs => by
    have h1 := dMs_depth zs
    have h2 := dM_depth z
    simp only [List.map_cons, PyData.depthAll]
    omega
theorem shaped_mk {d : PyData} (h1 : d.canLay0 = true) (h2 : d.depth ≤ 64) : SeqAt.shaped d = true := by
  show (d.canLay0 && decide (d.depth ≤ 64)) = true
  rw [h1, decide_eq_true h2]
  rfl
theorem dMs_shaped (l : List Mv) : SeqAt.shaped (dMs l) = true := by
  have h := dMs_depth l
  refine shaped_mk ?_ ?_
  · simp only [dMs, PyData.canLay0]
    exact dMs_lay l
  · simp only [dMs, PyData.depth]
    omega
theorem dS_shaped (S : S2) : SeqAt.shaped (dS S) = true := by
  have h1 := dIs_depth S.1
  have h2 := dIs_depth S.2
  have h3 := dIs_lay S.1
  have h4 := dIs_lay S.2
  refine shaped_mk ?_ ?_
  · simp only [dS, PyData.canLay0, PyData.canLayAll0, h3, h4, Bool.and_true]
  · simp only [dS, PyData.depth, PyData.depthAll]
    omega
theorem dO_shaped {o : (Nat × String) ⊕ S2} (h : ∀ i w, o = .inl (i, w) → w = "away" ∨ w = "barred") : SeqAt.shaped (dO o) = true := by
  match o, h with
  | .inl (i, w), h =>
    have hw : PyData.strOk (Str.ofString w) = true := by
      rcases h i w rfl with rfl | rfl
      · decide +kernel
      · decide +kernel
    refine shaped_mk ?_ ?_
    · simp only [dO, PyData.canLay0, PyData.canLayAll0, hw, Bool.and_true]
    · simp only [dO, PyData.depth, PyData.depthAll]
      omega
  | .inr S, _ => exact dS_shaped S
theorem why_word {ds S m w} (h : why ds S m = some w) : w = "away" ∨ w = "barred" := by
  unfold why at h
  split at h
  · exact .inl (Option.some.inj h).symm
  · split at h
    · exact .inr (Option.some.inj h).symm
    · cases h
theorem runs_word {ds : List (Nat × Nat)} : ∀ {ms : List Mv} {k : Nat} {S : S2} {i : Nat} {w : String}, runs ds k S ms = .inl (i, w) → w = "away" ∨ w = "barred"
  | [], k, S, i, w, h => by
    rw [runs] at h
    cases h
  | m :: r, k, S, i, w, h => by
    rw [runs] at h
    split at h
    · rename_i w' e
      cases h
      exact why_word e
    · exact runs_word h
theorem d_refl {d : PyData} (h : SeqAt.shaped d = true) : PyData.eqv d d = true := SeqAt.eqv_refl _ (SeqAt.canLay_of_shaped h)
section
variable {K : PySem.W.Frag} {H : Hp} {a q t : Addr} {S : S2} {l : List Mv} {ts : List Addr} {m : Mv}
theorem dp_is : ∀ l : List Nat, DpAll K H (nv l) (dIs l)
  | [] => .nil
  | x :: r => .cons (.int _) (dp_is r)
theorem dp_S (h : StateAt K H a S) : Dp K H (.ref a) (dS S) := by
  obtain ⟨r, b, h1, h2, h3⟩ := h
  exact .tup h1 (.cons (.tup h2 (dp_is _)) (.cons (.tup h3 (dp_is _)) .nil))
theorem dp_M (h : H t = some (.tup (tI m))) : Dp K H (.ref t) (dM m) := .tup (SqT.of h) (.cons (.int _) (.cons (.int _) (.cons (.int _) .nil)))
theorem dp_Ms : ∀ (ts : List Addr) (l : List Mv), TL H ts l → DpAll K H (ts.map V.ref) (l.map dM)
  | [], [], _ => .nil
  | [], m :: l, h => by have := h.1; simp at this
  | t :: ts, [], h => by have := h.1; simp at this
  | t :: ts, m :: l, h => .cons (dp_M (h.2 0 t m rfl rfl)) (dp_Ms ts l ⟨by have := h.1; simpa using this, fun i t' m' x y => h.2 (i + 1) t' m' x y⟩)
theorem dp_Tris (h : TrisAt H q l) : Dp K H (.ref q) (dMs l) := by
  obtain ⟨ts, h1, h2⟩ := h
  exact .lst (SqL.of h1) (dp_Ms ts l h2)
end
end K5

namespace K5
open PySem PySem.Spec PyProof.Rows L2
/-- steps (door, start, end) from a to b -/
def Trl (ds : List (Nat × Nat)) : Nat → List Mv → Nat → Prop
  | a, [], b => a = b
  | a, m :: r, b => m.2.1 = a ∧ Joins ds m.1 m.2.1 m.2.2 ∧ Trl ds m.2.2 r b
theorem Trl.snoc {ds : List (Nat × Nat)} {d y z : Nat} : ∀ {r : List Mv} {a : Nat}, Trl ds a r y → Joins ds d y z → Trl ds a (r ++ [(d, y, z)]) z
  | [], a, h, j => by
    have h : a = y := h
    subst h
    exact ⟨rfl, j, rfl⟩
  | m :: r, a, h, j => ⟨h.1, h.2.1, Trl.snoc h.2.2 j⟩
theorem Trl.walk {ds : List (Nat × Nat)} : ∀ {r : List Mv} {a b : Nat}, Trl ds a r b → Walk ds a (r.map Prod.fst) b
  | [], a, b, h => by
    have h : a = b := h
    subst h
    exact .nil _
  | m :: r, a, b, h => by
    obtain ⟨h1, h2, h3⟩ := h
    rw [h1] at h2
    exact .cons h2 (Trl.walk h3)
theorem nv_some {L : List Nat} {k : Nat} {x : V} (h : (nv L)[k]? = some x) : ∃ v, L[k]? = some v ∧ x = .int (v : Int) := by
  unfold nv at h
  rw [List.getElem?_map] at h
  cases e : L[k]? with
  | none => rw [e] at h; cases h
  | some v => rw [e] at h; exact ⟨v, rfl, (Option.some.inj h).symm⟩
/-- the doors that bar p -/
def barr (S : S2) (p : Nat) : List Nat := (List.range S.2.length).filter fun d => decide (S.2[d]? = some p)
theorem mem_barr {S : S2} {p d : Nat} : d ∈ barr S p ↔ S.2[d]? = some p := by
  unfold barr
  rw [List.mem_filter, List.mem_range]
  constructor
  · rintro ⟨_, h⟩
    exact of_decide_eq_true h
  · intro h
    exact ⟨get_lt h, decide_eq_true h⟩
theorem barr_len {S : S2} {p : Nat} : (barr S p).length ≤ S.2.length := by
  have := List.length_filter_le (fun d => decide (S.2[d]? = some p)) (List.range S.2.length)
  rw [List.length_range] at this
  exact this
/-- the rooms that a search finds; each with its way back -/
structure Reg (n : Nat) (ds : List (Nat × Nat)) (shut : List Nat) (room : Nat) (ks : List (Nat × Option (Nat × Nat))) : Prop where
  df : Dfs n ds shut (ks.map Prod.fst) []
  pt : Ptr ds shut room ks
  rm : room ∈ ks.map Prod.fst
def spStepsT (K : PySem.W.Frag) : Sp := fun vs H Q _ => ∃ (p : Addr) (a n room : Nat) (ds : List (Nat × Nat)) (shut : List Nat) (kvs : List (Key × V)) (ks : List (Nat × Option (Nat × Nat))), vs = [.ref p, .int (a : Int)] ∧ H p = some (.dK kvs) ∧ DicR (WayR H) kvs ks ∧ Ptr ds shut room ks ∧
  Tree n ds ∧ ks.length ≤ 1000 ∧ a ∈ ks.map Prod.fst ∧ ∀ (H' : Hp) (q : Addr) (tr : List Mv), Same H H' → H q = none → TrisAt H' q tr → Trl ds a tr room → (tr.map Prod.fst).Nodup → (∀ m ∈ tr, m.1 ∉ shut) → tr.length ≤ 1000 → Q (.ref q) H'
def spSt (K : PySem.W.Frag) : Sp := fun vs H Q _ => ∃ (a s : Addr) (ds : List (Nat × Nat)) (n : Nat) (S : S2), vs = [.ref a, .ref s] ∧ HouseAt K H a ds ∧ Tree n ds ∧ n ≤ 1000 ∧ StateAt K H s S ∧ StOk n ds S ∧ ∀ H', Same H H' → Q .non H'
def spShape (K : PySem.W.Frag) : Sp := fun vs H Q _ => ∃ (a s : Addr) (ds : List (Nat × Nat)) (n : Nat) (S : S2), vs = [.ref a, .ref s] ∧ HouseAt K H a ds ∧ StateAt K H s S ∧ StOk n ds S ∧ Q (.bl true) H
def spPerson (K : PySem.W.Frag) : Sp := fun vs H Q _ => ∃ (s : Addr) (p n : Nat) (ds : List (Nat × Nat)) (S : S2), vs = [.ref s, .int (p : Int)] ∧ StateAt K H s S ∧ StOk n ds S ∧ p < S.1.length ∧ Q .non H
def spBarring (K : PySem.W.Frag) : Sp := fun vs H Q _ => ∃ (s : Addr) (p n : Nat) (ds : List (Nat × Nat)) (S : S2), vs = [.ref s, .int (p : Int)] ∧ StateAt K H s S ∧ StOk n ds S ∧ n ≤ 1000 ∧ ds.length < n ∧ ∀ (H' : Hp) (q : Addr), Same H H' → H q = none → H' q = some (.lst (nv (barr S p))) → Q (.ref q) H'
def spRegWays (K : PySem.W.Frag) : Sp := fun vs H Q _ => ∃ (a s : Addr) (p n : Nat) (ds : List (Nat × Nat)) (S : S2), vs = [.ref a, .ref s, .int (p : Int)] ∧ HouseAt K H a ds ∧ Tree n ds ∧ n ≤ 1000 ∧ StateAt K H s S ∧ StOk n ds S ∧ p < S.1.length ∧
  ∀ (H' : Hp) (q : Addr) (kvs : List (Key × V)) (ks : List (Nat × Option (Nat × Nat))), Same H H' → H q = none → H' q = some (.dK kvs) → DicR (WayR H') kvs ks → Reg n ds (barr S p) (S.1.getD p 0) ks → Q (.ref q) H'
def spRegion (K : PySem.W.Frag) : Sp := fun vs H Q _ => ∃ (a s : Addr) (p n : Nat) (ds : List (Nat × Nat)) (S : S2), vs = [.ref a, .ref s, .int (p : Int)] ∧ HouseAt K H a ds ∧ Tree n ds ∧ n ≤ 60 ∧ StateAt K H s S ∧ StOk n ds S ∧ p < S.1.length ∧
  ∀ (H' : Hp) (q : Addr) (L : List Nat) (ks : List (Nat × Option (Nat × Nat))), Same H H' → H q = none → H' q = some (.lst (nv L)) → Reg n ds (barr S p) (S.1.getD p 0) ks → L.Perm (ks.map Prod.fst) → L.Pairwise (· ≤ ·) → Q (.ref q) H'
/-- walk_to: None where the room lies outside, else the steps of the way there -/
def spWalkTo (K : PySem.W.Frag) : Sp := fun vs H Q _ => ∃ (a s : Addr) (p x n : Nat) (ds : List (Nat × Nat)) (S : S2), vs = [.ref a, .ref s, .int (p : Int), .int (x : Int)] ∧ HouseAt K H a ds ∧ Tree n ds ∧ n ≤ 1000 ∧ StateAt K H s S ∧ StOk n ds S ∧ p < S.1.length ∧ x < n ∧
  (∀ (H' : Hp) (ks : List (Nat × Option (Nat × Nat))), Same H H' → Reg n ds (barr S p) x ks → S.1.getD p 0 ∉ ks.map Prod.fst → Q .non H') ∧
  (∀ (H' : Hp) (q : Addr) (tr : List Mv), Same H H' → H q = none → TrisAt H' q (tr.map fun m => (p, m.2.1, m.2.2)) → Trl ds (S.1.getD p 0) tr x → (tr.map Prod.fst).Nodup → (∀ m ∈ tr, m.1 ∉ barr S p) → tr.length ≤ 1000 → Q (.ref q) H')
section
variable {P : Program} {w : World} {K : PySem.W.Frag}
      {mg : Str → Option Value} {base : Heap}
theorem ok_has_state_shape (T : Bl mg) (D : Def K mg "has_state_shape" s_has_state_shape) : Cal P w K mg base "has_state_shape" ["house", "value"] 1 (spShape K) := by
  refine D.ok sc_has_state_shape (fun _ _ _ _ _ _ us hl => match us, hl with | [_, _], _ => rfl) (fun vs H Q E h => ?_) (fun f cdv A outer s H vs Q E hr h => ?_)
  · obtain ⟨a, s, ds, n, S, rfl, _⟩ := h
    rfl
  obtain ⟨a, s, ds, n, S, rfl, ⟨rs, hrs, hlen, hds⟩, ⟨r, b, h1, h2, h3⟩, ok, q⟩ := h
  refine ⟨_, (pss_cons (ps_if (PW.pt (pw_or (pt_not (pt_val (pe_callB call_isi (by rfl) T.isinstance (by decide +kernel) (pa_cons (pv 1) (pa_cons (pe_bltn (v := .ty "tuple") (u := .type "tuple") (by rfl) T.tuple (by decide +kernel) rfl) pa_nil))))) (pw_or1 (pt_cmpR op_ne (pe_callB call_len_seq (by rfl) T.len PySem.boot_len (pa_cons (pv 1) pa_nil)) pe_int (nomark _))))) (pss_one (ps_ret pe_bl)) pss_nil)
    (pss_cons (ps_asg (pv 1) (pg_tup (n := 2) rfl (pgs_cons (pg_name (i := 2) sc_has_state_shape.nd rfl (.inl rfl)) (pgs_cons (pg_name (i := 3) sc_has_state_shape.nd rfl (.inl rfl)) pgs_nil))))
    (pss_cons (ps_if (PW.pt (pw_or (pt_not (pt_val (pe_callB call_isi (by rfl) T.isinstance (by decide +kernel) (pa_cons (pv 2) (pa_cons (pe_bltn (v := .ty "tuple") (u := .type "tuple") (by rfl) T.tuple (by decide +kernel) rfl) pa_nil))))) (pw_or1 (pt_not (pt_val (pe_callB call_isi (by rfl) T.isinstance (by decide +kernel) (pa_cons (pv 3) (pa_cons (pe_bltn (v := .ty "tuple") (u := .type "tuple") (by rfl) T.tuple (by decide +kernel) rfl) pa_nil)))))))) (pss_one (ps_ret pe_bl)) pss_nil)
    (pss_one (ps_ret (pe_and (pe_cmpR op_ge (pe_callB call_len_seq (by rfl) T.len PySem.boot_len (pa_cons (pv 2) pa_nil)) pe_int (nomark _)) (pe_one (pe_cmpR op_eq (pe_callB call_len_seq (by rfl) T.len PySem.boot_len (pa_cons (pv 3) pa_nil)) (pe_callB call_len_seq (by rfl) T.len PySem.boot_len (pa_cons (pv 0) pa_nil)) (nomark _))))))))), ?_⟩
  refine ⟨_, rfl, _, _, _, _, _, rfl, .ty _, ty_tup h1, kit_ty (r := true) (by decide +kernel), _, rfl, iteF ?_⟩
  refine ⟨_, rfl, _, _, rfl, .inr h1, rfl, _, rfl, iteF ?_⟩
  refine ⟨_, rfl, _, _, rfl, h1, rfl, _, _, rfl, _, _, rfl, rfl, ?_⟩
  refine ⟨_, rfl, _, _, _, _, _, rfl, .ty _, ty_tup h2, kit_ty (r := true) (by decide +kernel), _, rfl, iteF ?_⟩
  refine ⟨_, rfl, _, _, _, _, _, rfl, .ty _, ty_tup h3, kit_ty (r := true) (by decide +kernel), _, rfl, iteF ?_⟩
  have o1 := ok.one
  refine ⟨_, rfl, _, _, rfl, .inr h2, _, _, rfl, rfl, _, rfl, ?_⟩
  rw [decide_eq_true (show (1 : Int) ≤ ((nv S.1).length : Nat) by rw [nv_len]; omega)]
  refine iteT ⟨_, rfl, _, _, rfl, .inr h3, _, rfl, _, _, rfl, .inr hrs, rfl, ?_⟩
  rw [decide_eq_true (show V.int ((nv S.2).length : Nat) = V.int ((rs.map V.ref).length : Nat) by rw [nv_len, List.length_map, hlen, ok.doors])]
  exact q
theorem ok_check_state (T : Bl mg) (D : Def K mg "check_state" s_check_state) (C_need_house : Cal P w K mg base "need_house" ["house"] 5 (spRing K)) (C_has_state_shape : Cal P w K mg base "has_state_shape" ["house", "value"] 1 (spShape K))
    (C_is_index : Cal P w K mg base "is_index" ["value", "count"] 2 spIndex) : Cal P w K mg base "check_state" ["house", "value"] 6 (spSt K) := by
  refine D.ok sc_check_state (fun _ _ _ _ _ _ us hl => match us, hl with | [_, _], _ => rfl) (fun vs H Q E h => ?_) (fun f cdv A outer s H vs Q E hr h => ?_)
  · obtain ⟨a, s, ds, n, S, rfl, _⟩ := h
    rfl
  obtain ⟨a, s, ds, n, S, rfl, hH, tree, hn, st, ok, q⟩ := h
  obtain ⟨rs, hrs, hlen, hds⟩ := id hH
  obtain ⟨r, b, h1, h2, h3⟩ := id st
  have hdn := tree.len
  obtain ⟨f_need_house, fd_need_house, g_need_house, k_need_house, b_need_house, G_need_house⟩ := C_need_house
  obtain ⟨f_has_state_shape, fd_has_state_shape, g_has_state_shape, k_has_state_shape, b_has_state_shape, G_has_state_shape⟩ := C_has_state_shape
  obtain ⟨f_is_index, fd_is_index, g_is_index, k_is_index, b_is_index, G_is_index⟩ := C_is_index
  refine ⟨_, (pss_cons (ps_expr (pe_call G_need_house (hr.mono (by decide)) (by rfl) g_need_house k_need_house b_need_house .nil pass0 (pa_cons (pv 0) pa_nil)))
    (pss_cons (ps_if (pt_not (pt_val (pe_call G_has_state_shape (hr.mono (by decide)) (by rfl) g_has_state_shape k_has_state_shape b_has_state_shape .nil pass0 (pa_cons (pv 0) (pa_cons (pv 1) pa_nil))))) (pss_one (ps_ret (pe_tup (pa_cons pe_str pa_nil)))) pss_nil)
    (pss_cons (ps_asg (pv 1) (pg_tup (n := 2) rfl (pgs_cons (pg_name (i := 2) sc_check_state.nd rfl (.inl rfl)) (pgs_cons (pg_name (i := 3) sc_check_state.nd rfl (.inl rfl)) pgs_nil))))
    (pss_cons (ps_for PassesOwn.never rfl (pi_enumT (by rfl) T.enumerate (pa_cons (pv 2) pa_nil)) (pg_tup (n := 2) rfl (pgs_cons (pg_name (i := 4) sc_check_state.nd rfl (.inl rfl)) (pgs_cons (pg_name (i := 5) sc_check_state.nd rfl (.inl rfl)) pgs_nil)))
    (pss_one (ps_if (pt_not (pt_val (pe_call G_is_index (hr.mono (by decide)) (by rfl) g_is_index k_is_index b_is_index .nil pass0 (pa_cons (pv 5) (pa_cons (pe_op op_add (pe_callB call_len_seq (by rfl) T.len PySem.boot_len (pa_cons (pv 0) pa_nil)) pe_int) pa_nil))))) (pss_one (ps_ret (pe_tup (pa_cons pe_str (pa_cons (pv 4) pa_nil))))) pss_nil)))
    (pss_cons (ps_for PassesOwn.never rfl (pi_enumT (by rfl) T.enumerate (pa_cons (pv 3) pa_nil)) (pg_tup (n := 2) rfl (pgs_cons (pg_name (i := 6) sc_check_state.nd rfl (.inl rfl)) (pgs_cons (pg_name (i := 4) sc_check_state.nd rfl (.inl rfl)) pgs_nil)))
    (pss_one (ps_if (pt_not (pt_val (pe_call G_is_index (hr.mono (by decide)) (by rfl) g_is_index k_is_index b_is_index .nil pass0 (pa_cons (pv 4) (pa_cons (pe_callB call_len_seq (by rfl) T.len PySem.boot_len (pa_cons (pv 2) pa_nil)) pa_nil))))) (pss_one (ps_ret (pe_tup (pa_cons pe_str (pa_cons (pv 6) pa_nil))))) pss_nil)))
    (pss_one (ps_ret pe_non))))))), ?_⟩
  refine ⟨_, rfl, a, ds, n, rfl, hH, tree, hn, fun H1 s1 => ?_⟩
  refine ⟨_, rfl, _, rfl, a, s, ds, n, S, rfl, hH.same s1, st.same s1, ok, _, rfl, iteF ?_⟩
  refine ⟨_, rfl, _, _, rfl, s1.tup h1, rfl, _, _, rfl, _, _, rfl, rfl, ?_⟩
  refine ⟨_, rfl, r, _, rfl, s1.tup h2, ?_⟩
  refine for_it (walk_enumT (K := K) (a := r) (xs := nv S.1)) (fun k σ H2 => ∃ y4 y5 y6, σ = [some (.ref a), some (.ref s), some (.ref r), some (.ref b), y4, y5, y6] ∧ Same H H2)
    ⟨_, _, _, rfl, s1⟩ (fun i σ H2 _ ⟨_, _, _, _, sm⟩ => sm.tup h2) ?_ ?_
  · rintro k x σ H2 H3 hk ⟨y4, y5, y6, rfl, sm⟩ ⟨t, x1, x2, rfl, nt, rfl, ex1, ex2⟩
    cases ex1
    obtain ⟨v, hv, rfl⟩ := nv_some ex2
    have sm3 := sm.trans (Same.upd (o := .tup [.int (k : Nat), .int (v : Int)]) nt)
    have lv := ok.rooms v (List.mem_of_getElem? hv)
    refine ⟨t, _, rfl, SqT.of upd_same, rfl, _, _, rfl, _, _, rfl, rfl, ?_⟩
    refine ⟨_, rfl, _, rfl, _, _, rfl, .inr (sm3.tup hrs), _, _, rfl, rfl, _, _, rfl, _, rfl, ?_⟩
    rw [decide_eq_true (by rw [List.length_map, hlen]; omega)]
    exact iteF ⟨_, _, _, rfl, sm3⟩
  · rintro σ H2 ⟨y4, y5, y6, rfl, sm⟩
    refine ⟨_, rfl, b, _, rfl, sm.tup h3, ?_⟩
    refine for_it (walk_enumT (K := K) (a := b) (xs := nv S.2)) (fun k σ H2 => ∃ y4 y5 y6, σ = [some (.ref a), some (.ref s), some (.ref r), some (.ref b), y4, y5, y6] ∧ Same H H2)
      ⟨_, _, _, rfl, sm⟩ (fun i σ H2 _ ⟨_, _, _, _, sm⟩ => sm.tup h3) ?_ ?_
    · rintro k x σ H2 H3 hk ⟨y4, y5, y6, rfl, sm⟩ ⟨t, x1, x2, rfl, nt, rfl, ex1, ex2⟩
      cases ex1
      obtain ⟨v, hv, rfl⟩ := nv_some ex2
      have sm3 := sm.trans (Same.upd (o := .tup [.int (k : Nat), .int (v : Int)]) nt)
      have lv := ok.bars v (List.mem_of_getElem? hv)
      refine ⟨t, _, rfl, SqT.of upd_same, rfl, _, _, rfl, _, _, rfl, rfl, ?_⟩
      refine ⟨_, rfl, _, rfl, _, _, rfl, .inr (sm3.tup h2), _, _, rfl, _, rfl, ?_⟩
      rw [decide_eq_true (by rw [nv_len]; omega)]
      exact iteF ⟨_, _, _, rfl, sm3⟩
    · rintro σ H2 ⟨y4, y5, y6, rfl, sm⟩
      exact q H2 sm
theorem ok_need_state (T : Bl mg) (D : Def K mg "need_state" s_need_state) (C_check_state : Cal P w K mg base "check_state" ["house", "value"] 6 (spSt K)) : Cal P w K mg base "need_state" ["house", "state"] 7 (spSt K) := by
  refine D.ok sc_need_state (fun _ _ _ _ _ _ us hl => match us, hl with | [_, _], _ => rfl) (fun vs H Q E h => ?_) (fun f cdv A outer s H vs Q E hr h => ?_)
  · obtain ⟨a, s, ds, n, S, rfl, _⟩ := h
    rfl
  obtain ⟨a, s, ds, n, S, rfl, hH, tree, hn, st, ok, q⟩ := h
  obtain ⟨f_check_state, fd_check_state, g_check_state, k_check_state, b_check_state, G_check_state⟩ := C_check_state
  refine ⟨_, (pss_cons (ps_set (i := 2) sc_need_state.nd rfl (.inl rfl) (pe_call G_check_state (hr.mono (by decide)) (by rfl) g_check_state k_check_state b_check_state .nil pass0 (pa_cons (pv 0) (pa_cons (pv 1) pa_nil))))
    (pss_one (ps_if (pt_cmpR op_notN (pv 2) pe_non (nomark _)) pss_never pss_nil))), ?_⟩
  refine ⟨_, rfl, _, rfl, a, s, ds, n, S, rfl, hH, tree, hn, st, ok, fun H2 sm2 => ⟨_, rfl, rfl, _, rfl, iteF ?_⟩⟩
  exact q H2 sm2
theorem ok_doors_barring (T : Bl mg) (D : Def K mg "doors_barring" s_doors_barring) : Cal P w K mg base "doors_barring" ["state", "person"] 1 (spBarring K) := by
  refine D.ok sc_doors_barring (fun _ _ _ _ _ _ us hl => match us, hl with | [_, _], _ => rfl) (fun vs H Q E h => ?_) (fun f cdv A outer s H vs Q E hr h => ?_)
  · obtain ⟨s, p, n, ds, S, rfl, _⟩ := h
    rfl
  obtain ⟨s, p, n, ds, S, rfl, ⟨r, b, h1, h2, h3⟩, ok, hn, hdn, q⟩ := h
  refine ⟨_, (pss_one (ps_ret (pe_lc (own := [("door", 2), ("who", 3)]) (g := gTup K 2 (gCons (gName 2) (gCons (gName 3) gNil)))  rfl sc_doors_barring.nd (pi_enumT (by rfl) T.enumerate (pa_cons (pe_ix ix_tup (pv 0) pe_int (fun _ _ => rfl)) pa_nil)) (blkOk_by (N := N_doors_barring) (sc := defScope s_doors_barring) (own := [("door", 2), ("who", 3)]) (by decide +kernel)) (fun _ _ _ _ _ => (pg_tup (n := 2) rfl (pgs_cons (pg_name (i := 2) sc_doors_barring.nd rfl (.inl rfl) (.inr rfl)) (pgs_cons (pg_name (i := 3) sc_doors_barring.nd rfl (.inl rfl) (.inr rfl)) pgs_nil)))) (fun _ _ _ _ _ => (pts_one (pt_cmpR op_eq (pv 3) (pv 1) (nomark _)))) (fun _ _ _ _ _ => (pv 2))))), ?_⟩
  refine ⟨_, rfl, s, _, _, _, rfl, rfl, h1, atI_nat (j := 1) rfl, b, _, rfl, h3, fun pd npd => ?_⟩
  have hdl := ok.doors
  refine lc_it (walk_enumT (K := K) (a := b) (xs := nv S.2)) (fun i H2 => Same H H2 ∧ H2 pd = some (.lst (nv ((List.range i).filter fun d => decide (S.2[d]? = some p))))) ⟨Same.upd npd, upd_same⟩ (fun i H2 _ h => h.1.tup h3) ?_ ?_
  · rintro i x H2 H3 hi ⟨sm, hp⟩ ⟨t, x1, x2, rfl, nt, rfl, ex1, ex2⟩
    cases ex1
    obtain ⟨v, hv, rfl⟩ := nv_some ex2
    have st : Same H2 (upd H2 t (.tup [.int (i : Nat), .int (v : Int)])) := Same.upd nt
    have hp4 := st _ _ hp
    have il := get_lt hv
    refine ⟨t, _, rfl, SqT.of upd_same, rfl, _, _, rfl, _, _, rfl, rfl, rfl, ?_⟩
    refine ⟨_, rfl, _, rfl, rfl, _, rfl, ?_⟩
    by_cases c : v = p
    · rw [decide_eq_true (show V.int (v : Int) = V.int (p : Int) by rw [c])]
      refine iteT ⟨_, rfl, _, hp4, ?_, (sm.trans st).at npd, ?_⟩
      · rw [nv_len]
        have h1 := List.length_filter_le (fun d => decide (S.2[d]? = some p)) (List.range i)
        rw [List.length_range] at h1
        exact small1000 (by omega)
      · have e1 : [i].filter (fun d => decide (S.2[d]? = some p)) = [i] := by simp [hv, c]
        rw [upd_same, List.range_succ, List.filter_append, e1, nv_snoc]
    · rw [decide_eq_false (show ¬ V.int (v : Int) = V.int (p : Int) from fun z => c (by have := V.int.inj z; omega))]
      refine iteF ⟨sm.trans st, ?_⟩
      have e1 : [i].filter (fun d => decide (S.2[d]? = some p)) = [] := by simp [hv, c]
      rw [hp4, List.range_succ, List.filter_append, e1, List.append_nil]
  · rintro H2 ⟨sm, hp⟩
    rw [nv_len] at hp
    exact q H2 pd sm npd hp
theorem ok_region_ways (T : Bl mg) (D : Def K mg "region_ways" s_region_ways) (C_ways_from : Cal P w K mg base "ways_from" ["house", "room", "shut"] 2 (spWays K)) (C_doors_barring : Cal P w K mg base "doors_barring" ["state", "person"] 1 (spBarring K)) : Cal P w K mg base "region_ways" ["house", "state", "person"] 3 (spRegWays K) := by
  refine D.ok sc_region_ways (fun _ _ _ _ _ _ us hl => match us, hl with | [_, _, _], _ => rfl) (fun vs H Q E h => ?_) (fun f cdv A outer s H vs Q E hr h => ?_)
  · obtain ⟨a, s, p, n, ds, S, rfl, _⟩ := h
    rfl
  obtain ⟨a, s, p, n, ds, S, rfl, hH, tree, hn, st, ok, hp, q⟩ := h
  obtain ⟨r, b, h1, h2, h3⟩ := id st
  have hdn := tree.len
  obtain ⟨f_ways_from, fd_ways_from, g_ways_from, k_ways_from, b_ways_from, G_ways_from⟩ := C_ways_from
  obtain ⟨f_doors_barring, fd_doors_barring, g_doors_barring, k_doors_barring, b_doors_barring, G_doors_barring⟩ := C_doors_barring
  refine ⟨_, (pss_one (ps_ret (pe_call G_ways_from (hr.mono (by decide)) (by rfl) g_ways_from k_ways_from b_ways_from .nil pass0 (pa_cons (pv 0) (pa_cons (pe_ix ix_tup (pe_ix ix_tup (pv 1) pe_int (fun _ _ => rfl)) (pv 2) (fun _ _ => rfl)) (pa_cons (pe_call G_doors_barring (hr.mono (by decide)) (by rfl) g_doors_barring k_doors_barring b_doors_barring .nil pass0 (pa_cons (pv 1) (pa_cons (pv 2) pa_nil))) pa_nil)))))), ?_⟩
  obtain ⟨v, hv⟩ : ∃ v, S.1[p]? = some v := get_of rfl hp
  have lv := ok.rooms v (List.mem_of_getElem? hv)
  refine ⟨_, rfl, _, rfl, s, _, _, _, rfl, rfl, h1, atI_nat (j := 0) rfl, _, rfl, r, _, _, _, rfl, rfl, h2, nv_at hv, ?_⟩
  refine ⟨_, rfl, _, rfl, s, p, n, ds, S, rfl, st, ok, hn, by omega, fun H1 sh s1 nsh hsh => ?_⟩
  have bl := barr_len (S := S) (p := p)
  rw [ok.doors] at bl
  refine ⟨a, sh, ds, n, v, barr S p, rfl, hH.same s1, tree, hn, lv, SqL.of hsh, by omega, fun H2 q2 kvs ks s2 nq2 hq2 r2 df pt hrm => ?_⟩
  refine q H2 q2 kvs ks (s1.trans s2) (s1.free nq2) hq2 r2 ?_
  rw [getD_of hv]
  exact ⟨df, pt, hrm⟩
end
end K5

namespace K5
open PySem PySem.Spec PyProof.Rows L2
/-- the key of a pair of rooms -/
def kD (x y : Nat) : List Key := [.inl (x : Int), .inl (y : Int)]
theorem kD_inj {a b x y : Nat} (h : kD a b = kD x y) : a = x ∧ b = y := by
  unfold kD at h
  have h1 := List.cons.inj h
  have h2 := List.cons.inj h1.2
  have e1 := Sum.inl.inj h1.1
  have e2 := Sum.inl.inj h2.1
  omega
/-- the dict of the doors ahead of door k -/
structure DrD (ds : List (Nat × Nat)) (k : Nat) (kvs : List (List Key × V)) : Prop where
  at_ : ∀ d x y, d < k → Joins ds d x y → valV kvs (kD x y) = some (.int (d : Int))
  len : kvs.length ≤ 2 * k
theorem put_len {κ : Type} [DecidableEq κ] (kvs : List (κ × V)) (k : κ) (v : V) : (putK kvs k v).length ≤ kvs.length + 1 := by
  unfold putK
  split
  · rw [List.length_map]; omega
  · simp
theorem DrD.step {n ds k kvs} {e : Nat × Nat} (T : Tree n ds) (h : DrD ds k kvs) (he : ds[k]? = some e) : DrD ds (k + 1) (putK (putK kvs (kD e.1 e.2) (.int (k : Int))) (kD e.2 e.1) (.int (k : Int))) := by
  have j : Joins ds k e.1 e.2 := .inl he
  refine ⟨fun d x y hd jd => ?_, ?_⟩
  · rw [valV_put, valV_put]
    by_cases c : d = k
    · subst c
      have hc : (x = e.1 ∧ y = e.2) ∨ (x = e.2 ∧ y = e.1) := by
        rcases jd with q | q <;> rw [he] at q <;> cases q
        · exact .inl ⟨rfl, rfl⟩
        · exact .inr ⟨rfl, rfl⟩
      rcases hc with ⟨rfl, rfl⟩ | ⟨rfl, rfl⟩
      · by_cases q : kD e.1 e.2 = kD e.2 e.1
        · rw [if_pos q]
        · rw [if_neg q, if_pos rfl]
      · rw [if_pos rfl]
    · have n1 : kD x y ≠ kD e.2 e.1 := fun q => by
        obtain ⟨rfl, rfl⟩ := kD_inj q
        exact c (T.one_door jd j.symm)
      have n2 : kD x y ≠ kD e.1 e.2 := fun q => by
        obtain ⟨rfl, rfl⟩ := kD_inj q
        exact c (T.one_door jd j)
      rw [if_neg n1, if_neg n2]
      exact h.at_ d x y (by omega) jd
  · have h1 := put_len kvs (kD e.1 e.2) (.int (k : Int))
    have h2 := put_len (putK kvs (kD e.1 e.2) (.int (k : Int))) (kD e.2 e.1) (.int (k : Int))
    have := h.len
    omega
def spDoors (K : PySem.W.Frag) : Sp := fun vs H Q _ => ∃ (a : Addr) (ds : List (Nat × Nat)) (n : Nat), vs = [.ref a] ∧ HouseAt K H a ds ∧ Tree n ds ∧ n ≤ 1000 ∧
  ∀ (H' : Hp) (p : Addr) (kvs : List (List Key × V)), Same H H' → H p = none → H' p = some (.dT kvs) → DrD ds ds.length kvs → Q (.ref p) H'
/-- a plan: a list of moves, None behind them where it is bad -/
def PlanAt (H : Hp) (pl : Addr) (l : List Mv) (bad : Bool) : Prop := ∃ ts : List Addr, H pl = some (.lst (ts.map V.ref ++ if bad = true then [.non] else [])) ∧ TL H ts l
theorem PlanAt.same {H H' : Hp} {pl l bad} (h : PlanAt H pl l bad) (s : Same H H') : PlanAt H' pl l bad := by
  obtain ⟨ts, h1, h2⟩ := h
  exact ⟨ts, s _ _ h1, h2.same s⟩
def spMove : Sp := fun vs H Q _ => ∃ (p : Addr) (P : Nat) (x : V) (ds : List (Nat × Nat)) (kvs : List (List Key × V)), vs = [.ref p, .int (P : Int), x] ∧ H p = some (.dT kvs) ∧ DrD ds ds.length kvs ∧
  ((x = .non ∧ Q (.bl false) H) ∨ ∃ (t : Addr) (m : Mv), x = .ref t ∧ H t = some (.tup (tI m)) ∧ VM ds P m ∧ ∀ H', Same H H' → Q (.bl true) H')
def spPeople : Sp := fun vs H Q _ => ∃ P : Nat, vs = [.int (P : Int)] ∧ 1 ≤ P ∧ Q .non H
def spPlan (K : PySem.W.Frag) : Sp := fun vs H Q _ => ∃ (a pl : Addr) (P n : Nat) (ds : List (Nat × Nat)) (l : List Mv) (bad : Bool), vs = [.ref a, .int (P : Int), .ref pl] ∧ HouseAt K H a ds ∧ Tree n ds ∧ n ≤ 1000 ∧ 1 ≤ P ∧ PlanAt H pl l bad ∧ (∀ m ∈ l, VM ds P m) ∧
  (bad = false → ∀ H', Same H H' → Q .non H') ∧ (bad = true → ∀ (H' : Hp) (t : Addr), Same H H' → H' t = some (.tup [.str "move", .int (l.length : Int)]) → Q (.ref t) H')
def spNP (K : PySem.W.Frag) : Sp := fun vs H Q _ => ∃ (a pl : Addr) (P n : Nat) (ds : List (Nat × Nat)) (l : List Mv), vs = [.ref a, .int (P : Int), .ref pl] ∧ HouseAt K H a ds ∧ Tree n ds ∧ n ≤ 1000 ∧ 1 ≤ P ∧ PlanAt H pl l false ∧ (∀ m ∈ l, VM ds P m) ∧ ∀ H', Same H H' → Q .non H'
/-- a plan that can be played, the doors given -/
def spPlayedG (K : PySem.W.Frag) : Sp := fun vs H Q _ => ∃ (pd s pl : Addr) (n : Nat) (ds : List (Nat × Nat)) (kvs : List (List Key × V)) (S S' : S2) (l : List Mv), vs = [.ref pd, .ref s, .ref pl] ∧ H pd = some (.dT kvs) ∧ DrD ds ds.length kvs ∧ Tree n ds ∧ n ≤ 1000 ∧ StateAt K H s S ∧ StOk n ds S ∧ PlanAt H pl l false ∧ (∀ m ∈ l, VM ds S.1.length m) ∧
  runs ds 0 S l = .inr S' ∧ ∀ (H' : Hp) (q : Addr), Same H H' → StateAt K H' q S' → Q (.ref q) H'
/-- a plan that can be played -/
def spPlayG (K : PySem.W.Frag) : Sp := fun vs H Q _ => ∃ (a s pl : Addr) (n : Nat) (ds : List (Nat × Nat)) (S S' : S2) (l : List Mv), vs = [.ref a, .ref s, .ref pl] ∧ HouseAt K H a ds ∧ Tree n ds ∧ n ≤ 1000 ∧ StateAt K H s S ∧ StOk n ds S ∧ PlanAt H pl l false ∧ (∀ m ∈ l, VM ds S.1.length m) ∧
  runs ds 0 S l = .inr S' ∧ ∀ (H' : Hp) (q : Addr), Same H H' → StateAt K H' q S' → Q (.ref q) H'
section
variable {P : Program} {w : World} {K : PySem.W.Frag}
      {mg : Str → Option Value} {base : Heap}
theorem ok_doors_by_ends (T : Bl mg) (D : Def K mg "doors_by_ends" s_doors_by_ends) : Cal P w K mg base "doors_by_ends" ["house"] 1 (spDoors K) := by
  refine D.ok sc_doors_by_ends (fun _ _ _ _ _ _ us hl => match us, hl with | [_], _ => rfl) (fun vs H Q E h => ?_) (fun f cdv A outer s H vs Q E hr h => ?_)
  · obtain ⟨a, ds, n, rfl, _⟩ := h
    rfl
  obtain ⟨a, ds, n, rfl, hH, tree, hn, q⟩ := h
  obtain ⟨rs, hrs, hlen, hds⟩ := id hH
  have hdn := tree.len
  refine ⟨_, (pss_cons (ps_set (i := 1) sc_doors_by_ends.nd rfl (.inl rfl) pe_dnewT)
    (pss_cons (ps_for PassesOwn.never rfl (pi_enumT (by rfl) T.enumerate (pa_cons (pv 0) pa_nil)) (pg_tup (n := 2) rfl (pgs_cons (pg_name (i := 2) sc_doors_by_ends.nd rfl (.inl rfl)) (pgs_cons (pg_tup (n := 2) rfl (pgs_cons (pg_name (i := 3) sc_doors_by_ends.nd rfl (.inl rfl)) (pgs_cons (pg_name (i := 4) sc_doors_by_ends.nd rfl (.inl rfl)) pgs_nil))) pgs_nil)))
    (pss_cons (ps_dput (hu_of hr) (pv 1) (pe_tup (pa_cons (pv 3) (pa_cons (pv 4) pa_nil))) (pv 2) rfl)
    (pss_one (ps_dput (hu_of hr) (pv 1) (pe_tup (pa_cons (pv 4) (pa_cons (pv 3) pa_nil))) (pv 2) rfl))))
    (pss_one (ps_ret (pv 1))))), ?_⟩
  refine fun p np => ?_
  refine ⟨_, rfl, a, _, rfl, (Same.upd np).tup hrs, ?_⟩
  refine for_it (walk_enumT (K := K) (a := a) (xs := rs.map V.ref)) (fun k σ H2 => ∃ kvs y3 y4 y5, σ = [some (.ref a), some (.ref p), y3, y4, y5] ∧ Same H H2 ∧ H2 p = some (.dT kvs) ∧ DrD ds k kvs)
    ⟨[], _, _, _, rfl, Same.upd np, upd_same, ⟨fun d x y h => by omega, Nat.zero_le _⟩⟩ (fun i σ H2 _ ⟨_, _, _, _, _, sm, _⟩ => sm.tup hrs) ?_ ?_
  · rintro k x σ H1 H2 hk ⟨kvs, y3, y4, y5, rfl, sm, hp, dr⟩ ⟨t, x1, x2, rfl, nt, rfl, ex1, ex2⟩
    cases ex1
    have hk' : k < ds.length := by
      rw [List.length_map, hlen] at hk
      exact hk
    obtain ⟨e, he⟩ : ∃ e, ds[k]? = some e := get_of rfl hk'
    obtain ⟨r, hr0⟩ : ∃ r, rs[k]? = some r := get_of hlen hk'
    have ex2' : V.ref r = x2 := by
      have ex2 : (rs.map V.ref)[k]? = some x2 := ex2
      rw [List.getElem?_map, hr0] at ex2
      exact Option.some.inj ex2
    subst ex2'
    have sm2 : Same H1 (upd H1 t (.tup [.int (k : Nat), .ref r])) := Same.upd nt
    have hrd := sm2.tup (sm.tup (hds k r e hr0 he))
    have hp2 := sm2 _ _ hp
    have sm3 := sm.trans sm2
    refine ⟨t, _, rfl, SqT.of upd_same, rfl, _, _, rfl, _, _, rfl, ⟨r, _, rfl, hrd, rfl, _, _, rfl, _, _, rfl, rfl, rfl, ?_⟩⟩
    generalize upd H1 t (.tup [.int (k : Nat), .ref r]) = H3 at sm2 hp2 sm3
    have dl := dr.len
    refine ⟨_, rfl, _, rfl, _, rfl, _, rfl, by show 2 ≤ sizeLine; decide, fun t1 nt1 => ⟨p, _, rfl, .t (k := kD e.1 e.2) (by rw [upd_ne (ne_of_none hp2 nt1)]; exact hp2) upd_same (small3k (by omega)), ?_⟩⟩
    have l1 := put_len kvs (kD e.1 e.2) (.int (k : Int))
    have hp4 : (upd (upd H3 t1 (.tup [.int (e.1 : Int), .int (e.2 : Int)])) p (.dT (putK kvs (kD e.1 e.2) (.int (k : Int))))) p = some (.dT (putK kvs (kD e.1 e.2) (.int (k : Int)))) := upd_same
    have sm4 : Same H (upd (upd H3 t1 (.tup [.int (e.1 : Int), .int (e.2 : Int)])) p (.dT (putK kvs (kD e.1 e.2) (.int (k : Int))))) := (sm3.trans (Same.upd nt1)).at np
    generalize upd (upd H3 t1 (.tup [.int (e.1 : Int), .int (e.2 : Int)])) p (.dT (putK kvs (kD e.1 e.2) (.int (k : Int)))) = H5 at hp4 sm4
    refine ⟨_, rfl, _, rfl, _, rfl, _, rfl, by show 2 ≤ sizeLine; decide, fun t2 nt2 => ⟨p, _, rfl, .t (k := kD e.2 e.1) (by rw [upd_ne (ne_of_none hp4 nt2)]; exact hp4) upd_same (small3k (by omega)), ?_⟩⟩
    exact ⟨_, _, _, _, rfl, (sm4.trans (Same.upd nt2)).at np, upd_same, dr.step tree he⟩
  · rintro σ H2 ⟨kvs, y3, y4, y5, rfl, sm, hp, dr⟩
    rw [List.length_map, hlen] at dr
    exact ⟨_, rfl, q H2 p kvs sm np hp dr⟩
theorem ok_need_people (T : Bl mg) (D : Def K mg "need_people" s_need_people) (C_is_whole : Cal P w K mg base "is_whole" ["value"] 1 spWhole) : Cal P w K mg base "need_people" ["people"] 2 spPeople := by
  refine D.ok sc_need_people (fun _ _ _ _ _ _ us hl => match us, hl with | [_], _ => rfl) (fun vs H Q E h => ?_) (fun f cdv A outer s H vs Q E hr h => ?_)
  · obtain ⟨p, rfl, _⟩ := h
    rfl
  obtain ⟨p, rfl, hp, q⟩ := h
  obtain ⟨f_is_whole, fd_is_whole, g_is_whole, k_is_whole, b_is_whole, G_is_whole⟩ := C_is_whole
  refine ⟨_, (pss_one (ps_if (PW.pt (pw_or (pt_not (pt_val (pe_call G_is_whole (hr.mono (by decide)) (by rfl) g_is_whole k_is_whole b_is_whole .nil pass0 (pa_cons (pv 0) pa_nil)))) (pw_or1 (pt_cmpR op_lt (pv 0) pe_int (nomark _))))) pss_never pss_nil)), ?_⟩
  refine ⟨_, rfl, _, rfl, _, rfl, iteF ?_⟩
  refine ⟨_, rfl, _, _, rfl, rfl, _, rfl, ?_⟩
  rw [decide_eq_false (show ¬ (p : Int) < 1 by omega)]
  exact iteF q
theorem ok_is_move (T : Bl mg) (D : Def K mg "is_move" s_is_move) (C_is_whole : Cal P w K mg base "is_whole" ["value"] 1 spWhole) (C_is_index : Cal P w K mg base "is_index" ["value", "count"] 2 spIndex) : Cal P w K mg base "is_move" ["doors", "people", "value"] 3 spMove := by
  refine D.ok sc_is_move (fun _ _ _ _ _ _ us hl => match us, hl with | [_, _, _], _ => rfl) (fun vs H Q E h => ?_) (fun f cdv A outer s H vs Q E hr h => ?_)
  · obtain ⟨p, n, x, ds, kvs, rfl, _⟩ := h
    rfl
  obtain ⟨p, n, x, ds, kvs, rfl, hp, dr, h⟩ := h
  obtain ⟨f_is_whole, fd_is_whole, g_is_whole, k_is_whole, b_is_whole, G_is_whole⟩ := C_is_whole
  obtain ⟨f_is_index, fd_is_index, g_is_index, k_is_index, b_is_index, G_is_index⟩ := C_is_index
  refine ⟨_, (pss_cons (ps_if (PW.pt (pw_or (pt_not (pt_val (pe_callB call_isi (by rfl) T.isinstance (by decide +kernel) (pa_cons (pv 2) (pa_cons (pe_bltn (v := .ty "tuple") (u := .type "tuple") (by rfl) T.tuple (by decide +kernel) rfl) pa_nil))))) (pw_or1 (pt_cmpR op_ne (pe_callB call_len_seq (by rfl) T.len PySem.boot_len (pa_cons (pv 2) pa_nil)) pe_int (nomark _))))) (pss_one (ps_ret pe_bl)) pss_nil)
    (pss_cons (ps_asg (pv 2) (pg_tup (n := 3) rfl (pgs_cons (pg_name (i := 3) sc_is_move.nd rfl (.inl rfl)) (pgs_cons (pg_name (i := 4) sc_is_move.nd rfl (.inl rfl)) (pgs_cons (pg_name (i := 5) sc_is_move.nd rfl (.inl rfl)) pgs_nil)))))
    (pss_cons (ps_if (PW.pt (pw_or (pt_not (pt_val (pe_call G_is_index (hr.mono (by decide)) (by rfl) g_is_index k_is_index b_is_index .nil pass0 (pa_cons (pv 3) (pa_cons (pv 1) pa_nil))))) (pw_or (pt_not (pt_val (pe_call G_is_whole (hr.mono (by decide)) (by rfl) g_is_whole k_is_whole b_is_whole .nil pass0 (pa_cons (pv 4) pa_nil)))) (pw_or1 (pt_not (pt_val (pe_call G_is_whole (hr.mono (by decide)) (by rfl) g_is_whole k_is_whole b_is_whole .nil pass0 (pa_cons (pv 5) pa_nil)))))))) (pss_one (ps_ret pe_bl)) pss_nil)
    (pss_one (ps_ret (pe_cmp (pc_din (hu_of hr) (pe_tup (pa_cons (pv 4) (pa_cons (pv 5) pa_nil))) (pv 0)))))))), ?_⟩
  rcases h with ⟨rfl, q⟩ | ⟨t, m, rfl, ht, ⟨v1, d, j⟩, q⟩
  · refine ⟨_, rfl, _, _, _, _, _, rfl, .ty _, .base .non, kit_ty (r := false) (by decide +kernel), _, rfl, iteT ?_⟩
    exact iteT q
  · refine ⟨_, rfl, _, _, _, _, _, rfl, .ty _, ty_tup (K := K) (SqT.of ht), kit_ty (r := true) (by decide +kernel), _, rfl, iteF ?_⟩
    refine ⟨_, rfl, _, _, rfl, .inr (SqT.of ht), rfl, _, rfl, iteF ?_⟩
    refine ⟨_, rfl, _, _, rfl, SqT.of ht, rfl, _, _, rfl, _, _, rfl, _, _, rfl, rfl, ?_⟩
    refine ⟨_, rfl, _, rfl, _, _, rfl, _, rfl, ?_⟩
    rw [decide_eq_true (show (0 : Int) ≤ (m.1 : Int) ∧ (m.1 : Int) < (n : Int) by omega)]
    refine iteF ⟨_, rfl, _, rfl, _, rfl, iteF ⟨_, rfl, _, rfl, _, rfl, iteF ?_⟩⟩
    refine ⟨_, rfl, _, rfl, by show 2 ≤ sizeLine; decide, fun t1 nt1 => ?_⟩
    refine ⟨_, rfl, p, _, rfl, .t (k := kD m.2.1 m.2.2) (by rw [upd_ne (ne_of_none hp nt1)]; exact hp) upd_same, ?_⟩
    rw [dr.at_ d m.2.1 m.2.2 (joins_lt j) j]
    exact q _ (Same.upd nt1)
theorem ok_check_plan (T : Bl mg) (D : Def K mg "check_plan" s_check_plan) (C_need_house : Cal P w K mg base "need_house" ["house"] 5 (spRing K)) (C_need_people : Cal P w K mg base "need_people" ["people"] 2 spPeople)
    (C_doors_by_ends : Cal P w K mg base "doors_by_ends" ["house"] 1 (spDoors K)) (C_is_move : Cal P w K mg base "is_move" ["doors", "people", "value"] 3 spMove) : Cal P w K mg base "check_plan" ["house", "people", "value"] 6 (spPlan K) := by
  refine D.ok sc_check_plan (fun _ _ _ _ _ _ us hl => match us, hl with | [_, _, _], _ => rfl) (fun vs H Q E h => ?_) (fun f cdv A outer s H vs Q E hr h => ?_)
  · obtain ⟨a, pl, p, n, ds, l, bad, rfl, _⟩ := h
    rfl
  obtain ⟨a, pl, p, n, ds, l, bad, rfl, hH, tree, hn, hp, ⟨ts, hpl, tl⟩, vm, q0, q1⟩ := h
  obtain ⟨f_need_house, fd_need_house, g_need_house, k_need_house, b_need_house, G_need_house⟩ := C_need_house
  obtain ⟨f_need_people, fd_need_people, g_need_people, k_need_people, b_need_people, G_need_people⟩ := C_need_people
  obtain ⟨f_doors_by_ends, fd_doors_by_ends, g_doors_by_ends, k_doors_by_ends, b_doors_by_ends, G_doors_by_ends⟩ := C_doors_by_ends
  obtain ⟨f_is_move, fd_is_move, g_is_move, k_is_move, b_is_move, G_is_move⟩ := C_is_move
  refine ⟨_, (pss_cons (ps_expr (pe_call G_need_house (hr.mono (by decide)) (by rfl) g_need_house k_need_house b_need_house .nil pass0 (pa_cons (pv 0) pa_nil)))
    (pss_cons (ps_expr (pe_call G_need_people (hr.mono (by decide)) (by rfl) g_need_people k_need_people b_need_people .nil pass0 (pa_cons (pv 1) pa_nil)))
    (pss_cons (ps_if (pt_not (pt_val (pe_callB call_isi (by rfl) T.isinstance (by decide +kernel) (pa_cons (pv 2) (pa_cons (pe_bltn (v := .ty "list") (u := .type "list") (by rfl) T.list (by decide +kernel) rfl) pa_nil))))) (pss_one (ps_ret (pe_tup (pa_cons pe_str pa_nil)))) pss_nil)
    (pss_cons (ps_set (i := 3) sc_check_plan.nd rfl (.inl rfl) (pe_call G_doors_by_ends (hr.mono (by decide)) (by rfl) g_doors_by_ends k_doors_by_ends b_doors_by_ends .nil pass0 (pa_cons (pv 0) pa_nil)))
    (pss_cons (ps_for PassesOwn.never rfl (pi_enum (by rfl) T.enumerate (pa_cons (pv 2) pa_nil)) (pg_tup (n := 2) rfl (pgs_cons (pg_name (i := 4) sc_check_plan.nd rfl (.inl rfl)) (pgs_cons (pg_name (i := 5) sc_check_plan.nd rfl (.inl rfl)) pgs_nil)))
    (pss_one (ps_if (pt_not (pt_val (pe_call G_is_move (hr.mono (by decide)) (by rfl) g_is_move k_is_move b_is_move .nil pass0 (pa_cons (pv 3) (pa_cons (pv 1) (pa_cons (pv 5) pa_nil)))))) (pss_one (ps_ret (pe_tup (pa_cons pe_str (pa_cons (pv 4) pa_nil))))) pss_nil)))
    (pss_one (ps_ret pe_non))))))), ?_⟩
  refine ⟨_, rfl, a, ds, n, rfl, hH, tree, hn, fun H1 s1 => ?_⟩
  refine ⟨_, rfl, p, rfl, hp, ?_⟩
  refine ⟨_, rfl, _, _, _, _, _, rfl, .ty _, .base (.lst (s1 _ _ hpl)), kit_ty (r := true) (by decide +kernel), _, rfl, iteF ?_⟩
  refine ⟨_, rfl, a, ds, n, rfl, hH.same s1, tree, hn, fun H2 pd kvs s2 npd hpd dr => ?_⟩
  have s12 := s1.trans s2
  have hpl2 := s12 _ _ hpl
  refine ⟨_, rfl, pl, _, rfl, SqL.of hpl2, ?_⟩
  refine for_it (walk_enum (K := K) (a := pl) (xs := ts.map V.ref ++ if bad = true then [.non] else [])) (fun k σ H3 => ∃ y4 y5, σ = [some (.ref a), some (.int (p : Int)), some (.ref pl), some (.ref pd), y4, y5] ∧ Same H2 H3 ∧ k ≤ l.length)
    ⟨_, _, rfl, Same.refl _, Nat.zero_le _⟩ (fun i σ H3 _ ⟨_, _, _, sm, _⟩ => SqL.of (sm _ _ hpl2)) ?_ ?_
  · rintro k x σ H3 H4 hk ⟨y4, y5, rfl, sm, hkl⟩ ⟨t, x1, x2, rfl, nt, rfl, ex1, ex2⟩
    cases ex1
    have sm4 := sm.trans (Same.upd (o := .tup [.int (k : Nat), x2]) nt)
    refine ⟨t, _, rfl, SqT.of upd_same, rfl, _, _, rfl, _, _, rfl, rfl, ?_⟩
    generalize upd H3 t (.tup [.int (k : Nat), x2]) = H5 at sm4
    by_cases hkk : k < l.length
    · obtain ⟨t1, ht1⟩ : ∃ t1, ts[k]? = some t1 := get_of tl.1 hkk
      obtain ⟨m, hm⟩ : ∃ m, l[k]? = some m := get_of rfl hkk
      have e : x2 = V.ref t1 := by
        have ex2 : (ts.map V.ref ++ if bad = true then [.non] else [])[k]? = some x2 := ex2
        rw [List.getElem?_append_left (by rw [List.length_map, tl.1]; exact hkk), List.getElem?_map, ht1] at ex2
        exact (Option.some.inj ex2).symm
      subst e
      refine ⟨_, rfl, _, rfl, _, rfl, pd, p, _, ds, kvs, rfl, sm4 _ _ hpd, dr, .inr ⟨t1, m, rfl, sm4 _ _ (s12 _ _ (tl.2 k t1 m ht1 hm)), vm m (List.mem_of_getElem? hm), fun H6 s6 => ?_⟩⟩
      exact ⟨_, rfl, iteF ⟨_, _, rfl, sm4.trans s6, hkk⟩⟩
    · have e : k = l.length := by omega
      subst e
      have eb : bad = true ∧ x2 = .non := by
        have ex2 : (ts.map V.ref ++ if bad = true then [.non] else [])[l.length]? = some x2 := ex2
        rw [List.getElem?_append_right (by rw [List.length_map, tl.1]; exact Nat.le_refl _), List.length_map, tl.1, Nat.sub_self] at ex2
        cases bad with
        | false => simp at ex2
        | true => exact ⟨rfl, (by simpa using ex2.symm)⟩
      obtain ⟨rfl, rfl⟩ := eb
      refine ⟨_, rfl, _, rfl, _, rfl, pd, p, _, ds, kvs, rfl, sm4 _ _ hpd, dr, .inl ⟨rfl, _, rfl, iteT ?_⟩⟩
      refine ⟨_, rfl, by show 2 ≤ sizeLine; decide, fun t2 nt2 => ?_⟩
      exact q1 rfl _ t2 ((s12.trans sm4).trans (Same.upd nt2)) upd_same
  · rintro σ H3 ⟨y4, y5, rfl, sm, hkl⟩
    have eb : bad = false := by
      cases bad with
      | false => rfl
      | true =>
        rw [List.length_append, List.length_map, tl.1] at hkl
        simp at hkl
        omega
    exact q0 eb H3 (s12.trans sm)
theorem ok_need_plan (T : Bl mg) (D : Def K mg "need_plan" s_need_plan) (C_check_plan : Cal P w K mg base "check_plan" ["house", "people", "value"] 6 (spPlan K)) : Cal P w K mg base "need_plan" ["house", "people", "plan"] 7 (spNP K) := by
  refine D.ok sc_need_plan (fun _ _ _ _ _ _ us hl => match us, hl with | [_, _, _], _ => rfl) (fun vs H Q E h => ?_) (fun f cdv A outer s H vs Q E hr h => ?_)
  · obtain ⟨a, pl, p, n, ds, l, rfl, _⟩ := h
    rfl
  obtain ⟨a, pl, p, n, ds, l, rfl, hH, tree, hn, hp, hpl, vm, q0⟩ := h
  obtain ⟨f_check_plan, fd_check_plan, g_check_plan, k_check_plan, b_check_plan, G_check_plan⟩ := C_check_plan
  refine ⟨_, (pss_cons (ps_set (i := 3) sc_need_plan.nd rfl (.inl rfl) (pe_call G_check_plan (hr.mono (by decide)) (by rfl) g_check_plan k_check_plan b_check_plan .nil pass0 (pa_cons (pv 0) (pa_cons (pv 1) (pa_cons (pv 2) pa_nil)))))
    (pss_one (ps_if (pt_cmpR op_notN (pv 3) pe_non (nomark _)) pss_never pss_nil))), ?_⟩
  refine ⟨_, rfl, _, rfl, _, rfl, a, pl, p, n, ds, l, false, rfl, hH, tree, hn, hp, hpl, vm, fun _ H2 sm2 => ?_, fun eb => (by cases eb)⟩
  exact ⟨_, rfl, rfl, _, rfl, iteF (q0 H2 sm2)⟩
theorem ok_played (T : Bl mg) (D : Def K mg "played" s_played) : Cal P w K mg base "played" ["doors", "state", "plan"] 1 (spPlayedG K) := by
  refine D.ok sc_played (fun _ _ _ _ _ _ us hl => match us, hl with | [_, _, _], _ => rfl) (fun vs H Q E h => ?_) (fun f cdv A outer s0 H vs Q E hr h => ?_)
  · obtain ⟨pd, s, pl, n, ds, kvs, S, S', l, rfl, _⟩ := h
    rfl
  obtain ⟨pd, s, pl, n, ds, kvs, S, S', l, rfl, hpd, dr, tree, hn, st, ok, hpl, vm, run, q0⟩ := h
  obtain ⟨r, b, h1, h2, h3⟩ := id st
  have hdn := tree.len
  have one := ok.one
  skip
  refine ⟨_, (pss_cons (ps_set (i := 3) sc_played.nd rfl (.inl rfl) (pe_callTy call_list_of (by rfl) T.list (by decide +kernel) (pa_cons (pe_ix ix_tup (pv 1) pe_int (fun _ _ => rfl)) pa_nil)))
    (pss_cons (ps_set (i := 4) sc_played.nd rfl (.inl rfl) (pe_callTy call_list_of (by rfl) T.list (by decide +kernel) (pa_cons (pe_ix ix_tup (pv 1) pe_int (fun _ _ => rfl)) pa_nil)))
    (pss_cons (ps_for PassesOwn.never rfl (pi_enum (by rfl) T.enumerate (pa_cons (pv 2) pa_nil)) (pg_tup (n := 2) rfl (pgs_cons (pg_name (i := 5) sc_played.nd rfl (.inl rfl)) (pgs_cons (pg_tup (n := 3) rfl (pgs_cons (pg_name (i := 6) sc_played.nd rfl (.inl rfl)) (pgs_cons (pg_name (i := 7) sc_played.nd rfl (.inl rfl)) (pgs_cons (pg_name (i := 8) sc_played.nd rfl (.inl rfl)) pgs_nil)))) pgs_nil)))
    (pss_cons (ps_set (i := 9) sc_played.nd rfl (.inl rfl) (pe_dget (hu_of hr) (pv 0) (pe_tup (pa_cons (pv 7) (pa_cons (pv 8) pa_nil))) (fun _ _ => rfl)))
    (pss_cons (ps_if (pt_cmpR op_ne (pe_ix ix_list (pv 3) (pv 6) (fun _ _ => rfl)) (pv 7) (nomark _)) pss_never pss_nil)
    (pss_cons (ps_if (pt_cmpR op_eq (pe_ix ix_list (pv 4) (pv 9) (fun _ _ => rfl)) (pv 6) (nomark _)) pss_never pss_nil)
    (pss_cons (ps_asg (pv 8) (pg_sub (pv 3) (pv 6) set_list))
    (pss_one (ps_asg (pv 6) (pg_sub (pv 4) (pv 9) set_list))))))))
    (pss_one (ps_ret (pe_tup (pa_cons (pe_callTy call_tuple_of (by rfl) T.tuple (by decide +kernel) (pa_cons (pv 3) pa_nil)) (pa_cons (pe_callTy call_tuple_of (by rfl) T.tuple (by decide +kernel) (pa_cons (pv 4) pa_nil)) pa_nil)))))))), ?_⟩
  obtain ⟨ts, hts, tl⟩ := hpl
  rw [if_neg (by simp), List.append_nil] at hts
  refine ⟨_, rfl, s, _, _, _, rfl, rfl, h1, atI_nat (j := 0) rfl, r, _, rfl, .inr h2, fun pr npr => ?_⟩
  have s14 := Same.upd (o := .lst (nv S.1)) npr
  have hpd4 : (upd H pr (.lst (nv S.1))) pd = some (.dT kvs) := by rw [upd_ne (ne_of_none hpd npr)]; exact hpd
  have hpr4 : (upd H pr (.lst (nv S.1))) pr = some (.lst (nv S.1)) := upd_same
  have npr0 := npr
  generalize upd H pr (.lst (nv S.1)) = H4 at s14 hpd4 hpr4
  refine ⟨_, rfl, s, _, _, _, rfl, rfl, s14.tup h1, atI_nat (j := 1) rfl, b, _, rfl, .inr (s14.tup h3), fun pb npb => ?_⟩
  have s15 := s14.trans (Same.upd (o := .lst (nv S.2)) npb)
  have hpd5 : (upd H4 pb (.lst (nv S.2))) pd = some (.dT kvs) := by rw [upd_ne (ne_of_none hpd4 npb)]; exact hpd4
  have nrb : pr ≠ pb := ne_of_none hpr4 npb
  have hpr5 : (upd H4 pb (.lst (nv S.2))) pr = some (.lst (nv S.1)) := by rw [upd_ne nrb]; exact hpr4
  have hpb5 : (upd H4 pb (.lst (nv S.2))) pb = some (.lst (nv S.2)) := upd_same
  have npb0 := s14.free npb
  generalize upd H4 pb (.lst (nv S.2)) = H5 at s15 hpd5 hpr5 hpb5
  have ndr : pd ≠ pr := ne_of hpd5 hpr5 (by intro z; cases z)
  have ndb : pd ≠ pb := ne_of hpd5 hpb5 (by intro z; cases z)
  refine ⟨_, rfl, pl, _, rfl, SqL.of (s15 _ _ hts), ?_⟩
  refine for_it (walk_enum (K := K) (a := pl) (xs := ts.map V.ref)) (fun k σ H6 => ∃ Sk y6 y7 y8 y9 y10, σ = [some (.ref pd), some (.ref s), some (.ref pl), some (.ref pr), some (.ref pb), y6, y7, y8, y9, y10] ∧ Same H H6 ∧
      H6 pd = some (.dT kvs) ∧ H6 pr = some (.lst (nv Sk.1)) ∧ H6 pb = some (.lst (nv Sk.2)) ∧ StOk n ds Sk ∧ Sk.1.length = S.1.length ∧ runs ds 0 S l = runs ds k Sk (l.drop k))
    ⟨S, _, _, _, _, _, rfl, s15, hpd5, hpr5, hpb5, ok, rfl, rfl⟩ (fun i σ H6 _ ⟨_, _, _, _, _, _, _, sm, _⟩ => SqL.of (sm _ _ hts)) ?_ ?_
  · rintro k x σ H6 H7 hk ⟨Sk, y6, y7, y8, y9, y10, rfl, sm, g1, g2, g3, okk, lk, er⟩ ⟨t, x1, x2, rfl, nt, rfl, ex1, ex2⟩
    cases ex1
    have hk' : k < l.length := by
      rw [List.length_map, tl.1] at hk
      exact hk
    obtain ⟨t1, ht1⟩ : ∃ t1, ts[k]? = some t1 := get_of tl.1 hk'
    obtain ⟨m, hm⟩ : ∃ m, l[k]? = some m := get_of rfl hk'
    have ex2' : V.ref t1 = x2 := by
      have ex2 : (ts.map V.ref)[k]? = some x2 := ex2
      rw [List.getElem?_map, ht1] at ex2
      exact Option.some.inj ex2
    subst ex2'
    obtain ⟨v1, d, j⟩ := vm m (List.mem_of_getElem? hm)
    have smt : Same H6 (upd H6 t (.tup [.int (k : Nat), .ref t1])) := Same.upd nt
    have sm7 := sm.trans smt
    have htm := sm7 _ _ (tl.2 k t1 m ht1 hm)
    have g17 := smt _ _ g1
    have g27 := smt _ _ g2
    have g37 := smt _ _ g3
    refine ⟨t, _, rfl, SqT.of upd_same, rfl, _, _, rfl, _, _, rfl, ⟨t1, _, rfl, SqT.of htm, rfl, _, _, rfl, _, _, rfl, _, _, rfl, rfl, rfl, ?_⟩⟩
    generalize upd H6 t (.tup [.int (k : Nat), .ref t1]) = H8 at smt sm7 htm g17 g27 g37
    refine ⟨_, rfl, _, rfl, _, rfl, by show 2 ≤ sizeLine; decide, fun t2 nt2 => ?_⟩
    have sm9 := sm7.trans (Same.upd (o := .tup [.int (m.2.1 : Int), .int (m.2.2 : Int)]) nt2)
    have g19 := (Same.upd (o := .tup [.int (m.2.1 : Int), .int (m.2.2 : Int)]) nt2) _ _ g17
    have g29 := (Same.upd (o := .tup [.int (m.2.1 : Int), .int (m.2.2 : Int)]) nt2) _ _ g27
    have g39 := (Same.upd (o := .tup [.int (m.2.1 : Int), .int (m.2.2 : Int)]) nt2) _ _ g37
    refine ⟨pd, .int (d : Int), rfl, ?_, ?_⟩
    · have := DGet.t (k := kD m.2.1 m.2.2) g19 upd_same
      rw [dr.at_ d _ _ (joins_lt j) j] at this
      exact this
    generalize upd H8 t2 (.tup [.int (m.2.1 : Int), .int (m.2.2 : Int)]) = H9 at sm9 g19 g29 g39
    have v1' : m.1 < Sk.1.length := by rw [lk]; exact v1
    obtain ⟨v, hv⟩ : ∃ v, Sk.1[m.1]? = some v := get_of rfl v1'
    have hd : d < Sk.2.length := by rw [okk.doors]; exact joins_lt j
    obtain ⟨bd, hbd⟩ : ∃ bd, Sk.2[d]? = some bd := get_of rfl hd
    have ed := dix_is tree j
    have rd := runs_drop (ds := ds) (S := Sk) hm
    refine ⟨_, rfl, _, rfl, pr, _, _, _, rfl, rfl, SqL.of g29, nv_at hv, _, rfl, rfl, _, rfl, ?_⟩
    by_cases cv : v = m.2.1
    · rw [decide_eq_true (show V.int (v : Int) = V.int (m.2.1 : Int) by rw [cv])]
      refine iteF ?_
      refine ⟨_, rfl, _, rfl, pb, _, _, _, rfl, rfl, SqL.of g39, nv_at hbd, _, rfl, rfl, _, rfl, ?_⟩
      by_cases cb : bd = m.1
      · rw [decide_eq_true (show V.int (bd : Int) = V.int (m.1 : Int) by rw [cb])]
        have hw : why ds Sk m = some "barred" := by
          unfold why
          rw [if_neg (by rw [getD_of hv, cv]; simp), ed, if_pos (by rw [getD_of hbd, cb])]
        rw [hw, ← er, run] at rd
        cases rd
      · rw [decide_eq_false (show ¬ V.int (bd : Int) = V.int (m.1 : Int) from fun z => cb (by have := V.int.inj z; omega))]
        have hw : why ds Sk m = none := by
          unfold why
          rw [if_neg (by rw [getD_of hv, cv]; simp), ed, if_neg (by rw [getD_of hbd]; exact cb)]
        rw [hw] at rd
        refine iteF ?_
        refine ⟨_, rfl, _, rfl, _, rfl, pr, _, _, m.1, rfl, rfl, g29, ixN_nat (by rw [nv_len]; exact v1'), ?_⟩
        refine ⟨_, rfl, _, rfl, _, rfl, pb, _, _, d, rfl, rfl, by rw [upd_ne nrb.symm]; exact g39, ixN_nat (by rw [nv_len]; exact hd), ?_⟩
        rw [nv_set, nv_set]
        refine ⟨nxt ds Sk m, _, _, _, _, _, rfl, (sm9.at npr0).at npb0, by rw [upd_ne ndb, upd_ne ndr]; exact g19, by rw [upd_ne nrb, upd_same]; rfl, by rw [upd_same, ← ed]; rfl, okk.nxt tree ⟨v1', d, j⟩, by rw [nxt_len]; exact lk, er.trans rd⟩
    · rw [decide_eq_false (show ¬ V.int (v : Int) = V.int (m.2.1 : Int) from fun z => cv (by have := V.int.inj z; omega))]
      have hw : why ds Sk m = some "away" := by
        unfold why
        rw [if_pos (by rw [getD_of hv]; exact cv)]
      rw [hw, ← er, run] at rd
      cases rd
  · rintro σ H6 ⟨Sk, y6, y7, y8, y9, y10, rfl, sm, g1, g2, g3, okk, lk, er⟩
    rw [List.length_map, tl.1, List.drop_length] at er
    refine ⟨_, rfl, pr, _, rfl, .inl ⟨SqL.of g2, fun u1 nu1 => ?_⟩⟩
    have sA := Same.upd (o := .tup (nv Sk.1)) nu1
    refine ⟨_, rfl, pb, _, rfl, .inl ⟨SqL.of (sA _ _ g3), fun u2 nu2 => ?_⟩⟩
    have sB := Same.upd (o := .tup (nv Sk.2)) nu2
    refine ⟨by show 2 ≤ sizeLine; decide, fun u3 nu3 => ?_⟩
    have sC := Same.upd (o := .tup [.ref u1, .ref u2]) nu3
    rw [run, runs] at er
    cases er
    exact q0 _ u3 (((sm.trans sA).trans sB).trans sC) ⟨u1, u2, SqT.of upd_same, SqT.of (sC _ _ (sB _ _ upd_same)), SqT.of (sC _ _ upd_same)⟩
theorem ok_play (T : Bl mg) (D : Def K mg "play" s_play) (C_need_state : Cal P w K mg base "need_state" ["house", "state"] 7 (spSt K))
    (C_need_plan : Cal P w K mg base "need_plan" ["house", "people", "plan"] 7 (spNP K)) (C_doors_by_ends : Cal P w K mg base "doors_by_ends" ["house"] 1 (spDoors K)) (C_played : Cal P w K mg base "played" ["doors", "state", "plan"] 1 (spPlayedG K)) : Cal P w K mg base "play" ["house", "state", "plan"] 8 (spPlayG K) := by
  refine D.ok sc_play (fun _ _ _ _ _ _ us hl => match us, hl with | [_, _, _], _ => rfl) (fun vs H Q E h => ?_) (fun f cdv A outer s0 H vs Q E hr h => ?_)
  · obtain ⟨a, s, pl, n, ds, S, S', l, rfl, _⟩ := h
    rfl
  obtain ⟨a, s, pl, n, ds, S, S', l, rfl, hH, tree, hn, st, ok, hpl, vm, run, q0⟩ := h
  obtain ⟨r, b, h1, h2, h3⟩ := id st
  have hdn := tree.len
  have one := ok.one
  obtain ⟨f_need_state, fd_need_state, g_need_state, k_need_state, b_need_state, G_need_state⟩ := C_need_state
  obtain ⟨f_need_plan, fd_need_plan, g_need_plan, k_need_plan, b_need_plan, G_need_plan⟩ := C_need_plan
  obtain ⟨f_played, fd_played, g_played, k_played, b_played, G_played⟩ := C_played
  obtain ⟨f_doors_by_ends, fd_doors_by_ends, g_doors_by_ends, k_doors_by_ends, b_doors_by_ends, G_doors_by_ends⟩ := C_doors_by_ends
  refine ⟨_, (pss_cons (ps_expr (pe_call G_need_state (hr.mono (by decide)) (by rfl) g_need_state k_need_state b_need_state .nil pass0 (pa_cons (pv 0) (pa_cons (pv 1) pa_nil))))
    (pss_cons (ps_expr (pe_call G_need_plan (hr.mono (by decide)) (by rfl) g_need_plan k_need_plan b_need_plan .nil pass0 (pa_cons (pv 0) (pa_cons (pe_callB call_len_seq (by rfl) T.len PySem.boot_len (pa_cons (pe_ix ix_tup (pv 1) pe_int (fun _ _ => rfl)) pa_nil)) (pa_cons (pv 2) pa_nil)))))
    (pss_one (ps_ret (pe_call G_played (hr.mono (by decide)) (by rfl) g_played k_played b_played .nil pass0 (pa_cons (pe_call G_doors_by_ends (hr.mono (by decide)) (by rfl) g_doors_by_ends k_doors_by_ends b_doors_by_ends .nil pass0 (pa_cons (pv 0) pa_nil)) (pa_cons (pv 1) (pa_cons (pv 2) pa_nil)))))))), ?_⟩
  refine ⟨_, rfl, _, rfl, a, s, ds, n, S, rfl, hH, tree, hn, st, ok, fun H1 s1 => ?_⟩
  refine ⟨_, rfl, _, rfl, s, _, _, _, rfl, rfl, s1.tup h1, atI_nat (j := 0) rfl, _, _, rfl, .inr (s1.tup h2), _, rfl, ?_⟩
  refine ⟨a, pl, S.1.length, n, ds, l, by rw [nv_len]; rfl, hH.same s1, tree, hn, one, hpl.same s1, vm, fun H2 s2 => ?_⟩
  have s12 := s1.trans s2
  refine ⟨_, rfl, a, ds, n, rfl, hH.same s12, tree, hn, fun H3 pd kvs s3 npd hpd dr => ?_⟩
  have s13 := s12.trans s3
  refine ⟨_, rfl, _, rfl, pd, s, pl, n, ds, kvs, S, S', l, rfl, hpd, dr, tree, hn, st.same s13, ok, hpl.same s13, vm, run, fun H4 q s4 hq => ?_⟩
  exact q0 _ q (s13.trans s4) hq
end
end K5

namespace K5
open PySem PySem.Spec PyProof.Rows L2
/-- the moves found ahead of person j at door k -/
structure PM (ds : List (Nat × Nat)) (S : S2) (k j : Nat) (l : List Mv) : Prop where
  mem : ∀ m, m ∈ l ↔ ∃ d, (d < k ∨ (d = k ∧ m.1 < j)) ∧ Joins ds d m.2.1 m.2.2 ∧ S.1[m.1]? = some m.2.1 ∧ S.2[d]? ≠ some m.1
  nd : l.Nodup
  len : l.length ≤ 4 * k + j
theorem PM.nil {ds S} : PM ds S 0 0 [] := ⟨fun m => ⟨fun h => (List.not_mem_nil h).elim, fun h => by
  obtain ⟨d, h, _⟩ := h
  omega⟩, List.nodup_nil, Nat.zero_le _⟩
theorem PM.add {n ds S k j l x y} (T : Tree n ds) (h : PM ds S k j l) (jo : Joins ds k x y) (hv : S.1[j]? = some x) (hb : S.2[k]? ≠ some j) : PM ds S k (j + 1) (l ++ [(j, x, y)]) := by
  refine ⟨fun m => ?_, ?_, by rw [List.length_append, List.length_singleton]; have := h.len; omega⟩
  · rw [List.mem_append, List.mem_singleton, h.mem m]
    constructor
    · rintro (⟨d, q, r⟩ | rfl)
      · exact ⟨d, by omega, r⟩
      · exact ⟨k, .inr ⟨rfl, Nat.lt_succ_self _⟩, jo, hv, hb⟩
    · rintro ⟨d, q, r1, r2, r3⟩
      by_cases c : d = k ∧ m.1 = j
      · obtain ⟨rfl, e⟩ := c
        obtain ⟨p, s, z⟩ := m
        simp only at e r1 r2 r3
        subst e
        rw [hv] at r2
        cases r2
        have ne := (jo.lt T).2.2.2
        rw [← jo.other r1 ne]
        exact .inr rfl
      · exact .inl ⟨d, by omega, r1, r2, r3⟩
  · refine List.nodup_append.mpr ⟨h.nd, by simp, fun a ha b hb' => ?_⟩
    rintro rfl
    rw [List.mem_singleton] at hb'
    subst hb'
    obtain ⟨d, q, r, _⟩ := (h.mem _).mp ha
    have := T.one_door r jo
    simp only at q
    omega
theorem PM.skip {ds S k j l} (h : PM ds S k j l) (hv : ∀ x y, Joins ds k x y → S.1[j]? = some x → S.2[k]? = some j) : PM ds S k (j + 1) l := by
  refine ⟨fun m => ?_, h.nd, by have := h.len; omega⟩
  rw [h.mem m]
  constructor
  · rintro ⟨d, q, r⟩
    exact ⟨d, by omega, r⟩
  · rintro ⟨d, q, r1, r2, r3⟩
    by_cases c : d = k ∧ m.1 = j
    · obtain ⟨rfl, rfl⟩ := c
      exact absurd (hv _ _ r1 r2) r3
    · exact ⟨d, by omega, r1, r2, r3⟩
theorem PM.next {ds S k l} (h : PM ds S k S.1.length l) (few : S.1.length ≤ 4) : PM ds S (k + 1) 0 l := by
  refine ⟨fun m => ?_, h.nd, by have := h.len; omega⟩
  rw [h.mem m]
  constructor
  · rintro ⟨d, q, r⟩
    exact ⟨d, .inl (by omega), r⟩
  · rintro ⟨d, q, r1, r2, r3⟩
    have := get_lt r2
    exact ⟨d, by omega, r1, r2, r3⟩
theorem PM.done {ds S l} (h : PM ds S ds.length 0 l) (m : Mv) : m ∈ l ↔ Can ds S m := by
  rw [h.mem m]
  constructor
  · rintro ⟨d, q, r1, r2, r3⟩
    exact ⟨get_lt r2, r2, d, r1, r3⟩
  · rintro ⟨h1, h2, d, r1, r3⟩
    exact ⟨d, .inl (joins_lt r1), r1, h2, r3⟩
theorem Can.sm {n ds S m} (T : Tree n ds) (hn : n ≤ 15) (o : StOk n ds S) (h : Can ds S m) : Sm m := by
  obtain ⟨h1, h2, d, j, h3⟩ := h
  obtain ⟨a, b, _⟩ := j.lt T
  have := o.few
  exact ⟨by omega, by omega, by omega⟩
def spPoss (K : PySem.W.Frag) : Sp := fun vs H Q _ => ∃ (a s : Addr) (ds : List (Nat × Nat)) (n : Nat) (S : S2), vs = [.ref a, .ref s] ∧ HouseAt K H a ds ∧ Tree n ds ∧ n ≤ 15 ∧ StateAt K H s S ∧ StOk n ds S ∧
  ∀ (H' : Hp) (q : Addr) (l : List Mv), Same H H' → H q = none → TrisAt H' q l → Canon l (Can ds S) → Q (.ref q) H'
section
variable {P : Program} {w : World} {K : PySem.W.Frag}
      {mg : Str → Option Value} {base : Heap}
theorem ok_possible_moves (T : Bl mg) (D : Def K mg "possible_moves" s_possible_moves) (C_need_state : Cal P w K mg base "need_state" ["house", "state"] 7 (spSt K)) : Cal P w K mg base "possible_moves" ["house", "state"] 8 (spPoss K) := by
  refine D.ok sc_possible_moves (fun _ _ _ _ _ _ us hl => match us, hl with | [_, _], _ => rfl) (fun vs H Q E h => ?_) (fun f cdv A outer s H vs Q E hr h => ?_)
  · obtain ⟨a, s, ds, n, S, rfl, _⟩ := h
    rfl
  obtain ⟨a, s, ds, n, S, rfl, hH, tree, hn, st, ok, q⟩ := h
  obtain ⟨rs, hrs, hlen, hds⟩ := id hH
  obtain ⟨r, b, h1, h2, h3⟩ := id st
  have hdn := tree.len
  have few := ok.few
  obtain ⟨f_need_state, fd_need_state, g_need_state, k_need_state, b_need_state, G_need_state⟩ := C_need_state
  refine ⟨_, (pss_cons (ps_expr (pe_call G_need_state (hr.mono (by decide)) (by rfl) g_need_state k_need_state b_need_state .nil pass0 (pa_cons (pv 0) (pa_cons (pv 1) pa_nil))))
    (pss_cons (ps_asg (pv 1) (pg_tup (n := 2) rfl (pgs_cons (pg_name (i := 2) sc_possible_moves.nd rfl (.inl rfl)) (pgs_cons (pg_name (i := 3) sc_possible_moves.nd rfl (.inl rfl)) pgs_nil))))
    (pss_cons (ps_set (i := 4) sc_possible_moves.nd rfl (.inl rfl) (pe_lst pa_nil))
    (pss_cons (ps_for PassesOwn.never rfl (pi_enumT (by rfl) T.enumerate (pa_cons (pv 0) pa_nil)) (pg_tup (n := 2) rfl (pgs_cons (pg_name (i := 5) sc_possible_moves.nd rfl (.inl rfl)) (pgs_cons (pg_tup (n := 2) rfl (pgs_cons (pg_name (i := 6) sc_possible_moves.nd rfl (.inl rfl)) (pgs_cons (pg_name (i := 7) sc_possible_moves.nd rfl (.inl rfl)) pgs_nil))) pgs_nil)))
    (pss_one (ps_for PassesOwn.never rfl (pi_enumT (by rfl) T.enumerate (pa_cons (pv 2) pa_nil)) (pg_tup (n := 2) rfl (pgs_cons (pg_name (i := 8) sc_possible_moves.nd rfl (.inl rfl)) (pgs_cons (pg_name (i := 9) sc_possible_moves.nd rfl (.inl rfl)) pgs_nil)))
    (pss_cons (ps_if (PW.pt (pw_and (pt_cmpR op_eq (pv 9) (pv 6) (nomark _)) (pw_and1 (pt_cmpR op_ne (pe_ix ix_tup (pv 3) (pv 5) (fun _ _ => rfl)) (pv 8) (nomark _))))) (pss_one (ps_expr (pe_bm PySem.F.plainAttrs_list PySem.F.slot_list_append PySem.F.type_list_append mt_append (pv 4) (pa_cons (pe_tup (pa_cons (pv 8) (pa_cons (pv 6) (pa_cons (pv 7) pa_nil)))) pa_nil)))) pss_nil)
    (pss_one (ps_if (PW.pt (pw_and (pt_cmpR op_eq (pv 9) (pv 7) (nomark _)) (pw_and1 (pt_cmpR op_ne (pe_ix ix_tup (pv 3) (pv 5) (fun _ _ => rfl)) (pv 8) (nomark _))))) (pss_one (ps_expr (pe_bm PySem.F.plainAttrs_list PySem.F.slot_list_append PySem.F.type_list_append mt_append (pv 4) (pa_cons (pe_tup (pa_cons (pv 8) (pa_cons (pv 7) (pa_cons (pv 6) pa_nil)))) pa_nil)))) pss_nil))))))
    (pss_one (ps_ret (pe_callB (cr_sortT (d := 3) (B := 64) (by decide)) (by rfl) T.sorted (by decide +kernel) (pa_cons (pv 4) pa_nil)))))))), ?_⟩
  refine ⟨_, rfl, _, rfl, a, s, ds, n, S, rfl, hH, tree, by omega, st, ok, fun H1 s1 => ?_⟩
  refine ⟨_, rfl, _, _, rfl, s1.tup h1, rfl, _, _, rfl, _, _, rfl, rfl, ?_⟩
  refine ⟨Nat.zero_le _, fun p np => ?_⟩
  have sp1 : Same H (upd H1 p (.lst [])) := s1.trans (Same.upd np)
  have np0 := s1.free np
  refine ⟨_, rfl, a, _, rfl, sp1.tup hrs, ?_⟩
  refine for_it (walk_enumT (K := K) (a := a) (xs := rs.map V.ref)) (fun k σ H2 => ∃ l y5 y6 y7 y8 y9, σ = [some (.ref a), some (.ref s), some (.ref r), some (.ref b), some (.ref p), y5, y6, y7, y8, y9] ∧ Same H H2 ∧ TrisAt H2 p l ∧ PM ds S k 0 l)
    ⟨[], _, _, _, _, _, rfl, sp1, ⟨[], upd_same, TL.nil⟩, PM.nil⟩ (fun i σ H2 _ ⟨_, _, _, _, _, _, _, sm, _⟩ => sm.tup hrs) ?_ ?_
  · rintro k x σ H2 H3 hk ⟨l, y5, y6, y7, y8, y9, rfl, sm, tr, pm⟩ ⟨t, x1, x2, rfl, nt, rfl, ex1, ex2⟩
    cases ex1
    have hk' : k < ds.length := by
      rw [List.length_map, hlen] at hk
      exact hk
    obtain ⟨e, he⟩ : ∃ e, ds[k]? = some e := get_of rfl hk'
    obtain ⟨r0, hr0⟩ : ∃ r, rs[k]? = some r := get_of hlen hk'
    obtain ⟨bk, hbk⟩ : ∃ bk, S.2[k]? = some bk := get_of ok.doors hk'
    have ex2' : V.ref r0 = x2 := by
      have ex2 : (rs.map V.ref)[k]? = some x2 := ex2
      rw [List.getElem?_map, hr0] at ex2
      exact Option.some.inj ex2
    subst ex2'
    obtain ⟨side, sd1, sd2⟩ := tree.side
    have ene : e.1 ≠ e.2 := fun z => sd1 k e he (by rw [z])
    have sm2 : Same H2 (upd H2 t (.tup [.int (k : Nat), .ref r0])) := Same.upd nt
    have hrd := sm2.tup (sm.tup (hds k r0 e hr0 he))
    have tr2 := tr.same sm2
    have sm3 := sm.trans sm2
    refine ⟨t, _, rfl, SqT.of upd_same, rfl, _, _, rfl, _, _, rfl, ⟨r0, _, rfl, hrd, rfl, _, _, rfl, _, _, rfl, rfl, rfl, ?_⟩⟩
    generalize upd H2 t (.tup [.int (k : Nat), .ref r0]) = H4 at sm2 hrd tr2 sm3
    refine ⟨_, rfl, r, _, rfl, sm3.tup h2, ?_⟩
    refine for_it (walk_enumT (K := K) (a := r) (xs := nv S.1)) (fun j σ H5 => ∃ l y8 y9, σ = [some (.ref a), some (.ref s), some (.ref r), some (.ref b), some (.ref p), some (.int (k : Int)), some (.int (e.1 : Int)), some (.int (e.2 : Int)), y8, y9] ∧ Same H H5 ∧ TrisAt H5 p l ∧ PM ds S k j l)
      ⟨l, _, _, rfl, sm3, tr2, pm⟩ (fun i σ H2 _ ⟨_, _, _, _, sm, _⟩ => sm.tup h2) ?_ ?_
    · rintro j x σ H5 H6 hj ⟨l, y8, y9, rfl, sm, tr, pm⟩ ⟨t, x1, x2, rfl, nt, rfl, ex1, ex2⟩
      cases ex1
      obtain ⟨v, hv, rfl⟩ := nv_some ex2
      have jP := get_lt hv
      have smt : Same H5 (upd H5 t (.tup [.int (j : Nat), .int (v : Int)])) := Same.upd nt
      have sm6 := sm.trans smt
      have tr6 := tr.same smt
      refine ⟨t, _, rfl, SqT.of upd_same, rfl, _, _, rfl, _, _, rfl, rfl, ?_⟩
      generalize upd H5 t (.tup [.int (j : Nat), .int (v : Int)]) = H7 at smt sm6 tr6
      obtain ⟨ts, g1, g2⟩ := tr6
      have ll := pm.len
      have add : ∀ (x y : Nat) (t2 : Addr), v = x → Joins ds k x y → bk ≠ j → H7 t2 = none → (ts.map V.ref).length < sizeLine ∧ TrisAt (upd (upd H7 t2 (.tup [.int (j : Int), .int (x : Int), .int (y : Int)])) p (.lst (ts.map V.ref ++ [.ref t2]))) p (l ++ [(j, x, y)]) ∧
          Same H (upd (upd H7 t2 (.tup [.int (j : Int), .int (x : Int), .int (y : Int)])) p (.lst (ts.map V.ref ++ [.ref t2]))) ∧ PM ds S k (j + 1) (l ++ [(j, x, y)]) := by
        rintro x y t2 rfl jo nb nt2
        have ntp : t2 ≠ p := (ne_of_none g1 nt2).symm
        refine ⟨by rw [List.length_map, g2.1]; exact small1000 (by omega), ⟨ts ++ [t2], by rw [upd_same, List.map_append]; rfl, ?_⟩, (sm6.trans (Same.upd nt2)).at np0, pm.add tree jo hv (by rw [hbk]; intro z; exact nb (Option.some.inj z))⟩
        refine TL.append ?_ (TL.one (by rw [upd_ne ntp, upd_same]; rfl))
        refine ⟨g2.1, fun i t' m' e1 e2 => ?_⟩
        have z := g2.2 i t' m' e1 e2
        rw [upd_ne (ne_lt g1 z), upd_ne (ne_of_none z nt2)]
        exact z
      have g1' : ∀ t2, H7 t2 = none → ∀ o, (upd H7 t2 o) p = some (.lst (ts.map V.ref)) := fun t2 nt2 o => by
        rw [upd_ne (ne_of_none g1 nt2)]
        exact g1
      have atk : atI (nv S.2) (k : Int) = some (.int (bk : Int)) := nv_at hbk
      by_cases c1 : v = e.1
      · have c2 : v ≠ e.2 := fun z => ene (c1.symm.trans z)
        refine ⟨_, rfl, _, rfl, rfl, _, rfl, ?_⟩
        rw [decide_eq_true (show V.int (v : Int) = V.int (e.1 : Int) by rw [c1])]
        refine iteT ⟨_, rfl, _, rfl, b, _, _, _, rfl, rfl, sm6.tup h3, atk, _, rfl, rfl, _, rfl, ?_⟩
        by_cases cb : bk = j
        · rw [decide_eq_true (show V.int (bk : Int) = V.int (j : Int) by rw [cb])]
          refine iteF ?_
          refine ⟨_, rfl, _, rfl, rfl, _, rfl, ?_⟩
          rw [decide_eq_false (show ¬ V.int (v : Int) = V.int (e.2 : Int) from fun z => c2 (by have := V.int.inj z; omega))]
          exact iteF (iteF ⟨l, _, _, rfl, sm6, ⟨ts, g1, g2⟩, pm.skip fun _ _ _ _ => by rw [hbk, cb]⟩)
        · rw [decide_eq_false (show ¬ V.int (bk : Int) = V.int (j : Int) from fun z => cb (by have := V.int.inj z; omega))]
          refine iteT ?_
          refine ⟨_, rfl, .inl ⟨rfl, _, SqL.of g1⟩, _, rfl, _, rfl, _, rfl, by show 3 ≤ sizeLine; decide, fun t2 nt2 => ?_⟩
          obtain ⟨a1, a2, a3, a4⟩ := add e.1 e.2 t2 c1 (.inl he) cb nt2
          refine ⟨p, _, _, rfl, rfl, g1' t2 nt2 _, a1, ?_⟩
          refine ⟨_, rfl, _, rfl, rfl, _, rfl, ?_⟩
          rw [decide_eq_false (show ¬ V.int (v : Int) = V.int (e.2 : Int) from fun z => c2 (by have := V.int.inj z; omega))]
          exact iteF (iteF ⟨_, _, _, rfl, a3, a2, a4⟩)
      · refine ⟨_, rfl, _, rfl, rfl, _, rfl, ?_⟩
        rw [decide_eq_false (show ¬ V.int (v : Int) = V.int (e.1 : Int) from fun z => c1 (by have := V.int.inj z; omega))]
        refine iteF (iteF ?_)
        refine ⟨_, rfl, _, rfl, rfl, _, rfl, ?_⟩
        by_cases c2 : v = e.2
        · rw [decide_eq_true (show V.int (v : Int) = V.int (e.2 : Int) by rw [c2])]
          refine iteT ⟨_, rfl, _, rfl, b, _, _, _, rfl, rfl, sm6.tup h3, atk, _, rfl, rfl, _, rfl, ?_⟩
          by_cases cb : bk = j
          · rw [decide_eq_true (show V.int (bk : Int) = V.int (j : Int) by rw [cb])]
            exact iteF ⟨l, _, _, rfl, sm6, ⟨ts, g1, g2⟩, pm.skip fun _ _ _ _ => by rw [hbk, cb]⟩
          · rw [decide_eq_false (show ¬ V.int (bk : Int) = V.int (j : Int) from fun z => cb (by have := V.int.inj z; omega))]
            refine iteT ?_
            refine ⟨_, rfl, .inl ⟨rfl, _, SqL.of g1⟩, _, rfl, _, rfl, _, rfl, by show 3 ≤ sizeLine; decide, fun t2 nt2 => ?_⟩
            obtain ⟨a1, a2, a3, a4⟩ := add e.2 e.1 t2 c2 (.inr he) cb nt2
            exact ⟨p, _, _, rfl, rfl, g1' t2 nt2 _, a1, _, _, _, rfl, a3, a2, a4⟩
        · rw [decide_eq_false (show ¬ V.int (v : Int) = V.int (e.2 : Int) from fun z => c2 (by have := V.int.inj z; omega))]
          refine iteF (iteF ⟨l, _, _, rfl, sm6, ⟨ts, g1, g2⟩, pm.skip fun x y jo hx => ?_⟩)
          rw [hv] at hx
          cases hx
          rcases jo with jo | jo <;> rw [he] at jo <;> cases jo
          · exact absurd rfl c1
          · exact absurd rfl c2
    · rintro σ H5 ⟨l, y8, y9, rfl, sm, tr, pm⟩
      rw [nv_len] at pm
      exact ⟨l, _, _, _, _, _, rfl, sm, tr, pm.next few⟩
  · rintro σ H2 ⟨l, y5, y6, y7, y8, y9, rfl, sm, ⟨ts, g1, g2⟩, pm⟩
    rw [List.length_map, hlen] at pm
    have ll := pm.len
    have sms : ∀ m ∈ l, Sm m := fun m hm => ((pm.done m).mp hm).sm tree hn ok
    refine ⟨_, rfl, p, _, rfl, SqL.of g1, by rw [List.length_map, g2.1]; omega, fun v hv => ?_, fun ys q0 pr asc nq => ?_⟩
    · obtain ⟨t, ht, rfl⟩ := List.mem_map.mp hv
      obtain ⟨i, hi⟩ := List.mem_iff_getElem?.mp ht
      obtain ⟨m, hm⟩ : ∃ m, l[i]? = some m := get_of g2.1.symm (get_lt hi)
      exact tup_of (g2.2 i t m hi hm) (sms m (List.mem_of_getElem? hm))
    · obtain ⟨ts', l', rfl, cn, tl'⟩ := sorted_canon g2 pm.done sms pm.nd pr asc
      exact q _ q0 l' (sm.trans (Same.upd nq)) (sm.free nq) ⟨ts', upd_same, tl'.same (Same.upd nq)⟩ cn
end
end K5

namespace K5
open PySem PySem.Spec PyProof.Rows L2
theorem PairsAt.but {g q : Addr} {H H' : Hp} {l} (h : PairsAt H q l) (hg : ∃ xs, H g = some (.lst xs)) (ne : q ≠ g) (s : But g H H') : PairsAt H' q l := by
  obtain ⟨xs, hx⟩ := hg
  exact h.aside hx ne s
/-- a rearranged list of the same pairs -/
theorem PairsAt.perm {H : Hp} {l : List (Nat × Nat)} {ts : List Addr} {ys : List V} (h2 : ts.length = l.length) (h3 : ∀ (i : Nat) (t : Addr) (e : Nat × Nat), ts[i]? = some t → l[i]? = some e → H t = some (.tup [.int e.1, .int e.2]))
    (p : ys.Perm (ts.map V.ref)) : ∃ (ts' : List Addr) (l' : List (Nat × Nat)), ys = ts'.map V.ref ∧ l'.Perm l ∧ ts'.length = l'.length ∧ ∀ (i : Nat) (t : Addr) (e : Nat × Nat), ts'[i]? = some t → l'[i]? = some e → H t = some (.tup [.int e.1, .int e.2]) := by
  have e1 : ts.map V.ref = (ts.zip l).map (fun z => V.ref z.1) := by
    have e : (ts.zip l).map (fun z => V.ref z.1) = ((ts.zip l).map Prod.fst).map V.ref := by rw [List.map_map]; rfl
    rw [e, List.map_fst_zip (by omega)]
  rw [e1] at p
  obtain ⟨zs, ez, pz⟩ := perm_of_map _ _ _ p
  refine ⟨zs.map Prod.fst, zs.map Prod.snd, by rw [ez, List.map_map]; rfl, ?_, by simp, fun i t e a b => ?_⟩
  · have q := pz.map Prod.snd
    rw [List.map_snd_zip (by omega)] at q
    exact q
  · rw [List.getElem?_map] at a b
    cases hz : zs[i]? with
    | none => rw [hz] at a; cases a
    | some z =>
      rw [hz] at a b
      cases a
      cases b
      have hm := pz.mem_iff.mp (List.mem_of_getElem? hz)
      obtain ⟨j, hj⟩ := List.mem_iff_getElem?.mp hm
      rw [List.getElem?_zip_eq_some] at hj
      exact h3 j _ _ hj.1 hj.2
def spHouse (K : PySem.W.Frag) : Sp := fun vs H Q _ => ∃ (g : Addr) (b most : Nat), vs = [.ref g, .int (most : Int)] ∧ GenAt H g b ∧ 0 < most ∧ most ≤ 100 ∧ b < 2 ^ 50 ∧
  ∀ (H' : Hp) (a : Addr) (ds : List (Nat × Nat)) (n : Nat), But g H H' → GenAt H' g (b + 1000) → a ≠ g → HouseAt K H' a ds → Tree n ds → n ≤ most → Q (.ref a) H'
section
variable {P : Program} {w : World} {K : PySem.W.Frag}
      {mg : Str → Option Value} {base : Heap}
theorem ok_random_house (T : Bl mg) (D : Def K mg "_law_random_house" s_l_random_house) (C_l_random : Cal P w K mg base "_law_random" ["_law_generator_here", "_law_bound"] 2 spRand)
    (C_l_shuffled : Cal P w K mg base "_law_shuffled" ["_law_generator_here", "_law_items"] 3 (spShuf K)) : Cal P w K mg base "_law_random_house" ["_law_generator_here", "_law_most"] 4 (spHouse K) := by
  refine D.ok sc_l_random_house (fun _ _ _ _ _ _ us hl => match us, hl with | [_, _], _ => rfl) (fun vs H Q E h => ?_) (fun f cdv A outer s H vs Q E hr h => ?_)
  · obtain ⟨g, b, most, rfl, _⟩ := h
    rfl
  obtain ⟨g, b, most, rfl, hg, hm0, hm1, hb, q⟩ := h
  obtain ⟨f_l_random, fd_l_random, g_l_random, k_l_random, b_l_random, G_l_random⟩ := C_l_random
  obtain ⟨f_l_shuffled, fd_l_shuffled, g_l_shuffled, k_l_shuffled, b_l_shuffled, G_l_shuffled⟩ := C_l_shuffled
  refine ⟨_, (pss_cons (ps_set (i := 2) sc_l_random_house.nd rfl (.inl rfl) (pe_op op_add pe_int (pe_call G_l_random (hr.mono (by decide)) (by rfl) g_l_random k_l_random b_l_random .nil pass0 (pa_cons (pv 0) (pa_cons (pv 1) pa_nil)))))
    (pss_cons (ps_set (i := 3) sc_l_random_house.nd rfl (.inl rfl) (pe_call G_l_random (hr.mono (by decide)) (by rfl) g_l_random k_l_random b_l_random .nil pass0 (pa_cons (pv 0) (pa_cons pe_int pa_nil))))
    (pss_cons (ps_set (i := 4) sc_l_random_house.nd rfl (.inl rfl) (pe_lst pa_nil))
    (pss_cons (ps_for PassesOwn.never rfl (pi_range2 rfl T.range (pa_cons pe_int (pa_cons (pv 2) pa_nil))) (pg_name (i := 5) sc_l_random_house.nd rfl (.inl rfl))
    (pss_cons (ps_set (i := 6) sc_l_random_house.nd rfl (.inl rfl) (pe_ix ix_list (pe_lst (pa_cons (pe_op op_sub (pv 5) pe_int) (pa_cons pe_int (pa_cons (pe_call G_l_random (hr.mono (by decide)) (by rfl) g_l_random k_l_random b_l_random .nil pass0 (pa_cons (pv 0) (pa_cons (pv 5) pa_nil))) (pa_cons (pe_callB (call_max2 rfl) (by rfl) T.max (by decide +kernel) (pa_cons pe_int (pa_cons (pe_op op_sub (pe_op op_sub (pv 5) pe_int) (pe_call G_l_random (hr.mono (by decide)) (by rfl) g_l_random k_l_random b_l_random .nil pass0 (pa_cons (pv 0) (pa_cons pe_int pa_nil)))) pa_nil))) pa_nil))))) (pv 3) (fun _ _ => rfl)))
    (pss_one (ps_expr (pe_bm PySem.F.plainAttrs_list PySem.F.slot_list_append PySem.F.type_list_append mt_append (pv 4) (pa_cons (pe_tup (pa_cons (pv 6) (pa_cons (pv 5) pa_nil))) pa_nil))))))
    (pss_cons (ps_set (i := 7) sc_l_random_house.nd rfl (.inl rfl) (pe_call G_l_shuffled (hr.mono (by decide)) (by rfl) g_l_shuffled k_l_shuffled b_l_shuffled .nil pass0 (pa_cons (pv 0) (pa_cons (pe_listRg rfl (by rfl) T.list (prg_1 (by rfl) T.range (pv 2))) pa_nil))))
    (pss_cons (ps_set (i := 8) sc_l_random_house.nd rfl (.inl rfl) (pe_lst pa_nil))
    (pss_cons (ps_for PassesOwn.never rfl (pi_list (pe_call G_l_shuffled (hr.mono (by decide)) (by rfl) g_l_shuffled k_l_shuffled b_l_shuffled .nil pass0 (pa_cons (pv 0) (pa_cons (pv 4) pa_nil)))) (pg_tup (n := 2) rfl (pgs_cons (pg_name (i := 9) sc_l_random_house.nd rfl (.inl rfl)) (pgs_cons (pg_name (i := 6) sc_l_random_house.nd rfl (.inl rfl)) pgs_nil)))
    (pss_cons (ps_set (i := 10) sc_l_random_house.nd rfl (.inl rfl) (pe_tup (pa_cons (pe_ix ix_list (pv 7) (pv 9) (fun _ _ => rfl)) (pa_cons (pe_ix ix_list (pv 7) (pv 6) (fun _ _ => rfl)) pa_nil))))
    (pss_one (ps_expr (pe_bm PySem.F.plainAttrs_list PySem.F.slot_list_append PySem.F.type_list_append mt_append (pv 8) (pa_cons (pe_stp (pv 10) (pe_op op_sub pe_int (pe_op op_mul pe_int (pe_call G_l_random (hr.mono (by decide)) (by rfl) g_l_random k_l_random b_l_random .nil pass0 (pa_cons (pv 0) (pa_cons pe_int pa_nil)))))) pa_nil))))))
    (pss_one (ps_ret (pe_callTy call_tuple_of (by rfl) T.tuple (by decide +kernel) (pa_cons (pv 8) pa_nil))))))))))), ?_⟩
  refine ⟨_, rfl, _, rfl, g, b, most, rfl, hg, hm0, by omega, by omega, fun H1 v bt1 g1 hv => ⟨_, _, rfl, rfl, ?_⟩⟩
  refine ⟨_, rfl, g, b + 1, 4, rfl, g1, by decide, by decide, by omega, fun H2 kind bt2 g2 hk => ?_⟩
  refine ⟨Nat.zero_le _, fun pd npd => ?_⟩
  have btd := (bt1.trans bt2).at ((bt1.trans bt2).free (g2.ne npd) npd) (.lst [])
  have hpdg := g2.ne npd
  have npd0 : H pd = none := (bt1.trans bt2).free hpdg npd
  have gd := g2.same (Same.upd (o := .lst []) npd)
  have hd0 : PairsAt (upd H2 pd (.lst [])) pd [] := ⟨[], upd_same, rfl, fun i t e h => by simp at h⟩
  generalize upd H2 pd (.lst []) = H3 at btd gd hd0
  refine ⟨_, rfl, _, _, rfl, ⟨by omega, by omega, by omega, by omega⟩, ?_⟩
  have ev : (1 + (v : Int) - 1).toNat = v := by omega
  refine for_it (walk_range (lo := 1) (n := (1 + (v : Int) - 1).toNat)) (fun i σ H4 => ∃ es y5 y6 y7 y8 y9 y10, σ = [some (.ref g), some (.int (most : Int)), some (.int (1 + (v : Int))), some (.int (kind : Int)), some (.ref pd), y5, y6, y7, y8, y9, y10] ∧
    But g H H4 ∧ GenAt H4 g (b + 2 + 2 * i) ∧ PairsAt H4 pd es ∧ Tr0 (1 + i) es) ⟨[], _, _, _, _, _, _, rfl, btd, gd, hd0, Tr0.one⟩ (fun _ _ _ _ _ => trivial) ?_ ?_
  · rintro i x σ H4 H5 hi ⟨es, y5, y6, y7, y8, y9, y10, rfl, bt, g4, hp, tr⟩ ⟨rfl, hx⟩
    rw [ev] at hi
    have hel := tr.len
    have er : (1 : Int) + (i : Int) = ((1 + i : Nat) : Int) := by omega
    have hx' : x = V.int ((1 + i : Nat) : Int) := hx.trans (congrArg V.int er)
    subst hx'
    refine ⟨_, rfl, _, _, rfl, rfl, _, rfl, _, rfl, g, b + 2 + 2 * i, 1 + i, rfl, g4, by omega, by omega, by omega, fun H6 u1 bt6 g6 hu1 => ?_⟩
    refine ⟨_, rfl, _, _, rfl, rfl, _, rfl, g, _, 3, rfl, g6, by decide, by decide, by omega, fun H7 u2 bt7 g7 hu2 => ⟨_, _, rfl, rfl, _, _, rfl, by show 4 ≤ sizeLine; decide, fun pl npl => ?_⟩⟩
    obtain ⟨o, ho, hlt⟩ : ∃ o : Nat, ([V.int (((1 + i : Nat) : Int) - 1), V.int 0, V.int (u1 : Int), V.int (if ((((1 + i : Nat) : Int) - 1) - (u2 : Int)) > 0 then ((((1 + i : Nat) : Int) - 1) - (u2 : Int)) else 0)] : List V)[kind]? = some (.int (o : Int)) ∧ o < 1 + i := by
      match kind, hk with
      | 0, _ => exact ⟨i, congrArg (fun z => some (V.int z)) (by omega), by omega⟩
      | 1, _ => exact ⟨0, rfl, by omega⟩
      | 2, _ => exact ⟨u1, rfl, hu1⟩
      | 3, _ =>
        by_cases c : ((((1 + i : Nat) : Int) - 1) - (u2 : Int)) > 0
        · exact ⟨((((1 + i : Nat) : Int) - 1) - (u2 : Int)).toNat, congrArg (fun z => some (V.int z)) (by rw [if_pos c]; omega), by omega⟩
        · exact ⟨0, congrArg (fun z => some (V.int z)) (by rw [if_neg c]; rfl), by omega⟩
    refine ⟨_, rfl, pl, _, _, _, rfl, rfl, SqL.of upd_same, atI_nat ho, ?_⟩
    have nplg : pl ≠ g := g7.ne npl
    have bt8 := ((bt.trans bt6).trans bt7).at (((bt.trans bt6).trans bt7).free nplg npl) (.lst [V.int (((1 + i : Nat) : Int) - 1), V.int 0, V.int (u1 : Int), V.int (if ((((1 + i : Nat) : Int) - 1) - (u2 : Int)) > 0 then ((((1 + i : Nat) : Int) - 1) - (u2 : Int)) else 0)])
    have g8 := g7.at (o := .lst [V.int (((1 + i : Nat) : Int) - 1), V.int 0, V.int (u1 : Int), V.int (if ((((1 + i : Nat) : Int) - 1) - (u2 : Int)) > 0 then ((((1 + i : Nat) : Int) - 1) - (u2 : Int)) else 0)]) nplg
    have hp8 := ((hp.but g4.lst hpdg bt6).but g6.lst hpdg bt7).same (Same.upd (o := .lst [V.int (((1 + i : Nat) : Int) - 1), V.int 0, V.int (u1 : Int), V.int (if ((((1 + i : Nat) : Int) - 1) - (u2 : Int)) > 0 then ((((1 + i : Nat) : Int) - 1) - (u2 : Int)) else 0)]) npl)
    generalize upd H7 pl (.lst [V.int (((1 + i : Nat) : Int) - 1), V.int 0, V.int (u1 : Int), V.int (if ((((1 + i : Nat) : Int) - 1) - (u2 : Int)) > 0 then ((((1 + i : Nat) : Int) - 1) - (u2 : Int)) else 0)]) = H8 at bt8 g8 hp8
    obtain ⟨ts, e1, e2, e3⟩ := hp8
    refine ⟨_, rfl, .inl ⟨rfl, _, SqL.of e1⟩, _, rfl, _, rfl, by show 2 ≤ sizeLine; decide, fun t nt => ⟨pd, _, _, rfl, rfl, by rw [upd_ne (ne_of_none e1 nt)]; exact e1, by rw [List.length_map, e2]; exact small1000 (by omega), ?_⟩⟩
    have ntd : t ≠ pd := (ne_of_none e1 nt).symm
    have ntg : t ≠ g := g8.ne nt
    refine ⟨es ++ [(o, 1 + i)], _, _, _, _, _, _, rfl, (bt8.at (bt8.free ntg nt) _).at npd0 _, ((g8.at ntg).at hpdg).mono (by omega), .push (ts := ts) e1 e2 e3 (fun b o ne e => by rw [upd_ne ne, upd_ne (ne_of_none e nt)]; exact e) upd_same (by rw [upd_ne ntd, upd_same]), ?_⟩
    have := tr.grow o hlt
    rw [show 1 + (i + 1) = 1 + i + 1 by omega]
    exact this
  · rintro σ H4 ⟨es, y5, y6, y7, y8, y9, y10, rfl, bt, g4, hp, tr⟩
    rw [ev] at g4 tr
    have hel := tr.len
    obtain ⟨ts, e1, e2, e3⟩ := hp
    have en : rgV 0 (1 + (v : Int)) = nv (List.range (1 + v)) := by
      rw [← rgV_nat, show (((1 + v : Nat)) : Int) = 1 + (v : Int) by omega]
    refine ⟨_, rfl, _, rfl, _, rfl, .of_le (Int.le_refl _) (by omega) (by omega) (by omega), fun pn npn => ?_⟩
    rw [en]
    have npng : pn ≠ g := g4.ne npn
    have bt5 := bt.at (bt.free npng npn) (.lst (nv (List.range (1 + v))))
    have g5 := g4.same (Same.upd (o := .lst (nv (List.range (1 + v)))) npn)
    have hn5 : (upd H4 pn (.lst (nv (List.range (1 + v))))) pn = some (.lst (nv (List.range (1 + v)))) := upd_same
    have s5 := Same.upd (o := .lst (nv (List.range (1 + v)))) npn
    have e1' := s5 _ _ e1
    have e3' := fun i t e a b => s5 _ _ (e3 i t e a b)
    generalize upd H4 pn (.lst (nv (List.range (1 + v)))) = H5 at bt5 g5 hn5 s5 e1' e3'
    refine ⟨g, pn, _, nv (List.range (1 + v)), rfl, g5, SqL.of hn5, npng, by rw [nv_len, List.length_range]; omega, by omega, fun H6 qn ys bt6 g6 nqn hqn pm => ?_⟩
    rw [nv_len, List.length_range] at g6
    obtain ⟨L, rfl, pL⟩ := perm_of_map _ _ _ pm
    have e1'' := bt6 _ _ hpdg e1'
    have e3'' := fun i t e a b => bt6 _ _ (ne_lt (g5.lst.choose_spec) (e3' i t e a b)) (e3' i t e a b)
    have hnd := pL.symm.nodup List.nodup_range
    have hLl : L.length = 1 + v := by rw [pL.length_eq, List.length_range]
    refine ⟨Nat.zero_le _, fun pr npr => ?_⟩
    have nprg : pr ≠ g := g6.ne npr
    have nprn : qn ≠ pr := ne_of_none hqn npr
    have bt7 := (bt5.trans bt6).at ((bt5.trans bt6).free nprg npr) (.lst [])
    have s7 := Same.upd (o := .lst []) npr
    have g7 := g6.same s7
    have hqn7 := s7 _ _ hqn
    have e17 := s7 _ _ e1''
    have e37 := fun i t e a b => s7 _ _ (e3'' i t e a b)
    have hpr7 : (upd H6 pr (.lst [])) pr = some (.lst []) := upd_same
    have npr0 : H pr = none := (bt5.trans bt6).free nprg npr
    generalize upd H6 pr (.lst []) = H7 at bt7 g7 hqn7 e17 e37 hpr7 s7
    refine ⟨_, rfl, _, rfl, g, pd, _, _, rfl, g7, SqL.of e17, hpdg, by rw [List.length_map, e2]; omega, by omega, fun H8 qs ys2 bt8 g8 nqs hqs pm2 => ?_⟩
    rw [List.length_map, e2] at g8
    have nqsg : qs ≠ g := g7.ne nqs
    have nqsr : qs ≠ pr := (ne_of_none hpr7 nqs).symm
    have nqng : qn ≠ g := fun z => by
      subst z
      obtain ⟨xx, yy, zz, ga, _⟩ := g5
      rw [ga] at nqn
      cases nqn
    have e38 := fun i t e a b => bt8 _ _ (ne_lt (g7.lst.choose_spec) (e37 i t e a b)) (e37 i t e a b)
    obtain ⟨ts', es', rfl, pe, hl', pr'⟩ := PairsAt.perm e2 e38 pm2
    have tr' := tr.perm pe
    have hel' := tr'.len
    refine ⟨qs, rfl, ⟨_, SqL.of hqs⟩, ?_⟩
    refine for_it (walk_list (K := K) (a := qs) (xs := ts'.map V.ref)) (fun j σ H9 => ∃ fs y5 y6 y9 y10, σ = [some (.ref g), some (.int (most : Int)), some (.int (1 + (v : Int))), some (.int (kind : Int)), some (.ref pd), y5, y6, some (.ref qn), some (.ref pr), y9, y10] ∧
      But g H H9 ∧ GenAt H9 g (b + 800 + j) ∧ H9 qn = some (.lst (L.map fun (x : Nat) => V.int (x : Int))) ∧ H9 qs = some (.lst (ts'.map V.ref)) ∧ (∀ (i : Nat) (t : Addr) (e : Nat × Nat), ts'[i]? = some t → es'[i]? = some e → H9 t = some (.tup [.int e.1, .int e.2])) ∧
      PairsAt H9 pr fs ∧ Flip ((es'.take j).map fun e => (L.getD e.1 0, L.getD e.2 0)) fs)
      ⟨[], _, _, _, _, rfl, bt7.trans bt8, g8.mono (by omega), bt8 _ _ nqng hqn7, hqs, pr', ⟨[], bt8 _ _ nprg hpr7, rfl, fun i t e h => by simp at h⟩, .nil⟩ (fun i σ H9 _ ⟨_, _, _, _, _, _, _, _, _, h, _⟩ => SqL.of h) ?_ ?_
    · rintro j x σ H9 H10 hj ⟨fs, y5, y6, y9, y10, rfl, bt9, g9, hn9, hs9, p9, hp9, fl⟩ ⟨rfl, ex⟩
      have hj' : j < ts'.length := by
        rw [List.length_map] at hj
        exact hj
      obtain ⟨t, ht⟩ : ∃ t, ts'[j]? = some t := get_of rfl hj'
      obtain ⟨e, he⟩ : ∃ e, es'[j]? = some e := get_of hl'.symm hj'
      rw [List.getElem?_map, ht] at ex
      cases ex
      have htup := p9 j t e ht he
      have elt := tr'.lt e (List.mem_of_getElem? he)
      have a1 : L[e.1]? = some (L.getD e.1 0) := by
        rw [List.getD_eq_getElem?_getD, List.getElem?_eq_getElem (by omega)]
        rfl
      have a2 : L[e.2]? = some (L.getD e.2 0) := by
        rw [List.getD_eq_getElem?_getD, List.getElem?_eq_getElem (by omega)]
        rfl
      obtain ⟨ts3, f1, f2, f3⟩ := hp9
      have flen : fs.length = j := by
        rw [← fl.len, List.length_map, List.length_take]
        have := tr'.len
        have := (List.getElem?_eq_some_iff.mp he).1
        omega
      have etake : (es'.take (j + 1)).map (fun e => (L.getD e.1 0, L.getD e.2 0)) = (es'.take j).map (fun e => (L.getD e.1 0, L.getD e.2 0)) ++ [(L.getD e.1 0, L.getD e.2 0)] := by
        rw [List.take_add_one, he, List.map_append]
        rfl
      have fin : ∀ (Hc : Hp) (tt : Addr) (d1 d2 : Nat), But g H Hc → GenAt Hc g (b + 800 + j + 1) → Hc qn = some (.lst (L.map fun (x : Nat) => V.int (x : Int))) → Hc qs = some (.lst (ts'.map V.ref)) →
          (∀ (i : Nat) (t : Addr) (e : Nat × Nat), ts'[i]? = some t → es'[i]? = some e → Hc t = some (.tup [.int e.1, .int e.2])) → Hc pr = some (.lst (ts3.map V.ref)) →
          (∀ (i : Nat) (t : Addr) (e : Nat × Nat), ts3[i]? = some t → fs[i]? = some e → Hc t = some (.tup [.int e.1, .int e.2])) → Hc tt = some (.tup [.int (d1 : Int), .int (d2 : Int)]) →
          Flip ((es'.take (j + 1)).map fun e => (L.getD e.1 0, L.getD e.2 0)) (fs ++ [(d1, d2)]) →
          ∀ y5 y6 y9 y10, ∃ fs' z5 z6 z9 z10, ([some (.ref g), some (.int (most : Int)), some (.int (1 + (v : Int))), some (.int (kind : Int)), some (.ref pd), y5, y6, some (.ref qn), some (.ref pr), y9, y10] : L2.St) = [some (.ref g), some (.int (most : Int)), some (.int (1 + (v : Int))), some (.int (kind : Int)), some (.ref pd), z5, z6, some (.ref qn), some (.ref pr), z9, z10] ∧
          But g H (upd Hc pr (.lst (ts3.map V.ref ++ [V.ref tt]))) ∧ GenAt (upd Hc pr (.lst (ts3.map V.ref ++ [V.ref tt]))) g (b + 800 + (j + 1)) ∧ (upd Hc pr (.lst (ts3.map V.ref ++ [V.ref tt]))) qn = some (.lst (L.map fun (x : Nat) => V.int (x : Int))) ∧ (upd Hc pr (.lst (ts3.map V.ref ++ [V.ref tt]))) qs = some (.lst (ts'.map V.ref)) ∧
          (∀ (i : Nat) (t : Addr) (e : Nat × Nat), ts'[i]? = some t → es'[i]? = some e → (upd Hc pr (.lst (ts3.map V.ref ++ [V.ref tt]))) t = some (.tup [.int e.1, .int e.2])) ∧
          PairsAt (upd Hc pr (.lst (ts3.map V.ref ++ [V.ref tt]))) pr fs' ∧ Flip ((es'.take (j + 1)).map fun e => (L.getD e.1 0, L.getD e.2 0)) fs' := by
        intro Hc tt d1 d2 k1 k2 k3 k4 k5 k6 k7 k8 k9 y5 y6 y9 y10
        refine ⟨fs ++ [(d1, d2)], _, _, _, _, rfl, k1.at npr0 _, k2.at nprg, by rw [upd_ne nprn]; exact k3, by rw [upd_ne nqsr]; exact k4, fun i t e x y => ?_, .push (ts := ts3) k6 f2 k7 (fun b o ne e => by rw [upd_ne ne]; exact e) upd_same (by rw [upd_ne (ne_lt k6 k8)]; exact k8), k9⟩
        have := k5 i t e x y
        rw [upd_ne (ne_lt k6 this)]
        exact this
      refine ⟨t, _, rfl, SqT.of htup, rfl, _, _, rfl, _, _, rfl, rfl, ?_⟩
      refine ⟨_, rfl, _, rfl, qn, _, _, _, rfl, rfl, SqL.of hn9, atI_nat (v := V.int (L.getD e.1 0 : Nat)) (by rw [List.getElem?_map, a1]; rfl), _, rfl, _, rfl, qn, _, _, _, rfl, rfl, SqL.of hn9, atI_nat (v := V.int (L.getD e.2 0 : Nat)) (by rw [List.getElem?_map, a2]; rfl), by show 2 ≤ sizeLine; decide, fun te nte => ?_⟩
      have nteg : te ≠ g := g9.ne nte
      have sA := Same.upd (o := .tup [.int (L.getD e.1 0 : Nat), .int (L.getD e.2 0 : Nat)]) nte
      have btA := bt9.at (bt9.free nteg nte) (.tup [.int (L.getD e.1 0 : Nat), .int (L.getD e.2 0 : Nat)])
      have gA := g9.same sA
      have hteA : (upd H10 te (.tup [.int (L.getD e.1 0 : Nat), .int (L.getD e.2 0 : Nat)])) te = some (.tup [.int (L.getD e.1 0 : Nat), .int (L.getD e.2 0 : Nat)]) := upd_same
      have hnA := sA _ _ hn9
      have hsA := sA _ _ hs9
      have pA := fun i t e x y => sA _ _ (p9 i t e x y)
      have fA := sA _ _ f1
      have f3A := fun i t e x y => sA _ _ (f3 i t e x y)
      generalize upd H10 te (.tup [.int (L.getD e.1 0 : Nat), .int (L.getD e.2 0 : Nat)]) = HA at sA btA gA hteA hnA hsA pA fA f3A
      refine ⟨_, rfl, .inl ⟨rfl, _, SqL.of fA⟩, _, rfl, _, rfl, g, b + 800 + j, 2, rfl, gA, by decide, by decide, by omega, fun HB u btB gB hu => ?_⟩
      have gAl := gA.lst.choose_spec
      have hteB := btB _ _ nteg hteA
      have hnB := btB _ _ nqng hnA
      have hsB := btB _ _ nqsg hsA
      have pB := fun i t e x y => btB _ _ (ne_lt gAl (pA i t e x y)) (pA i t e x y)
      have fB := btB _ _ nprg fA
      have f3B := fun i t e x y => btB _ _ (ne_lt gAl (f3A i t e x y)) (f3A i t e x y)
      have btHB := btA.trans btB
      refine ⟨_, _, rfl, rfl, .inl (by decide), _, _, rfl, rfl, te, _, _, rfl, SqT.of hteB, ?_⟩
      match u, hu with
      | 0, _ =>
        refine .inl ⟨rfl, pr, _, _, rfl, rfl, fB, by rw [List.length_map, f2]; exact small1000 (by have := tr'.len; have := (List.getElem?_eq_some_iff.mp he).1; omega), ?_⟩
        exact fin HB te _ _ btHB gB hnB hsB pB fB f3B hteB (by rw [etake]; exact fl.snoc _) _ _ _ _
      | 1, _ =>
        refine .inr ⟨rfl, fun tt ntt => ⟨pr, _, _, rfl, rfl, by rw [upd_ne (ne_of_none fB ntt)]; exact fB, by rw [List.length_map, f2]; exact small1000 (by have := tr'.len; have := (List.getElem?_eq_some_iff.mp he).1; omega), ?_⟩⟩
        have nttg : tt ≠ g := gB.ne ntt
        have sC := Same.upd (o := .tup [.int (L.getD e.2 0 : Nat), .int (L.getD e.1 0 : Nat)]) ntt
        exact fin _ tt _ _ (btHB.at (btHB.free nttg ntt) _) (gB.same sC) (sC _ _ hnB) (sC _ _ hsB) (fun i t e x y => sC _ _ (pB i t e x y)) (sC _ _ fB) (fun i t e x y => sC _ _ (f3B i t e x y)) upd_same (by rw [etake]; exact fl.snocT _ _) _ _ _ _
    · rintro σ H9 ⟨fs, y5, y6, y9, y10, rfl, bt9, g9, hn9, hs9, p9, hp9, fl⟩
      rw [List.length_map, hl', List.take_length] at fl
      obtain ⟨ts3, f1, f2, f3⟩ := hp9
      refine ⟨_, rfl, pr, _, rfl, .inl ⟨SqL.of f1, fun pt npt => ?_⟩⟩
      have nptg : pt ≠ g := g9.ne npt
      refine q _ pt fs (1 + v) (bt9.at (bt9.free nptg npt) _) ((g9.same (Same.upd npt)).mono ?_) nptg ⟨ts3, SqT.of upd_same, f2, fun d r e x y => SqT.of (Same.upd npt _ _ (f3 d r e x y))⟩ ((tr'.nv pL).tree fl) (by omega)
      rw [List.length_map, hl']
      omega
end
end K5

namespace K5
open PySem PySem.Spec PyProof.Rows L2
def spNeigh (K : PySem.W.Frag) : Sp := fun vs H Q _ => ∃ (a : Addr) (ds : List (Nat × Nat)) (n x : Nat), vs = [.ref a, .int (x : Int)] ∧ HouseAt K H a ds ∧ Tree n ds ∧ n ≤ 1000 ∧
  ∀ (H' : Hp) (q : Addr) (l : List (Nat × Nat)), Same H H' → H q = none → PairsAt H' q l → (∀ y d, (y, d) ∈ l ↔ Joins ds d x y) → l.Nodup → l.length ≤ ds.length → Q (.ref q) H'
theorem in_pair (x a b : Int) : inV (.int x) [.int a, .int b] = (decide (x = a) || decide (x = b)) := by
  show ((a == x) || ((b == x) || false)) = _
  by_cases h1 : x = a
  · subst h1
    simp
  · by_cases h2 : x = b
    · subst h2
      simp [h1]
    · have e1 : (a == x) = false := beq_eq_false_iff_ne.mpr (Ne.symm h1)
      have e2 : (b == x) = false := beq_eq_false_iff_ne.mpr (Ne.symm h2)
      rw [e1, e2, decide_eq_false h1, decide_eq_false h2]
      rfl
theorem nb_mem {ds : List (Nat × Nat)} {l : List (Nat × Nat)} {k x z : Nat} {e : Nat × Nat} (he : ds[k]? = some e) (mem : ∀ y d, (y, d) ∈ l ↔ d < k ∧ Joins ds d x y) (hz : (x = e.1 ∧ z = e.2) ∨ (x = e.2 ∧ z = e.1)) (ne : e.1 ≠ e.2) (y d : Nat) :
    (y, d) ∈ l ++ [(z, k)] ↔ d < k + 1 ∧ Joins ds d x y := by
  rw [List.mem_append, List.mem_singleton, Prod.mk.injEq, mem y d]
  have jk : Joins ds k x z := by
    rcases hz with ⟨rfl, rfl⟩ | ⟨rfl, rfl⟩
    · exact .inl he
    · exact .inr he
  have nxz : x ≠ z := by
    rcases hz with ⟨rfl, rfl⟩ | ⟨rfl, rfl⟩
    · exact ne
    · exact ne.symm
  constructor
  · rintro (⟨h1, h2⟩ | ⟨rfl, rfl⟩)
    · exact ⟨by omega, h2⟩
    · exact ⟨by omega, jk⟩
  · rintro ⟨h1, h2⟩
    by_cases q : d = k
    · subst q
      exact .inr ⟨(jk.other h2 nxz).symm, rfl⟩
    · exact .inl ⟨by omega, h2⟩
theorem nb_skip {ds : List (Nat × Nat)} {l : List (Nat × Nat)} {k x : Nat} {e : Nat × Nat} (he : ds[k]? = some e) (mem : ∀ y d, (y, d) ∈ l ↔ d < k ∧ Joins ds d x y) (h1 : x ≠ e.1) (h2 : x ≠ e.2) (y d : Nat) :
    (y, d) ∈ l ↔ d < k + 1 ∧ Joins ds d x y := by
  rw [mem y d]
  constructor
  · rintro ⟨a, b⟩
    exact ⟨by omega, b⟩
  · rintro ⟨a, b⟩
    refine ⟨?_, b⟩
    by_cases q : d = k
    · subst q
      rcases b with h | h <;> rw [he] at h <;> cases h
      · exact absurd rfl h1
      · exact absurd rfl h2
    · omega
section
variable {P : Program} {w : World} {K : PySem.W.Frag}
      {mg : Str → Option Value} {base : Heap}
theorem ok_neighbours (T : Bl mg) (D : Def K mg "_law_neighbours" s_l_neighbours) : Cal P w K mg base "_law_neighbours" ["_law_doors", "_law_place"] 1 (spNeigh K) := by
  refine D.ok sc_l_neighbours (fun _ _ _ _ _ _ us hl => match us, hl with | [_, _], _ => rfl) (fun vs H Q E h => ?_) (fun f cdv A outer s H vs Q E hr h => ?_)
  · obtain ⟨a, ds, n, x, rfl, _⟩ := h
    rfl
  obtain ⟨a, ds, n, x, rfl, hH, tree, hn, q⟩ := h
  obtain ⟨rs, hrs, hlen, hds⟩ := id hH
  have hdn := tree.len
  refine ⟨_, (pss_cons (ps_set (i := 2) sc_l_neighbours.nd rfl (.inl rfl) (pe_lst pa_nil))
    (pss_cons (ps_for PassesOwn.never rfl (pi_enumT (by rfl) T.enumerate (pa_cons (pv 0) pa_nil)) (pg_tup (n := 2) rfl (pgs_cons (pg_name (i := 3) sc_l_neighbours.nd rfl (.inl rfl)) (pgs_cons (pg_name (i := 4) sc_l_neighbours.nd rfl (.inl rfl)) pgs_nil)))
    (pss_one (ps_if (pt_cmpR op_in_seq (pv 1) (pv 4) (by rfl)) (pss_one (ps_expr (pe_bm PySem.F.plainAttrs_list PySem.F.slot_list_append PySem.F.type_list_append mt_append (pv 2) (pa_cons (pe_tup (pa_cons (pe_ix ix_tup (pv 4) (pe_callTy call_int1 (by rfl) T.int (by decide +kernel) (pa_cons (pe_cmpR op_eq (pe_ix ix_tup (pv 4) pe_int (fun _ _ => rfl)) (pv 1) (nomark _)) pa_nil)) (fun _ _ => rfl)) (pa_cons (pv 3) pa_nil))) pa_nil)))) pss_nil)))
    (pss_one (ps_ret (pe_callB cr_sortedP (by rfl) T.sorted (by decide +kernel) (pa_cons (pv 2) pa_nil)))))), ?_⟩
  refine ⟨Nat.zero_le _, fun p np => ?_⟩
  refine ⟨_, rfl, a, _, rfl, (Same.upd np).tup hrs, ?_⟩
  refine for_it (walk_enumT (K := K) (a := a) (xs := rs.map V.ref)) (fun k σ H2 => ∃ l y3 y4, σ = [some (.ref a), some (.int (x : Int)), some (.ref p), y3, y4] ∧ Same H H2 ∧ PairsAt H2 p l ∧ (∀ y d, (y, d) ∈ l ↔ d < k ∧ Joins ds d x y) ∧ l.length ≤ k ∧ l.Nodup)
    ⟨[], _, _, rfl, Same.upd np, ⟨[], upd_same, rfl, fun i t e h => by simp at h⟩, fun y d => by simp, Nat.zero_le _, List.nodup_nil⟩ (fun i σ H1 _ ⟨_, _, _, _, sm, _⟩ => sm.tup hrs) ?_ ?_
  · rintro k v σ H2 H3 hk ⟨l, y3, y4, rfl, sm, pa, mem, le, nod⟩ ⟨t, x1, x2, rfl, nt, rfl, ex1, ex2⟩
    cases ex1
    have hk' : k < ds.length := by
      rw [List.length_map, hlen] at hk
      exact hk
    obtain ⟨e, he⟩ : ∃ e, ds[k]? = some e := get_of rfl hk'
    obtain ⟨r, hr0⟩ : ∃ r, rs[k]? = some r := get_of hlen hk'
    have ex2' : V.ref r = x2 := by
      have ex2 : (rs.map V.ref)[k]? = some x2 := ex2
      rw [List.getElem?_map, hr0] at ex2
      exact Option.some.inj ex2
    subst ex2'
    obtain ⟨side, s1, s2⟩ := tree.side
    have ene : e.1 ≠ e.2 := fun z => s1 k e he (by rw [z])
    have smt : Same H2 (upd H2 t (.tup [.int (k : Nat), .ref r])) := Same.upd nt
    have sm3 := sm.trans smt
    have pa3 := pa.same smt
    have htt : (upd H2 t (.tup [.int (k : Nat), .ref r])) t = some (.tup [.int (k : Nat), .ref r]) := upd_same
    generalize upd H2 t (.tup [.int (k : Nat), .ref r]) = H4 at sm3 pa3 smt htt
    have hrd := sm3.tup (hds k r e hr0 he)
    refine ⟨t, _, rfl, SqT.of htt, rfl, _, _, rfl, _, _, rfl, rfl, ?_⟩
    refine ⟨_, rfl, _, rfl, r, _, rfl, .inr hrd, rfl, rfl, _, rfl, ?_⟩
    show if inV (V.int (x : Int)) [V.int (e.1 : Int), V.int (e.2 : Int)] = true then _ else _
    rw [in_pair]
    have fin : ∀ (z : Nat), ((x = e.1 ∧ z = e.2) ∨ (x = e.2 ∧ z = e.1)) → ∀ (y3 y4 : Option V) (t2 : Addr), H4 t2 = none → ∃ ts : List Addr, H4 p = some (.lst (ts.map V.ref)) ∧ (ts.map V.ref).length < sizeLine ∧
        ∃ l' z3 z4, ([some (.ref a), some (.int (x : Int)), some (.ref p), y3, y4] : L2.St) = [some (.ref a), some (.int (x : Int)), some (.ref p), z3, z4] ∧ Same H (upd (upd H4 t2 (.tup [.int (z : Int), .int (k : Int)])) p (.lst (ts.map V.ref ++ [V.ref t2]))) ∧
          PairsAt (upd (upd H4 t2 (.tup [.int (z : Int), .int (k : Int)])) p (.lst (ts.map V.ref ++ [V.ref t2]))) p l' ∧ (∀ y d, (y, d) ∈ l' ↔ d < k + 1 ∧ Joins ds d x y) ∧ l'.length ≤ k + 1 ∧ l'.Nodup := by
      intro z hz y3 y4 t2 nt2
      obtain ⟨ts, f1, f2, f3⟩ := pa3
      refine ⟨ts, f1, by rw [List.length_map, f2]; exact small1000 (by omega), l ++ [(z, k)], _, _, rfl, (sm3.trans (Same.upd nt2)).at np, .push (ts := ts) f1 f2 f3 (fun b o ne e => by rw [upd_ne ne, upd_ne (ne_of_none e nt2)]; exact e) upd_same (by rw [upd_ne (ne_of_none f1 nt2).symm, upd_same]), nb_mem he mem hz ene, by simp; exact le, ?_⟩
      refine List.nodup_append.mpr ⟨nod, by simp, fun a ha b hb => ?_⟩
      rintro rfl
      rw [List.mem_singleton] at hb
      subst hb
      have := (mem z k).mp ha
      omega
    by_cases h1 : x = e.1
    · rw [decide_eq_true (show (x : Int) = (e.1 : Int) by omega), Bool.true_or]
      refine iteT ?_
      obtain ⟨ts0, f10, _⟩ := pa3
      refine ⟨_, rfl, .inl ⟨rfl, _, SqL.of f10⟩, _, rfl, _, rfl, r, _, _, _, rfl, rfl, hrd, atI_nat (j := 0) rfl, _, rfl, rfl, .inr ⟨_, rfl, ?_⟩⟩
      rw [decide_eq_true (show V.int (e.1 : Int) = V.int (x : Int) by rw [h1])]
      refine ⟨r, _, _, _, rfl, rfl, hrd, atI_nat (j := 1) rfl, _, rfl, by show 2 ≤ sizeLine; decide, fun t2 nt2 => ?_⟩
      obtain ⟨ts, g1, g2, g3⟩ := fin e.2 (.inl ⟨h1, rfl⟩) _ _ t2 nt2
      exact ⟨p, _, _, rfl, rfl, by rw [upd_ne (ne_of_none g1 nt2)]; exact g1, g2, g3⟩
    · by_cases h2 : x = e.2
      · rw [decide_eq_true (show (x : Int) = (e.2 : Int) by omega), Bool.or_true]
        refine iteT ?_
        obtain ⟨ts0, f10, _⟩ := pa3
        refine ⟨_, rfl, .inl ⟨rfl, _, SqL.of f10⟩, _, rfl, _, rfl, r, _, _, _, rfl, rfl, hrd, atI_nat (j := 0) rfl, _, rfl, rfl, .inr ⟨_, rfl, ?_⟩⟩
        rw [decide_eq_false (show ¬ V.int (e.1 : Int) = V.int (x : Int) from fun z => h1 (by have := V.int.inj z; omega))]
        refine ⟨r, _, _, _, rfl, rfl, hrd, atI_nat (j := 0) rfl, _, rfl, by show 2 ≤ sizeLine; decide, fun t2 nt2 => ?_⟩
        obtain ⟨ts, g1, g2, g3⟩ := fin e.1 (.inr ⟨h2, rfl⟩) _ _ t2 nt2
        exact ⟨p, _, _, rfl, rfl, by rw [upd_ne (ne_of_none g1 nt2)]; exact g1, g2, g3⟩
      · rw [decide_eq_false (show ¬ (x : Int) = (e.1 : Int) by omega), decide_eq_false (show ¬ (x : Int) = (e.2 : Int) by omega)]
        exact iteF ⟨l, _, _, rfl, sm3, pa3, nb_skip he mem h1 h2, by omega, nod⟩
  · rintro σ H2 ⟨l, y3, y4, rfl, sm, pa, mem, le, nod⟩
    obtain ⟨ts, f1, f2, f3⟩ := pa
    refine ⟨_, rfl, p, _, rfl, SqL.of f1, fun v hv => ?_, fun ys q0 pm nq => ?_⟩
    · obtain ⟨t, ht, rfl⟩ := List.mem_map.mp hv
      obtain ⟨i, hi⟩ := List.mem_iff_getElem?.mp ht
      obtain ⟨e, he⟩ := get_of f2.symm (get_lt hi)
      exact ⟨t, _, _, rfl, f3 i t e hi he⟩
    · obtain ⟨ts', l', rfl, pl, hl', pr'⟩ := PairsAt.perm f2 f3 pm
      refine q _ q0 l' (sm.trans (Same.upd nq)) (sm.free nq) ⟨ts', upd_same, hl', fun i t e x y => Same.upd nq _ _ (pr' i t e x y)⟩ (fun y d => ?_) (pl.nodup_iff.mpr nod) (by rw [pl.length_eq]; rw [List.length_map, hlen] at le; exact le)
      rw [pl.mem_iff, mem y d]
      refine ⟨fun h => h.2, fun h => ⟨?_, h⟩⟩
      rw [List.length_map, hlen]
      rcases h with h | h
      · exact get_lt h
      · exact get_lt h
end
end K5

namespace K5
open PySem PySem.Spec PyProof.Rows L2
/-- two tuples joined, whatever they hold -/
theorem catA_of {K : PySem.W.Frag} {H : Hp} {a b : Addr} {xs ys : List V} {Q : VK} (h1 : SqT K H a xs) (h2 : SqT K H b ys) (hl : xs.length + ys.length ≤ sizeLine) (q : ∀ (H' : Hp) (p : Addr), Same H H' → SqT K H' p (xs ++ ys) → Q (.ref p) H') :
    rCatA K (.ref a) (.ref b) H Q := by
  refine ⟨a, b, xs, ys, rfl, rfl, h1, h2, hl, fun e => ?_, fun _ e => ?_, fun _ _ p np => q _ p (Same.upd np) (SqT.of upd_same)⟩
  · refine q H b (Same.refl _) ?_
    rw [e, List.nil_append]
    exact h2
  · refine q H a (Same.refl _) ?_
    rw [e, List.append_nil]
    exact h1
theorem nv_app (a b : List Nat) : nv a ++ nv b = nv (a ++ b) := by
  unfold nv
  rw [List.map_append]
theorem set_cut {α : Type} : ∀ (l : List α) (k : Nat) (x : α), k < l.length → l.take k ++ [x] ++ l.drop (k + 1) = l.set k x
  | [], k, x, h => by simp at h
  | a :: r, 0, x, h => rfl
  | a :: r, k + 1, x, h => by
    have := set_cut r k x (by simpa using h)
    show a :: (r.take k ++ [x] ++ r.drop (k + 1)) = a :: r.set k x
    rw [this]
theorem nv_cut (L : List Nat) (k x : Nat) (h : k < L.length) : nv (L.take k) ++ [V.int (x : Int)] ++ nv (L.drop (k + 1)) = nv (L.set k x) := by
  rw [← set_cut L k x h, ← nv_app, ← nv_app]
  rfl
theorem cut_to {L : List Nat} {k : Nat} (h : k < L.length) : cutV (nv L) none (some (k : Int)) = nv (L.take k) ∧ ¬ (HT.sIx (nv L).length 0 none = 0 ∧ HT.sIx (nv L).length (nv L).length (some (k : Int)) = (nv L).length) := by
  unfold cutV
  rw [HT.sIx_none, HT.sIx_nat, nv_len, Nat.min_eq_left (Nat.le_of_lt h)]
  refine ⟨?_, fun z => by omega⟩
  unfold nv
  rw [List.drop_zero, Nat.sub_zero, List.map_take]
theorem cut_from {L : List Nat} {k : Nat} (h : k < L.length) : cutV (nv L) (some ((k : Int) + 1)) none = nv (L.drop (k + 1)) ∧ ¬ (HT.sIx (nv L).length 0 (some ((k : Int) + 1)) = 0 ∧ HT.sIx (nv L).length (nv L).length none = (nv L).length) := by
  unfold cutV
  rw [show (k : Int) + 1 = ((k + 1 : Nat) : Int) by omega, HT.sIx_none, HT.sIx_nat, nv_len, Nat.min_eq_left h]
  refine ⟨?_, fun z => by omega⟩
  unfold nv
  rw [← List.map_drop, List.take_of_length_le]
  rw [List.length_map, List.length_drop]
  exact Nat.le_refl _
def spRState (K : PySem.W.Frag) : Sp := fun vs H Q _ => ∃ (g a : Addr) (b p n : Nat) (ds : List (Nat × Nat)), vs = [.ref g, .ref a, .int (p : Int)] ∧ GenAt H g b ∧ HouseAt K H a ds ∧ Tree n ds ∧ n ≤ 15 ∧ 1 ≤ p ∧ p ≤ 4 ∧ b < 2 ^ 59 ∧
  ∀ (H' : Hp) (s : Addr) (S : S2), But g H H' → GenAt H' g (b + 100) → StateAt K H' s S → StOk n ds S → S.1.length = p → Q (.ref s) H'
def spMoved (K : PySem.W.Frag) : Sp := fun vs H Q _ => ∃ (a s t : Addr) (n : Nat) (ds : List (Nat × Nat)) (S : S2) (m : Mv), vs = [.ref a, .ref s, .ref t] ∧ HouseAt K H a ds ∧ Tree n ds ∧ n ≤ 1000 ∧ StateAt K H s S ∧ StOk n ds S ∧ H t = some (.tup (tI m)) ∧ VM ds S.1.length m ∧
  (∀ w, why ds S m = some w → ∀ (H' : Hp) (q : Addr), Same H H' → H' q = some (.lst [.str (Str.ofString w), .ref s]) → Q (.ref q) H') ∧
  (why ds S m = none → ∀ (H' : Hp) (q s' : Addr), Same H H' → H' q = some (.lst [.str "done", .ref s']) → StateAt K H' s' (nxt ds S m) → Q (.ref q) H')
section
variable {P : Program} {w : World} {K : PySem.W.Frag}
      {mg : Str → Option Value} {base : Heap}
theorem ok_random_state (T : Bl mg) (D : Def K mg "_law_random_state" s_l_random_state) (C_l_random : Cal P w K mg base "_law_random" ["_law_generator_here", "_law_bound"] 2 spRand) : Cal P w K mg base "_law_random_state" ["_law_generator_here", "_law_doors", "_law_people"] 3 (spRState K) := by
  refine D.ok sc_l_random_state (fun _ _ _ _ _ _ us hl => match us, hl with | [_, _, _], _ => rfl) (fun vs H Q E h => ?_) (fun f cdv A outer s H vs Q E hr h => ?_)
  · obtain ⟨g, a, b, p, n, ds, rfl, _⟩ := h
    rfl
  obtain ⟨g, a, b, p, n, ds, rfl, hg, hH, tree, hn, hp1, hp4, hb, q⟩ := h
  obtain ⟨rs, hrs, hlen, hds⟩ := id hH
  have hdn := tree.len
  have hn1 : 1 ≤ n := by omega
  obtain ⟨f_l_random, fd_l_random, g_l_random, k_l_random, b_l_random, G_l_random⟩ := C_l_random
  refine ⟨_, (pss_cons (ps_set (i := 3) sc_l_random_state.nd rfl (.inl rfl) (pe_op op_add (pe_callB call_len_seq (by rfl) T.len PySem.boot_len (pa_cons (pv 1) pa_nil)) pe_int))
    (pss_cons (ps_set (i := 4) sc_l_random_state.nd rfl (.inr rfl) (pe_ix ix_list (pe_lst (pa_cons (pv 3) (pa_cons (pv 3) (pa_cons (pe_op op_add pe_int (pe_call G_l_random (hr.mono (by decide)) (by rfl) g_l_random k_l_random b_l_random .nil pass0 (pa_cons (pv 0) (pa_cons (pv 3) pa_nil)))) pa_nil)))) (pe_call G_l_random (hr.mono (by decide)) (by rfl) g_l_random k_l_random b_l_random .nil pass0 (pa_cons (pv 0) (pa_cons pe_int pa_nil))) (fun _ _ => rfl)))
    (pss_cons (ps_setLc (i := 5) (own := [("_law_person", 6)]) (g := gName 6)  rfl sc_l_random_state.nd rfl rfl (sw_true rfl rfl rfl (by decide +kernel)) (pi_range1 rfl T.range (pa_cons (pv 2) pa_nil)) (blkOk_by (N := N_l_random_state) (sc := defScope s_l_random_state) (own := [("_law_person", 6)]) (by decide +kernel)) (fun _ _ _ _ _ => (pg_name (i := 6) sc_l_random_state.nd rfl (.inl rfl) (.inr rfl))) (fun _ _ _ _ _ => pts_nil) (fun _ _ _ _ _ => (pe_call G_l_random (hr.mono (by decide)) (by rfl) g_l_random k_l_random b_l_random .nil pass0 (pa_cons (pv 0) (pa_cons (pv 4) pa_nil)))))
    (pss_one (ps_ret (pe_tup (pa_cons (pe_callTy call_tuple_of (by rfl) T.tuple (by decide +kernel) (pa_cons (pv 5) pa_nil)) (pa_cons (pe_callTy call_tuple_of (by rfl) T.tuple (by decide +kernel) (pa_cons (pe_lc (own := [("_law_door", 7)]) (g := gName 7)  rfl sc_l_random_state.nd (pi_tup (pv 1)) (blkOk_by (N := N_l_random_state) (sc := defScope s_l_random_state) (own := [("_law_door", 7)]) (by decide +kernel)) (fun _ _ _ _ _ => (pg_name (i := 7) sc_l_random_state.nd rfl (.inl rfl) (.inr rfl))) (fun _ _ _ _ _ => pts_nil) (fun _ _ _ _ _ => (pe_call G_l_random (hr.mono (by decide)) (by rfl) g_l_random k_l_random b_l_random .nil pass0 (pa_cons (pv 0) (pa_cons (pv 2) pa_nil))))) pa_nil)) pa_nil)))))))), ?_⟩
  have en : (((rs.map V.ref).length : Nat) : Int) + 1 = ((n : Nat) : Int) := by
    rw [List.length_map, hlen]
    omega
  have hgl := hg.lst
  obtain ⟨gx, hgx⟩ := hgl
  refine ⟨_, rfl, _, _, rfl, .inr hrs, _, _, rfl, rfl, ?_⟩
  refine ⟨_, rfl, _, rfl, _, rfl, _, rfl, g, b, n, congrArg (fun z => [V.ref g, V.int z]) en, hg, by omega, by omega, by omega, fun H1 v bt1 g1 hv => ⟨_, _, rfl, rfl, by show 3 ≤ sizeLine; decide, fun pl npl => ?_⟩⟩
  have nplg : pl ≠ g := g1.ne npl
  refine ⟨_, rfl, g, b + 1, 3, rfl, g1.at nplg, by decide, by decide, by omega, fun H2 u bt2 g2 hu => ?_⟩
  obtain ⟨sp, hsp, sp0, sp1⟩ : ∃ sp : Nat, ([V.int ((((rs.map V.ref).length : Nat) : Int) + 1), V.int ((((rs.map V.ref).length : Nat) : Int) + 1), V.int (1 + (v : Int))] : List V)[u]? = some (.int (sp : Int)) ∧ 1 ≤ sp ∧ sp ≤ n := by
    match u, hu with
    | 0, _ => exact ⟨n, congrArg (fun z => some (V.int z)) en, hn1, Nat.le_refl _⟩
    | 1, _ => exact ⟨n, congrArg (fun z => some (V.int z)) en, hn1, Nat.le_refl _⟩
    | 2, _ => exact ⟨1 + v, congrArg (fun z => some (V.int z)) (by omega), by omega, by omega⟩
  refine ⟨pl, _, _, _, rfl, rfl, SqL.of (bt2 _ _ nplg upd_same), atI_nat hsp, ?_⟩
  have bt02 : But g H H2 := (bt1.at (bt1.free nplg npl) _).trans bt2
  refine ⟨_, rfl, (p : Int), rfl, by omega, by omega, fun pd npd => ?_⟩
  have npdg : pd ≠ g := g2.ne npd
  have npd0 := bt02.free npdg npd
  refine lc_range (lo := 0) (n := p) (fun i H3 => ∃ L : List Nat, But g H H3 ∧ GenAt H3 g (b + 2 + i) ∧ H3 pd = some (.lst (nv L)) ∧ L.length = i ∧ ∀ x ∈ L, x < sp) ?_ ?_ ?_
  · exact ⟨[], bt02.at npd0 _, g2.at npdg, upd_same, rfl, fun x hx => (List.not_mem_nil hx).elim⟩
  · rintro i H3 hi ⟨L, bt3, g3, hL, hl, lt⟩
    refine ⟨rfl, lcYes ?_⟩
    refine ⟨_, rfl, _, rfl, g, b + 2 + i, sp, rfl, g3, by omega, by omega, by omega, fun H4 z bt4 g4 hz => ?_⟩
    refine ⟨_, bt4 _ _ npdg hL, by rw [nv_len]; exact small1000 (by omega), L ++ [z], (bt3.trans bt4).at npd0 _, g4.at npdg, by rw [upd_same, nv_snoc], by simp [hl], fun x hx => ?_⟩
    rcases List.mem_append.mp hx with hx | hx
    · exact lt x hx
    · rw [List.mem_singleton] at hx
      rw [hx]
      exact hz
  · rintro H3 ⟨L, bt3, g3, hL, hl, lt⟩
    refine ⟨_, rfl, pd, _, rfl, .inl ⟨SqL.of hL, fun t1 nt1 => ?_⟩⟩
    have nt1g : t1 ≠ g := g3.ne nt1
    have btA := bt3.at (bt3.free nt1g nt1) (.tup (nv L))
    have gA := g3.at (o := .tup (nv L)) nt1g
    have hA : (upd H3 t1 (.tup (nv L))) t1 = some (.tup (nv L)) := upd_same
    generalize upd H3 t1 (.tup (nv L)) = H4 at btA gA hA
    refine ⟨_, rfl, a, rfl, ⟨_, btA.tup hgx hrs⟩, fun pe npe => ?_⟩
    have npeg : pe ≠ g := gA.ne npe
    have npe0 := btA.free npeg npe
    have n1e : t1 ≠ pe := ne_of_none hA npe
    refine lc_it (walk_tup (K := K) (a := a) (xs := rs.map V.ref)) (fun i H5 => ∃ M : List Nat, But g H4 H5 ∧ GenAt H5 g (b + 6 + i) ∧ H5 pe = some (.lst (nv M)) ∧ M.length = i ∧ ∀ x ∈ M, x < p)
      ⟨[], (Same.refl _).but.at npe _, (gA.at npeg).mono (by omega), upd_same, rfl, fun x hx => (List.not_mem_nil hx).elim⟩ (fun i H5 _ ⟨_, bt5, _⟩ => (btA.trans bt5).tup hgx hrs) ?_ ?_
    · rintro i x H5 H6 hi ⟨M, bt5, g5, hM, hl5, lt5⟩ ⟨rfl, ex⟩
      have hi' : i < ds.length := by
        rw [List.length_map, hlen] at hi
        exact hi
      refine ⟨rfl, lcYes ?_⟩
      refine ⟨_, rfl, _, rfl, g, b + 6 + i, p, rfl, g5, by omega, by omega, by omega, fun H7 z bt7 g7 hz => ?_⟩
      refine ⟨_, bt7 _ _ npeg hM, by rw [nv_len]; exact small1000 (by omega), M ++ [z], (bt5.trans bt7).at npe _, g7.at npeg, by rw [upd_same, nv_snoc], by simp [hl5], fun x hx => ?_⟩
      rcases List.mem_append.mp hx with hx | hx
      · exact lt5 x hx
      · rw [List.mem_singleton] at hx
        rw [hx]
        exact hz
    · rintro H5 ⟨M, bt5, g5, hM, hl5, lt5⟩
      rw [List.length_map, hlen] at hl5 g5
      refine ⟨pe, _, rfl, .inl ⟨SqL.of hM, fun t2 nt2 => ?_⟩⟩
      have nt2g : t2 ≠ g := g5.ne nt2
      refine ⟨by show 2 ≤ sizeLine; decide, fun t3 nt3 => ?_⟩
      have n3g : t3 ≠ g := (g5.at nt2g).ne nt3
      have sB := Same.upd (o := .tup (nv M)) nt2
      have sC := Same.upd (o := .tup [.ref t1, .ref t2]) nt3
      have btE := ((btA.trans bt5).at ((btA.trans bt5).free nt2g nt2) (.tup (nv M)))
      have h15 := bt5 _ _ (gA.lst.elim fun ys hy => ne_lt hy hA) hA
      refine q _ t3 (L, M) (btE.at (btE.free n3g nt3) _) (((g5.at nt2g).at n3g).mono (by omega)) ⟨t1, t2, SqT.of upd_same, SqT.of (sC _ _ (sB _ _ h15)), SqT.of (sC _ _ upd_same)⟩ ⟨?_, ?_, ?_, hl5, ?_⟩ hl
      · show 1 ≤ L.length
        omega
      · show L.length ≤ 4
        omega
      · intro x hx
        have := lt x hx
        omega
      · intro y hy
        show y < L.length
        rw [hl]
        exact lt5 y hy
end
end K5

namespace K5
open PySem PySem.Spec PyProof.Rows L2
section
variable {P : Program} {w : World} {K : PySem.W.Frag}
      {mg : Str → Option Value} {base : Heap}
theorem ok_moved (T : Bl mg) (D : Def K mg "_law_moved" s_l_moved) (C_l_neighbours : Cal P w K mg base "_law_neighbours" ["_law_doors", "_law_place"] 1 (spNeigh K)) : Cal P w K mg base "_law_moved" ["_law_doors", "_law_position", "_law_step"] 2 (spMoved K) := by
  refine D.ok sc_l_moved (fun _ _ _ _ _ _ us hl => match us, hl with | [_, _, _], _ => rfl) (fun vs H Q E h => ?_) (fun f cdv A outer s H vs Q E hr h => ?_)
  · obtain ⟨a, s, t, n, ds, S, m, rfl, _⟩ := h
    rfl
  obtain ⟨a, s, t, n, ds, S, m, rfl, hH, tree, hn, st, ok, ht, ⟨v1, d, j⟩, qw, qn⟩ := h
  obtain ⟨r, b, h1, h2, h3⟩ := id st
  have hdn := tree.len
  obtain ⟨f_l_neighbours, fd_l_neighbours, g_l_neighbours, k_l_neighbours, b_l_neighbours, G_l_neighbours⟩ := C_l_neighbours
  refine ⟨_, (pss_cons (ps_asg (pv 2) (pg_tup (n := 3) rfl (pgs_cons (pg_name (i := 3) sc_l_moved.nd rfl (.inl rfl)) (pgs_cons (pg_name (i := 4) sc_l_moved.nd rfl (.inl rfl)) (pgs_cons (pg_name (i := 5) sc_l_moved.nd rfl (.inr rfl)) pgs_nil)))))
    (pss_cons (ps_asg (pv 1) (pg_tup (n := 2) rfl (pgs_cons (pg_name (i := 6) sc_l_moved.nd rfl (.inl rfl)) (pgs_cons (pg_name (i := 7) sc_l_moved.nd rfl (.inl rfl)) pgs_nil))))
    (pss_cons (ps_if (pt_cmpR op_ne (pe_ix ix_tup (pv 6) (pv 3) (fun _ _ => rfl)) (pv 4) (nomark _)) (pss_one (ps_ret (pe_lst (pa_cons pe_str (pa_cons (pv 1) pa_nil))))) pss_nil)
    (pss_cons (ps_set (i := 8) sc_l_moved.nd rfl (.inl rfl) (pe_ix ix_list (pe_lc (own := [("_law_other", 9), ("_law_number", 10)]) (g := gTup K 2 (gCons (gName 9) (gCons (gName 10) gNil)))  rfl sc_l_moved.nd (pi_list (pe_call G_l_neighbours (hr.mono (by decide)) (by rfl) g_l_neighbours k_l_neighbours b_l_neighbours .nil pass0 (pa_cons (pv 0) (pa_cons (pv 4) pa_nil)))) (blkOk_by (N := N_l_moved) (sc := defScope s_l_moved) (own := [("_law_other", 9), ("_law_number", 10)]) (by decide +kernel)) (fun _ _ _ _ _ => (pg_tup (n := 2) rfl (pgs_cons (pg_name (i := 9) sc_l_moved.nd rfl (.inl rfl) (.inr rfl)) (pgs_cons (pg_name (i := 10) sc_l_moved.nd rfl (.inl rfl) (.inr rfl)) pgs_nil)))) (fun _ _ _ _ _ => (pts_one (pt_cmpR op_eq (pv 9) (pv 5) (nomark _)))) (fun _ _ _ _ _ => (pv 10))) pe_int (fun _ _ => rfl)))
    (pss_cons (ps_if (pt_cmpR op_eq (pe_ix ix_tup (pv 7) (pv 8) (fun _ _ => rfl)) (pv 3) (nomark _)) (pss_one (ps_ret (pe_lst (pa_cons pe_str (pa_cons (pv 1) pa_nil))))) pss_nil)
    (pss_cons (ps_set (i := 11) sc_l_moved.nd rfl (.inl rfl) (pe_op op_catA (pe_op op_catA (pe_slice sl_tup (pv 6) po_none (po_some (pv 3))) (pe_tup (pa_cons (pv 5) pa_nil))) (pe_slice sl_tup (pv 6) (po_some (pe_op op_add (pv 3) pe_int)) po_none)))
    (pss_one (ps_ret (pe_lst (pa_cons pe_str (pa_cons (pe_tup (pa_cons (pv 11) (pa_cons (pe_op op_catA (pe_op op_catA (pe_slice sl_tup (pv 7) po_none (po_some (pv 8))) (pe_tup (pa_cons (pv 3) pa_nil))) (pe_slice sl_tup (pv 7) (po_some (pe_op op_add (pv 8) pe_int)) po_none)) pa_nil))) pa_nil))))))))))), ?_⟩
  obtain ⟨v, hv⟩ : ∃ v, S.1[m.1]? = some v := get_of rfl v1
  have hd : d < S.2.length := by rw [ok.doors]; exact joins_lt j
  obtain ⟨bd, hbd⟩ : ∃ bd, S.2[d]? = some bd := get_of rfl hd
  have ed := dix_is tree j
  refine ⟨_, rfl, _, _, rfl, SqT.of ht, rfl, _, _, rfl, _, _, rfl, _, _, rfl, rfl, ?_⟩
  refine ⟨_, rfl, _, _, rfl, h1, rfl, _, _, rfl, _, _, rfl, rfl, ?_⟩
  refine ⟨_, rfl, _, rfl, r, _, _, _, rfl, rfl, h2, nv_at hv, _, rfl, rfl, _, rfl, ?_⟩
  by_cases cv : v = m.2.1
  case neg =>
    rw [decide_eq_false (show ¬ V.int (v : Int) = V.int (m.2.1 : Int) from fun z => cv (by have := V.int.inj z; omega))]
    have hw : why ds S m = some "away" := by
      unfold why
      rw [if_pos (by rw [getD_of hv]; exact cv)]
    exact iteT ⟨_, rfl, by show 2 ≤ sizeLine; decide, fun q nq => qw "away" hw _ q (Same.upd nq) upd_same⟩
  rw [decide_eq_true (show V.int (v : Int) = V.int (m.2.1 : Int) by rw [cv])]
  refine iteF ?_
  refine ⟨_, rfl, _, rfl, a, ds, n, m.2.1, rfl, hH, tree, hn, fun H1 q1 pl s1 nq1 ⟨ts, g1, g2, g3⟩ mem nod len => ?_⟩
  refine ⟨q1, rfl, ⟨_, SqL.of g1⟩, fun pd npd => ?_⟩
  refine lc_it (walk_list (K := K) (a := q1) (xs := ts.map V.ref)) (fun i H2 => ∃ acc : List Nat, Same H1 H2 ∧ H2 pd = some (.lst (nv acc)) ∧ acc.length ≤ i ∧ (∀ x ∈ acc, x = d) ∧ ∀ i' < i, pl[i']? = some (m.2.2, d) → d ∈ acc)
    ⟨[], Same.upd npd, upd_same, Nat.zero_le _, fun x hx => (List.not_mem_nil hx).elim, fun i' h => by omega⟩ (fun i H2 _ ⟨_, sm, _⟩ => SqL.of (sm _ _ g1)) ?_ ?_
  · rintro i x H2 H3 hi ⟨acc, sm, hp, hl, al, cm⟩ ⟨rfl, ex⟩
    have hi' : i < pl.length := by
      rw [List.length_map, g2] at hi
      exact hi
    obtain ⟨t1, ht1⟩ : ∃ t1, ts[i]? = some t1 := get_of g2 hi'
    obtain ⟨e, he⟩ : ∃ e, pl[i]? = some e := get_of rfl hi'
    have ex' : V.ref t1 = x := by
      have ex : (ts.map V.ref)[i]? = some x := ex
      rw [List.getElem?_map, ht1] at ex
      exact Option.some.inj ex
    subst ex'
    refine ⟨t1, _, rfl, SqT.of (sm _ _ (g3 i t1 e ht1 he)), rfl, _, _, rfl, _, _, rfl, rfl, rfl, ?_⟩
    refine ⟨_, rfl, _, rfl, rfl, _, rfl, ?_⟩
    have je : Joins ds e.2 m.2.1 e.1 := (mem e.1 e.2).mp (List.mem_of_getElem? he)
    by_cases ce : e.1 = m.2.2
    · rw [decide_eq_true (show V.int (e.1 : Int) = V.int (m.2.2 : Int) by rw [ce])]
      have e2d : e.2 = d := tree.one_door (ce ▸ je) j
      refine iteT ⟨_, rfl, _, hp, by rw [nv_len]; exact small1000 (by omega), acc ++ [e.2], sm.at npd, by rw [upd_same, nv_snoc], by simp; omega, fun x hx => ?_, fun i' h he' => ?_⟩
      · rcases List.mem_append.mp hx with hx | hx
        · exact al x hx
        · rw [List.mem_singleton] at hx
          rw [hx]
          exact e2d
      · rw [e2d]
        simp
    · rw [decide_eq_false (show ¬ V.int (e.1 : Int) = V.int (m.2.2 : Int) from fun z => ce (by have := V.int.inj z; omega))]
      refine iteF ⟨acc, sm, hp, by omega, al, fun i' h he' => ?_⟩
      by_cases c : i' = i
      · subst c
        rw [he] at he'
        cases he'
        exact absurd rfl ce
      · exact cm i' (by omega) he'
  · rintro H2 ⟨acc, sm, hp, hl, al, cm⟩
    have dm : d ∈ acc := by
      have hm := (mem m.2.2 d).mpr j
      obtain ⟨i, hi⟩ := List.mem_iff_getElem?.mp hm
      refine cm i ?_ hi
      rw [List.length_map, g2]
      exact get_lt hi
    obtain ⟨x0, hx0⟩ : ∃ x0, acc[0]? = some x0 := by
      cases acc with
      | nil => cases dm
      | cons y r => exact ⟨y, rfl⟩
    have ex0 : x0 = d := al x0 (List.mem_of_getElem? hx0)
    subst ex0
    have s2 := s1.trans sm
    refine ⟨pd, _, _, _, rfl, rfl, SqL.of hp, nv_at hx0, ?_⟩
    refine ⟨_, rfl, _, rfl, b, _, _, _, rfl, rfl, s2.tup h3, nv_at hbd, _, rfl, rfl, _, rfl, ?_⟩
    by_cases cb : bd = m.1
    · rw [decide_eq_true (show V.int (bd : Int) = V.int (m.1 : Int) by rw [cb])]
      have hw : why ds S m = some "barred" := by
        unfold why
        rw [if_neg (by rw [getD_of hv, cv]; simp), ed, if_pos (by rw [getD_of hbd, cb])]
      exact iteT ⟨_, rfl, by show 2 ≤ sizeLine; decide, fun q nq => qw "barred" hw _ q (s2.trans (Same.upd nq)) upd_same⟩
    · rw [decide_eq_false (show ¬ V.int (bd : Int) = V.int (m.1 : Int) from fun z => cb (by have := V.int.inj z; omega))]
      have hw : why ds S m = none := by
        unfold why
        rw [if_neg (by rw [getD_of hv, cv]; simp), ed, if_neg (by rw [getD_of hbd]; exact cb)]
      refine iteF ?_
      have few := ok.few
      have sz4 : (4 : Nat) + 1000 ≤ sizeLine := Nat.le_of_lt (small3k (by decide))
      obtain ⟨c1, c2⟩ := cut_to v1
      obtain ⟨c3, c4⟩ := cut_from v1
      refine ⟨_, rfl, _, rfl, _, rfl, r, _, rfl, s2.tup h2, c2, fun p1 np1 => ?_⟩
      rw [c1]
      have sa := s2.trans (Same.upd (o := .tup (nv (S.1.take m.1))) np1)
      refine ⟨_, rfl, by show 1 ≤ sizeLine; decide, fun p2 np2 => ?_⟩
      have sb := sa.trans (Same.upd (o := .tup [.int (m.2.2 : Int)]) np2)
      have hp1 : (upd (upd H2 p1 (.tup (nv (S.1.take m.1)))) p2 (.tup [.int (m.2.2 : Int)])) p1 = some (.tup (nv (S.1.take m.1))) := by rw [upd_ne (ne_of_none upd_same np2), upd_same]
      refine catA_of (SqT.of hp1) (SqT.of upd_same) (by rw [nv_len, List.length_take, List.length_singleton]; omega) fun H4 p3 s4 h4 => ?_
      have sc := sb.trans s4
      refine ⟨_, rfl, _, rfl, _, _, rfl, rfl, _, rfl, r, _, rfl, sc.tup h2, c4, fun p4 np4 => ?_⟩
      rw [c3]
      have s5 := Same.upd (o := .tup (nv (S.1.drop (m.1 + 1)))) np4
      refine catA_of (s5.tup h4) (SqT.of upd_same) (by rw [List.length_append, nv_len, List.length_take, List.length_singleton, nv_len, List.length_drop]; omega) fun H6 p5 s6 h6 => ?_
      rw [nv_cut _ _ _ v1] at h6
      have sd := (sc.trans s5).trans s6
      obtain ⟨c5, c6⟩ := cut_to hd
      obtain ⟨c7, c8⟩ := cut_from hd
      have bl := ok.doors
      refine ⟨_, rfl, _, rfl, _, rfl, _, rfl, b, _, rfl, sd.tup h3, c6, fun p6 np6 => ?_⟩
      rw [c5]
      have se := sd.trans (Same.upd (o := .tup (nv (S.2.take x0))) np6)
      have h6e := (Same.upd (o := .tup (nv (S.2.take x0))) np6).tup h6
      refine ⟨_, rfl, by show 1 ≤ sizeLine; decide, fun p7 np7 => ?_⟩
      have sf := se.trans (Same.upd (o := .tup [.int (m.1 : Int)]) np7)
      have h6f := (Same.upd (o := .tup [.int (m.1 : Int)]) np7).tup h6e
      have hp6 : (upd (upd H6 p6 (.tup (nv (S.2.take x0)))) p7 (.tup [.int (m.1 : Int)])) p6 = some (.tup (nv (S.2.take x0))) := by rw [upd_ne (ne_of_none upd_same np7), upd_same]
      refine catA_of (SqT.of hp6) (SqT.of upd_same) (by rw [nv_len, List.length_take, List.length_singleton]; omega) fun H8 p8 s8 h8 => ?_
      have sg := sf.trans s8
      have h6g := s8.tup h6f
      refine ⟨_, rfl, _, rfl, _, _, rfl, rfl, _, rfl, b, _, rfl, sg.tup h3, c8, fun p9 np9 => ?_⟩
      rw [c7]
      have s9 := Same.upd (o := .tup (nv (S.2.drop (x0 + 1)))) np9
      refine catA_of (s9.tup h8) (SqT.of upd_same) (by rw [List.length_append, nv_len, List.length_take, List.length_singleton, nv_len, List.length_drop]; omega) fun H10 p10 s10 h10 => ?_
      rw [nv_cut _ _ _ hd] at h10
      have sh := (sg.trans s9).trans s10
      have h6h := s10.tup (s9.tup h6g)
      refine ⟨by show 2 ≤ sizeLine; decide, fun p11 np11 => ?_⟩
      have s11 := Same.upd (o := .tup [.ref p5, .ref p10]) np11
      refine ⟨by show 2 ≤ sizeLine; decide, fun p12 np12 => ?_⟩
      have s12 := Same.upd (o := .lst [.str "done", .ref p11]) np12
      refine qn hw _ p12 p11 ((sh.trans s11).trans s12) upd_same ⟨p5, p10, SqT.of (s12 _ _ upd_same), s12.tup (s11.tup h6h), s12.tup (s11.tup ?_)⟩
      show SqT K H10 p10 (nv (S.2.set (dix ds m.2.1 m.2.2) m.1))
      rw [ed]
      exact h10
end
end K5

namespace K5
open PySem PySem.Spec PyProof.Rows L2
/-- the steps found: all of the people ahead of k, and of person k (in room v) those by the first i neighbours -/
structure SI (ds : List (Nat × Nat)) (S : S2) (k v : Nat) (pl : List (Nat × Nat)) (i : Nat) (l : List Mv) : Prop where
  mem : ∀ m, m ∈ l ↔ (m.1 < k ∧ Can ds S m) ∨ (m.1 = k ∧ m.2.1 = v ∧ ∃ d, (m.2.2, d) ∈ pl.take i ∧ S.2[d]? ≠ some k)
  nd : l.Nodup
  len : l.length ≤ ds.length * k + i
structure SO (ds : List (Nat × Nat)) (S : S2) (k : Nat) (l : List Mv) : Prop where
  mem : ∀ m, m ∈ l ↔ m.1 < k ∧ Can ds S m
  nd : l.Nodup
  len : l.length ≤ ds.length * k
theorem take_succ_mem {α : Type} {l : List α} {i : Nat} {x y : α} (h : l[i]? = some x) : y ∈ l.take (i + 1) ↔ y ∈ l.take i ∨ y = x := by
  rw [List.take_succ, h, List.mem_append]
  simp
theorem not_mem_take {α : Type} {l : List α} {i : Nat} {x : α} (nd : l.Nodup) (h : l[i]? = some x) : x ∉ l.take i := by
  intro hm
  obtain ⟨j, hj⟩ := List.mem_iff_getElem?.mp hm
  rw [List.getElem?_take] at hj
  split at hj
  · rename_i hji
    have h1 := get_lt hj
    have h2 := get_lt h
    rw [List.getElem?_eq_getElem h1] at hj
    rw [List.getElem?_eq_getElem h2] at h
    have e := Option.some.inj (hj.trans h.symm)
    have := (List.getElem_inj nd).mp e
    omega
  · cases hj
theorem SO.start {ds S k v l pl} (h : SO ds S k l) : SI ds S k v pl 0 l := by
  refine ⟨fun m => ?_, h.nd, h.len⟩
  rw [h.mem m]
  simp
theorem SI.add {n ds S k v pl i l y d} (T : Tree n ds) (h : SI ds S k v pl i l) (mem : ∀ y d, (y, d) ∈ pl ↔ Joins ds d v y) (nd : pl.Nodup) (hi : pl[i]? = some (y, d)) (hb : S.2[d]? ≠ some k) : SI ds S k v pl (i + 1) (l ++ [(k, v, y)]) := by
  have jy := (mem y d).mp (List.mem_of_getElem? hi)
  refine ⟨fun m => ?_, ?_, by rw [List.length_append, List.length_singleton]; have := h.len; omega⟩
  · rw [List.mem_append, List.mem_singleton, h.mem m]
    constructor
    · rintro ((q | ⟨q1, q2, c, q3, q4⟩) | rfl)
      · exact .inl q
      · exact .inr ⟨q1, q2, c, (take_succ_mem hi).mpr (.inl q3), q4⟩
      · exact .inr ⟨rfl, rfl, d, (take_succ_mem hi).mpr (.inr rfl), hb⟩
    · rintro (q | ⟨q1, q2, c, q3, q4⟩)
      · exact .inl (.inl q)
      · rcases (take_succ_mem hi).mp q3 with q | q
        · exact .inl (.inr ⟨q1, q2, c, q, q4⟩)
        · obtain ⟨a, b, z⟩ := m
          simp only at q1 q2 q
          cases q
          rw [q1, q2]
          exact .inr rfl
  · refine List.nodup_append.mpr ⟨h.nd, by simp, fun a ha b hb' => ?_⟩
    rintro rfl
    rw [List.mem_singleton] at hb'
    subst hb'
    rcases (h.mem _).mp ha with ⟨q, _⟩ | ⟨_, _, c, q, _⟩
    · exact Nat.lt_irrefl _ q
    · have jc := (mem y c).mp (List.mem_of_mem_take q)
      have e := T.one_door jc jy
      subst e
      exact not_mem_take nd hi q
theorem SI.skip {ds S k v pl i l y d} (h : SI ds S k v pl i l) (hi : pl[i]? = some (y, d)) (hb : S.2[d]? = some k) : SI ds S k v pl (i + 1) l := by
  refine ⟨fun m => ?_, h.nd, by have := h.len; omega⟩
  rw [h.mem m]
  constructor
  · rintro (q | ⟨q1, q2, c, q3, q4⟩)
    · exact .inl q
    · exact .inr ⟨q1, q2, c, (take_succ_mem hi).mpr (.inl q3), q4⟩
  · rintro (q | ⟨q1, q2, c, q3, q4⟩)
    · exact .inl q
    · rcases (take_succ_mem hi).mp q3 with q | q
      · exact .inr ⟨q1, q2, c, q, q4⟩
      · cases q
        exact absurd hb q4
theorem SI.done {ds S k v pl l} (h : SI ds S k v pl pl.length l) (mem : ∀ y d, (y, d) ∈ pl ↔ Joins ds d v y) (hv : S.1[k]? = some v) (hl : pl.length ≤ ds.length) : SO ds S (k + 1) l := by
  refine ⟨fun m => ?_, h.nd, ?_⟩
  · rw [h.mem m, List.take_length]
    constructor
    · rintro (⟨q1, q2⟩ | ⟨q1, q2, c, q3, q4⟩)
      · exact ⟨by omega, q2⟩
      · refine ⟨by omega, ?_, ?_, c, ?_, ?_⟩
        · rw [q1]; exact get_lt hv
        · rw [q1, q2]; exact hv
        · rw [q2]; exact (mem _ _).mp q3
        · rw [q1]; exact q4
    · rintro ⟨q1, q2⟩
      by_cases c : m.1 = k
      · obtain ⟨_, r2, d, r3, r4⟩ := q2
        rw [c, hv] at r2
        have e := Option.some.inj r2
        refine .inr ⟨c, e.symm, d, (mem _ _).mpr (by rw [e]; exact r3), by rw [c] at r4; exact r4⟩
      · exact .inl ⟨by omega, q2⟩
  · have := h.len
    rw [Nat.mul_succ]
    omega
/-- each move by a door that there is -/
def spEvery (K : PySem.W.Frag) : Sp := fun vs H Q _ => ∃ (a : Addr) (p n : Nat) (ds : List (Nat × Nat)), vs = [.ref a, .int (p : Int)] ∧ HouseAt K H a ds ∧ Tree n ds ∧ n ≤ 8 ∧ p ≤ 4 ∧
  ∀ (H' : Hp) (q : Addr) (l : List Mv), Same H H' → H q = none → TrisAt H' q l → (∀ m ∈ l, VM ds p m) → l.length ≤ 56 → Q (.ref q) H'
section
variable {P : Program} {w : World} {K : PySem.W.Frag}
      {mg : Str → Option Value} {base : Heap}
theorem ok_steps (T : Bl mg) (D : Def K mg "_law_steps" s_l_steps) (C_l_neighbours : Cal P w K mg base "_law_neighbours" ["_law_doors", "_law_place"] 1 (spNeigh K)) : Cal P w K mg base "_law_steps" ["_law_doors", "_law_position"] 2 (spPoss K) := by
  refine D.ok sc_l_steps (fun _ _ _ _ _ _ us hl => match us, hl with | [_, _], _ => rfl) (fun vs H Q E h => ?_) (fun f cdv A outer s H vs Q E hr h => ?_)
  · obtain ⟨a, s, ds, n, S, rfl, _⟩ := h
    rfl
  obtain ⟨a, s, ds, n, S, rfl, hH, tree, hn, st, ok, q⟩ := h
  obtain ⟨r, b, h1, h2, h3⟩ := id st
  have hdn := tree.len
  have few := ok.few
  obtain ⟨f_l_neighbours, fd_l_neighbours, g_l_neighbours, k_l_neighbours, b_l_neighbours, G_l_neighbours⟩ := C_l_neighbours
  refine ⟨_, (pss_cons (ps_set (i := 2) sc_l_steps.nd rfl (.inl rfl) (pe_lst pa_nil))
    (pss_cons (ps_for PassesOwn.never rfl (pi_enumT (by rfl) T.enumerate (pa_cons (pe_ix ix_tup (pv 1) pe_int (fun _ _ => rfl)) pa_nil)) (pg_tup (n := 2) rfl (pgs_cons (pg_name (i := 3) sc_l_steps.nd rfl (.inl rfl)) (pgs_cons (pg_name (i := 4) sc_l_steps.nd rfl (.inl rfl)) pgs_nil)))
    (pss_one (ps_for PassesOwn.never rfl (pi_list (pe_call G_l_neighbours (hr.mono (by decide)) (by rfl) g_l_neighbours k_l_neighbours b_l_neighbours .nil pass0 (pa_cons (pv 0) (pa_cons (pv 4) pa_nil)))) (pg_tup (n := 2) rfl (pgs_cons (pg_name (i := 5) sc_l_steps.nd rfl (.inl rfl)) (pgs_cons (pg_name (i := 6) sc_l_steps.nd rfl (.inl rfl)) pgs_nil)))
    (pss_one (ps_if (pt_cmpR op_ne (pe_ix ix_tup (pe_ix ix_tup (pv 1) pe_int (fun _ _ => rfl)) (pv 6) (fun _ _ => rfl)) (pv 3) (nomark _)) (pss_one (ps_expr (pe_bm PySem.F.plainAttrs_list PySem.F.slot_list_append PySem.F.type_list_append mt_append (pv 2) (pa_cons (pe_tup (pa_cons (pv 3) (pa_cons (pv 4) (pa_cons (pv 5) pa_nil)))) pa_nil)))) pss_nil)))))
    (pss_one (ps_ret (pe_callB (cr_sortT (d := 3) (B := 64) (by decide)) (by rfl) T.sorted (by decide +kernel) (pa_cons (pv 2) pa_nil)))))), ?_⟩
  refine ⟨Nat.zero_le _, fun p np => ?_⟩
  have sp1 := Same.upd (o := .lst []) np
  refine ⟨_, rfl, s, _, _, _, rfl, rfl, sp1.tup h1, atI_nat (j := 0) rfl, r, _, rfl, sp1.tup h2, ?_⟩
  refine for_it (walk_enumT (K := K) (a := r) (xs := nv S.1)) (fun k σ H2 => ∃ l y3 y4 y5 y6, σ = [some (.ref a), some (.ref s), some (.ref p), y3, y4, y5, y6] ∧ Same H H2 ∧ TrisAt H2 p l ∧ SO ds S k l)
    ⟨[], _, _, _, _, rfl, sp1, ⟨[], upd_same, TL.nil⟩, ⟨fun m => by simp, List.nodup_nil, Nat.zero_le _⟩⟩ (fun i σ H2 _ ⟨_, _, _, _, _, _, sm, _⟩ => sm.tup h2) ?_ ?_
  · rintro k x σ H2 H3 hk ⟨l, y3, y4, y5, y6, rfl, sm, tr, so⟩ ⟨t, x1, x2, rfl, nt, rfl, ex1, ex2⟩
    cases ex1
    obtain ⟨v, hv, rfl⟩ := nv_some ex2
    have kP := get_lt hv
    have smt : Same H2 (upd H2 t (.tup [.int (k : Nat), .int (v : Int)])) := Same.upd nt
    have sm4 := sm.trans smt
    have tr4 := tr.same smt
    refine ⟨t, _, rfl, SqT.of upd_same, rfl, _, _, rfl, _, _, rfl, rfl, ?_⟩
    generalize upd H2 t (.tup [.int (k : Nat), .int (v : Int)]) = H4 at smt sm4 tr4
    refine ⟨_, rfl, _, rfl, a, ds, n, v, rfl, hH.same sm4, tree, by omega, fun H5 q1 pl s5 nq1 ⟨ts1, g1, g2, g3⟩ mem nod len => ?_⟩
    have sm5 := sm4.trans s5
    have tr5 := tr4.same s5
    refine ⟨q1, rfl, ⟨_, SqL.of g1⟩, ?_⟩
    obtain ⟨ts0, f0, _⟩ := id tr4
    obtain ⟨ts5, f5, _⟩ := id tr5
    have npq : q1 ≠ p := (ne_of_none f0 nq1).symm
    refine for_it (walk_list (K := K) (a := q1) (xs := ts1.map V.ref)) (fun i σ H6 => ∃ l y5 y6, σ = [some (.ref a), some (.ref s), some (.ref p), some (.int (k : Int)), some (.int (v : Int)), y5, y6] ∧ But p H5 H6 ∧ Same H H6 ∧ TrisAt H6 p l ∧ SI ds S k v pl i l)
      ⟨l, _, _, rfl, But.refl _ _, sm5, tr5, so.start⟩ (fun i σ H6 _ ⟨_, _, _, _, bt, _⟩ => SqL.of (bt _ _ npq g1)) ?_ ?_
    · rintro i x σ H6 H7 hi ⟨l, y5, y6, rfl, bt, sm6, ⟨ts, f1, f2⟩, si⟩ ⟨rfl, ex⟩
      have hi' : i < pl.length := by
        rw [List.length_map, g2] at hi
        exact hi
      obtain ⟨t1, ht1⟩ : ∃ t1, ts1[i]? = some t1 := get_of g2 hi'
      obtain ⟨e, he⟩ : ∃ e, pl[i]? = some e := get_of rfl hi'
      have ex' : V.ref t1 = x := by
        have ex : (ts1.map V.ref)[i]? = some x := ex
        rw [List.getElem?_map, ht1] at ex
        exact Option.some.inj ex
      subst ex'
      have hte := g3 i t1 e ht1 he
      have hte6 := bt _ _ (ne_lt f5 hte) hte
      have je : Joins ds e.2 v e.1 := (mem e.1 e.2).mp (List.mem_of_getElem? he)
      obtain ⟨bk, hbk⟩ : ∃ bk, S.2[e.2]? = some bk := get_of ok.doors (joins_lt je)
      refine ⟨t1, _, rfl, SqT.of hte6, rfl, _, _, rfl, _, _, rfl, rfl, ?_⟩
      refine ⟨_, rfl, s, _, _, _, rfl, rfl, sm6.tup h1, atI_nat (j := 1) rfl, _, rfl, b, _, _, _, rfl, rfl, sm6.tup h3, nv_at hbk, _, rfl, rfl, _, rfl, ?_⟩
      have ll := si.len
      have kb : ds.length * k ≤ ds.length * 3 := Nat.mul_le_mul_left _ (by omega)
      by_cases cb : bk = k
      · rw [decide_eq_true (show V.int (bk : Int) = V.int (k : Int) by rw [cb])]
        exact iteF ⟨l, _, _, rfl, bt, sm6, ⟨ts, f1, f2⟩, si.skip he (by rw [hbk, cb])⟩
      · rw [decide_eq_false (show ¬ V.int (bk : Int) = V.int (k : Int) from fun z => cb (by have := V.int.inj z; omega))]
        refine iteT ?_
        refine ⟨_, rfl, .inl ⟨rfl, _, SqL.of f1⟩, _, rfl, _, rfl, _, rfl, by show 3 ≤ sizeLine; decide, fun t2 nt2 => ?_⟩
        have ntp : t2 ≠ p := (ne_of_none f1 nt2).symm
        refine ⟨p, _, _, rfl, rfl, by rw [upd_ne ntp.symm]; exact f1, by rw [List.length_map, f2.1]; exact small1000 (by omega), l ++ [(k, v, e.1)], _, _, rfl, (bt.trans (Same.upd nt2).but).upd _, (sm6.trans (Same.upd nt2)).at np, ⟨ts ++ [t2], by rw [upd_same, List.map_append]; rfl, ?_⟩, si.add tree mem nod he (by rw [hbk]; intro z; exact cb (Option.some.inj z))⟩
        refine TL.append ?_ (TL.one (by rw [upd_ne ntp, upd_same]; rfl))
        refine ⟨f2.1, fun i t' m' e1 e2 => ?_⟩
        have z := f2.2 i t' m' e1 e2
        rw [upd_ne (ne_lt f1 z), upd_ne (ne_of_none z nt2)]
        exact z
    · rintro σ H6 ⟨l, y5, y6, rfl, bt, sm6, tr6, si⟩
      rw [List.length_map, g2] at si
      exact ⟨l, _, _, _, _, rfl, sm6, tr6, si.done mem hv len⟩
  · rintro σ H2 ⟨l, y3, y4, y5, y6, rfl, sm, ⟨ts, g1, g2⟩, so⟩
    rw [nv_len] at so
    have ll := so.len
    have kb : ds.length * S.1.length ≤ ds.length * 4 := Nat.mul_le_mul_left _ few
    have mc : ∀ m, m ∈ l ↔ Can ds S m := fun m => (so.mem m).trans ⟨fun h => h.2, fun h => ⟨h.1, h⟩⟩
    have sms : ∀ m ∈ l, Sm m := fun m hm => ((mc m).mp hm).sm tree hn ok
    refine ⟨_, rfl, p, _, rfl, SqL.of g1, by rw [List.length_map, g2.1]; omega, fun v hv => ?_, fun ys q0 pr asc nq => ?_⟩
    · obtain ⟨t, ht, rfl⟩ := List.mem_map.mp hv
      obtain ⟨i, hi⟩ := List.mem_iff_getElem?.mp ht
      obtain ⟨m, hm⟩ : ∃ m, l[i]? = some m := get_of g2.1.symm (get_lt hi)
      exact tup_of (g2.2 i t m hi hm) (sms m (List.mem_of_getElem? hm))
    · obtain ⟨ts', l', rfl, cn, tl'⟩ := sorted_canon g2 mc sms so.nd pr asc
      exact q _ q0 l' (sm.trans (Same.upd nq)) (sm.free nq) ⟨ts', upd_same, tl'.same (Same.upd nq)⟩ cn
end
end K5

namespace L2
open PySem PySem.Spec PyProof.Rows
/-- how many have been met: all, where none is met twice -/
theorem met_len (f : Nat → Int) : ∀ i, (((List.range i).map f).Nodup → (firstMet f i).length = i) ∧ (¬ ((List.range i).map f).Nodup → (firstMet f i).length < i)
  | 0 => ⟨fun _ => rfl, fun h => absurd (by simp) h⟩
  | i + 1 => by
    obtain ⟨h1, h2⟩ := met_len f i
    have le := firstMet_length_le f i
    have key : (firstMet f i).any (· == f i) = ((List.range i).map f).any (· == f i) := firstMet_any f i (f i)
    rw [firstMet_succ, List.range_succ, List.map_append]
    unfold step_dedup
    rw [key]
    by_cases c : ((List.range i).map f).any (· == f i) = true
    · rw [if_pos c]
      obtain ⟨x, hx, e⟩ := List.any_eq_true.mp c
      have e : x = f i := eq_of_beq e
      subst e
      refine ⟨fun nd => ?_, fun _ => by omega⟩
      obtain ⟨_, _, z⟩ := List.nodup_append.mp nd
      exact absurd rfl (z _ hx _ (by simp))
    · rw [if_neg c, List.length_append, List.length_singleton]
      have nm : f i ∉ (List.range i).map f := fun hx => c (List.any_eq_true.mpr ⟨f i, hx, beq_self_eq_true _⟩)
      refine ⟨fun nd => ?_, fun nd => ?_⟩
      · rw [h1 (List.nodup_append.mp nd).1]
      · have := h2 fun y => nd (List.nodup_append.mpr ⟨y, by simp, fun a ha b hb => by
          simp only [List.map_cons, List.map_nil,
                List.mem_singleton] at hb
          rintro rfl
          exact nm (hb ▸ ha)⟩)
        omega
/-- len(set(xs)), xs whole numbers -/
def tLenSetA (K : PySem.W.Frag) (ta : TE) : TE := fun σ H Q => ta σ H fun x H1 => ∃ (l : Addr) (ns : List Int), x = V.ref l ∧ SqL K H1 l (ns.map V.int) ∧ ns.length + 1 < scanBound ∧ ∀ n : Nat, (ns.Nodup → n = ns.length) → (¬ ns.Nodup → n < ns.length) → Q (.int (n : Int)) H1
theorem pe_lenSetA {X : Cx} {a : Expr} {ta : TE} {p p2 q pos : Pos} (hc : X.calm = true) (gl : Gl X "len") (ml : X.mg "len" = none) (gs : Gl X "set") (ms : X.mg "set" = none) (ha : PE X a ta)
    (one : starEach [a] X.env = (false, eval a X.env) :: starEach [] X.env := by rfl) : PE X (.Call (.Name "len" p) [.Call (.Name "set" p2) [a] [] q] [] pos) (tLenSetA X.K ta) := by
  constructor
  intro pins s σ H Q I h
  refine Call_ (ld_blt I gl ml PySem.boot_len (PyProof.Rows.callWith_builtin1 (PyProof.Rows.args_cons ?_ rfl) rfl rfl))
  refine Call_ (ld_blt I gs ms PyProof.Rows.boot_set (PyProof.Rows.callWith_type1 (PyProof.Rows.args_cons (thn (ha.run pins s σ H _ I h) ?_) one) one rfl))
  rintro v s1 ⟨x, H1, I1, rx, l, ns, rfl, seq, few, z⟩
  obtain rfl : v = Value.ref l := rx
  refine PyProof.Rows.args_nil ?_
  obtain ⟨its, rv, at_l, _⟩ := I1.list seq
  have len : its.length = ns.length := by rw [← rv.length, List.length_map]
  refine call_set_list (I1.ok.hd hc) at_l.isList (intsAre_of rv) (by rw [List.size_toArray, len]; exact few) fun h' tk made keep => ?_
  have sz : its.toArray.size = ns.length := by rw [List.size_toArray, len]
  rw [sz] at made
  have all : (List.range ns.length).map (fun i => ns.getD i 0) = ns := by
    apply List.ext_getElem?
    intro i
    rw [List.getElem?_map]
    by_cases y : i < ns.length
    · rw [List.getElem?_range y, List.getElem?_eq_getElem y]
      simp [List.getD_eq_getElem?_getD, List.getElem?_eq_getElem y]
    · rw [List.getElem?_eq_none (by simpa using Nat.le_of_not_lt y), List.getElem?_eq_none (Nat.le_of_not_lt y)]
      rfl
  obtain ⟨m1, m2⟩ := met_len (fun i => ns.getD i 0) ns.length
  rw [all] at m1 m2
  have bound := firstMet_length_le (fun i => ns.getD i 0) ns.length
  have small : scanBound ≤ 2 ^ 62 := by decide
  refine PyProof.Rows.args_nil ?_
  obtain ⟨o, es, ep, t, ho, ex, hd, _, _, _, hf, hn⟩ := made
  have I2 : Inv X pins σ H1 { s1 with heap := h', toks := tk } := I1.kept fun b o e => keep b o (Heap.lt_size e) e
  exact call_len_set ho ex hd hf (by rw [hn]; omega) ⟨.int _, H1, I2.tok _, ⟨_, by rw [hn]⟩, z _ m1 m2⟩
end L2

namespace L2
open PySem PySem.Spec PyProof.Rows
/-- f(c = .., b = .., a = ..): all by name, in the reverse order -/
def rev3 {α : Type} : List α → List α → List α
  | [], [c, b, a] => [a, b, c]
  | _, _ => []
theorem rev3_vals {vs zs : List V} {us ws : List Value} (r : Vals vs us) (q : Vals zs ws) : Vals (rev3 vs zs) (rev3 us ws) := by
  cases r with
  | nil =>
    cases q with
    | nil => exact .nil
    | cons h1 q =>
      cases q with
      | nil => exact .nil
      | cons h2 q =>
        cases q with
        | nil => exact .nil
        | cons h3 q =>
          cases q with
          | nil => exact .cons h3 (.cons h2 (.cons h1 .nil))
          | cons h4 q => exact .nil
  | cons h r => exact .nil
def rev4 {α : Type} : List α → List α → List α
  | [], [d, c, b, a] => [a, b, c, d]
  | _, _ => []
theorem rev4_vals {vs zs : List V} {us ws : List Value} (r : Vals vs us) (q : Vals zs ws) : Vals (rev4 vs zs) (rev4 us ws) := by
  cases r with
  | nil =>
    cases q with
    | nil => exact .nil
    | cons h1 q =>
      cases q with
      | nil => exact .nil
      | cons h2 q =>
        cases q with
        | nil => exact .nil
        | cons h3 q =>
          cases q with
          | nil => exact .nil
          | cons h4 q =>
            cases q with
            | nil => exact .cons h4 (.cons h3 (.cons h2 (.cons h1 .nil)))
            | cons h5 q => exact .nil
  | cons h r => exact .nil
/-- as Cal, and how a call by names binds -/
def CalK (P : Program) (w : World) (K : PySem.W.Frag) (mg : Str → Option Value) (base : Heap) (x : Str) (ps : List Str) (k : Nat) (sp : Sp) (ks : List Str) (g : List Value → List Value → List Value) (gV : List V → List V → List V) : Prop :=
  ∃ (f : Addr) (fd : FuncData), mg x = some (.ref f) ∧ PySem.W.keepIn K (.ref f) = true ∧ Binds K fd ps [] ∧ FnOk P w K mg base CX0 k f fd ps sp ∧ KBinds K fd ps ks g gV
theorem CalK.cal {P w K mg base x ps k sp ks g gV} (C : CalK P w K mg base x ps k sp ks g gV) : Cal P w K mg base x ps k sp := by
  obtain ⟨f, fd, a, b, c, d, _⟩ := C
  exact ⟨f, fd, a, b, c, d⟩
theorem Def.okK {P : Program} {w : World} {K : PySem.W.Frag} {mg : Str → Option Value} {base : Heap} {x : Str} {st : Stmt} {N ps ks : List Str} {k : Nat} {sp : Sp} {g : List Value → List Value → List Value} {gV : List V → List V → List V} (D : Def K mg x st) (S : FnScope N ps (defScope st))
    (hkb : ∀ (kV doc pm : Value) (an : Option Addr) (cdv ct : Value) (us ws : List Value), (g us ws).length = ps.length → bindArgs (PySem.W.fnOf x x (defArgs st) (defBody st) (defScope st) .none kV doc pm an cdv ct) ⟨us, ks.zip ws⟩ = pure (ps.zip (g us ws)))
    (hrel : ∀ {vs : List V} {us : List Value} {zs : List V} {ws : List Value}, Vals vs us → Vals zs ws → Vals (gV vs zs) (g us ws))
    (hb : ∀ (kV doc pm : Value) (an : Option Addr) (cdv ct : Value) (us : List Value), us.length = ps.length → bindArgs (PySem.W.fnOf x x (defArgs st) (defBody st) (defScope st) .none kV doc pm an cdv ct) ⟨us, []⟩ = pure (ps.zip us))
    (ar : ∀ vs H Q E, sp vs H Q E → vs.length = ps.length)
    (hbody : ∀ (f : Addr) (cdv : Value) (A : Around) (outer : List Env) (s : Shared) (H : Hp) (vs : List V) (Q : VK) (E : XK), Room k (A.deeper (envOfC x (defScope st) s.heap.objs.size f cdv)) → sp vs H Q E →
      ∃ t, PSs (cxOf CX0 P w K mg base N x (defScope st) f cdv A outer s H E).nox (defBody st) t ∧ t { nx := fun _ H' => Q .non H', rt := Q } (start N vs) H) : CalK P w K mg base x ps (k + 1) sp ks g gV := by
  obtain ⟨f, fd, F, m⟩ := D
  refine ⟨f, fd, m, F.kp, F.binds hb, F.ok S ar fun cdv A outer s H vs Q E hr h => hbody f cdv A outer s H vs Q E hr h, ?_, hrel⟩
  obtain ⟨oc, od, kV, doc, pm, an, cdv,
        ct, osl, rfl, lk, hcd⟩ := F.ex
  intro s us ws _ hl
  exact BindsTo.of_eq (hkb kV doc pm an cdv ct us ws hl)
section
variable {X : Cx} {CX : CXT} {k : Nat} {f : Addr} {fd : FuncData} {ps ks : List Str} {sp : Sp} {E : XK} {x : Str} {p pos : Pos} {kws : List Keyword} {tk : TA} {g : List Value → List Value → List Value} {gV : List V → List V → List V}
/-- f(k = v, ..), nothing by position -/
theorem pe_callK0 (F : FnOk X.prog X.w X.K X.mg X.base CX k f fd ps sp) (hr : Room k X.A) (hg : Gl X x) (hm : X.mg x = some (.ref f)) (hk : PySem.W.keepIn X.K (.ref f) = true) (hb : KBinds X.K fd ps ks g gV) (hx : Passes CX X E)
    (hkw : PK X kws tk) (hall : (backToKw pos (keywordEach kws X.env)).all (·.1.isSome) = true := by rfl) (hks : (backToKw pos (keywordEach kws X.env)).filterMap (·.1) = ks := by rfl)
    (hdb : (x == ("__debug__" : Str)) = false := by decide)
    (hpl : ((backTo pos (starEach [] X.env)).any (·.1) || (backToKw pos
          (keywordEach kws X.env)).any (·.1.isNone)) = false := by rfl) :
    PE X (.Call (.Name x p) [] kws pos) (tCallK sp gV E tNil tk) := by
  refine ⟨fun pins s σ H Q I h => ?_⟩
  refine wpAny_Call_Name_kw
        (ld_glob I hg hm ?_ hdb)
  have h : tk σ H (fun zs H2 => sp (gV [] zs) H2 Q E) := h
  refine PySem.W.callWith_KW0 (h₀ := X.base) I.ok.mod.kin hk hall (thn (hkw.run pos pins s σ H _ I h) fun ws s2 ⟨zs, H2, I2, rz, q2⟩ => ⟨I2.kIn, ?_⟩) hpl
  rw [hks]
  exact run_fnk (us := []) (vs := []) F hr hb hx I2 .nil rz q2
end
end L2

namespace L2
open PySem PySem.Spec PyProof.Rows
def rev2 {α : Type} : List α → List α → List α
  | [], [b, a] => [a, b]
  | _, _ => []
theorem rev2_vals {vs zs : List V} {us ws : List Value} (r : Vals vs us) (q : Vals zs ws) : Vals (rev2 vs zs) (rev2 us ws) := by
  cases r with
  | nil =>
    cases q with
    | nil => exact .nil
    | cons h1 q =>
      cases q with
      | nil => exact .nil
      | cons h2 q =>
        cases q with
        | nil => exact .cons h2 (.cons h1 .nil)
        | cons h3 q => exact .nil
  | cons h r => exact .nil
end L2

namespace K5
open PySem PySem.Spec PyProof.Rows L2
theorem DicR.keys {β : Type} {VR : V → β → Prop} : ∀ {kvs : List (Key × V)} {ks : List (Nat × β)}, DicR VR kvs ks → kvs.map (·.1) = ((ks.map Prod.fst).map fun x : Nat => (x : Int)).map Sum.inl
  | _, _, .nil => rfl
  | _, _, .cons h r => by
    have e := DicR.keys r
    simp only [List.map_cons] at e ⊢
    rw [h.1, e]
theorem Reg.le {n ds shut room ks} (h : Reg n ds shut room ks) : ks.length ≤ n := by
  have := h.df.le
  rw [List.length_map] at this
  exact this
theorem Ptr.walk {ds : List (Nat × Nat)} {shut : List Nat} {room : Nat} {ks : List (Nat × Option (Nat × Nat))} (P : Ptr ds shut room ks) :
    ∀ (m x : Nat), x ∈ ks.map Prod.fst → (ks.map Prod.fst).idxOf x = m → ∃ p, Walk ds x p room ∧ ∀ d ∈ p, d ∉ shut := by
  intro m
  induction m using Nat.strongRecOn with
  | ind m ih =>
    intro x hx hm
    obtain ⟨⟨x', o⟩, hk, rfl⟩ := List.mem_map.mp hx
    cases o with
    | none =>
      rw [P.fin _ hk]
      exact ⟨[], .nil _, fun d h => (List.not_mem_nil h).elim⟩
    | some e =>
      obtain ⟨j, ns, hy, lt⟩ := P.st _ e.1 e.2 hk
      obtain ⟨p, w, hp⟩ := ih _ (by rw [← hm]; exact lt) e.2 hy rfl
      exact ⟨e.1 :: p, .cons j w, fun d hd => by
        rcases List.mem_cons.mp hd with rfl | hd
        · exact ns
        · exact hp d hd⟩
theorem Reg.mem {n ds shut room ks} (h : Reg n ds shut room ks) (x : Nat) : x ∈ ks.map Prod.fst ↔ ∃ p, Walk ds room p x ∧ ∀ d ∈ p, d ∉ shut := by
  constructor
  · intro hx
    obtain ⟨p, w, hp⟩ := h.pt.walk _ x hx rfl
    exact ⟨p.reverse, w.rev, fun d hd => hp d (List.mem_reverse.mp hd)⟩
  · rintro ⟨p, w, hp⟩
    exact h.df.walk w hp h.rm
theorem nodup_perm {l l' : List Nat} (a : l.Nodup) (b : l'.Nodup) (h : ∀ x, x ∈ l ↔ x ∈ l') : l.Perm l' := (List.perm_ext_iff_of_nodup a b).mpr h
theorem Reg.perm {n ds shut room ks ks'} (h : Reg n ds shut room ks) (h' : Reg n ds shut room ks') : (ks.map Prod.fst).Perm (ks'.map Prod.fst) :=
  nodup_perm h.df.nd h'.df.nd fun x => (h.mem x).trans (h'.mem x).symm
/-- each person's region, in some order -/
structure Regs (n : Nat) (ds : List (Nat × Nat)) (S : S2) (k : Nat) (Ls : List (List Nat)) : Prop where
  len : Ls.length = k
  at_ : ∀ (p : Nat) (L : List Nat), Ls[p]? = some L → ∃ ks, Reg n ds (barr S p) (S.1.getD p 0) ks ∧ L.Perm (ks.map Prod.fst)
theorem flat_perm : ∀ (Ls Ms : List (List Nat)), Ls.length = Ms.length → (∀ (p : Nat) (L M : List Nat), Ls[p]? = some L → Ms[p]? = some M → L.Perm M) → Ls.flatten.Perm Ms.flatten
  | [], [], _, _ => List.Perm.refl _
  | [], _ :: _, h, _ => by simp at h
  | _ :: _, [], h, _ => by simp at h
  | L :: Ls, M :: Ms, h, hp => by
    rw [List.flatten_cons, List.flatten_cons]
    exact (hp 0 L M rfl rfl).append (flat_perm Ls Ms (by simpa using h) fun p L' M' a b => hp (p + 1) L' M' a b)
theorem Regs.perm {n ds S k Ls Ms} (a : Regs n ds S k Ls) (b : Regs n ds S k Ms) : Ls.flatten.Perm Ms.flatten :=
  flat_perm Ls Ms (a.len.trans b.len.symm) fun p L M h1 h2 => by
    obtain ⟨ks, r1, p1⟩ := a.at_ p L h1
    obtain ⟨ks', r2, p2⟩ := b.at_ p M h2
    exact (p1.trans (r1.perm r2)).trans p2.symm
theorem Regs.snoc {n ds S k Ls L ks} (a : Regs n ds S k Ls) (r : Reg n ds (barr S k) (S.1.getD k 0) ks) (pm : L.Perm (ks.map Prod.fst)) : Regs n ds S (k + 1) (Ls ++ [L]) := by
  refine ⟨by rw [List.length_append, a.len]; rfl, fun p M h => ?_⟩
  by_cases c : p < Ls.length
  · rw [List.getElem?_append_left c] at h
    exact a.at_ p M h
  · have := get_lt h
    rw [List.length_append, List.length_singleton] at this
    have e : p = k := by have := a.len; omega
    subst e
    rw [List.getElem?_append_right (by rw [a.len]; exact Nat.le_refl _), a.len, Nat.sub_self] at h
    cases h
    exact ⟨ks, r, pm⟩
/-- no two people can meet -/
def spApart (K : PySem.W.Frag) : Sp := fun vs H Q _ => ∃ (a s : Addr) (n : Nat) (ds : List (Nat × Nat)) (S : S2), vs = [.ref a, .ref s] ∧ HouseAt K H a ds ∧ Tree n ds ∧ n ≤ 60 ∧ StateAt K H s S ∧ StOk n ds S ∧
  ∀ (H' : Hp) (Ls : List (List Nat)), Same H H' → Regs n ds S S.1.length Ls → Q (.bl (decide Ls.flatten.Nodup)) H'
section
variable {P : Program} {w : World} {K : PySem.W.Frag}
      {mg : Str → Option Value} {base : Heap}
theorem ok_is_apart (T : Bl mg) (D : Def K mg "is_apart" s_is_apart) (C_need_state : Cal P w K mg base "need_state" ["house", "state"] 7 (spSt K)) (C_region_ways : Cal P w K mg base "region_ways" ["house", "state", "person"] 3 (spRegWays K)) :
    CalK P w K mg base "is_apart" ["house", "state"] 8 (spApart K) ["state", "house"] rev2 rev2 := by
  refine D.okK sc_is_apart (fun _ _ _ _ _ _ us ws hl => match us, ws, hl with | [], [_, _], _ => rfl) rev2_vals (fun _ _ _ _ _ _ us hl => match us, hl with | [_, _], _ => rfl) (fun vs H Q E h => ?_) (fun f cdv A outer s H vs Q E hr h => ?_)
  · obtain ⟨a, s, n, ds, S, rfl, _⟩ := h
    rfl
  obtain ⟨a, s, n, ds, S, rfl, hH, tree, hn, st, ok, q⟩ := h
  obtain ⟨r, b, h1, h2, h3⟩ := id st
  have few := ok.few
  obtain ⟨f_need_state, fd_need_state, g_need_state, k_need_state, b_need_state, G_need_state⟩ := C_need_state
  obtain ⟨f_region_ways, fd_region_ways, g_region_ways, k_region_ways, b_region_ways, G_region_ways⟩ := C_region_ways
  refine ⟨_, (pss_cons (ps_expr (pe_call G_need_state (hr.mono (by decide)) (by rfl) g_need_state k_need_state b_need_state .nil pass0 (pa_cons (pv 0) (pa_cons (pv 1) pa_nil))))
    (pss_cons (ps_set (i := 2) sc_is_apart.nd rfl (.inl rfl) (pe_lst pa_nil))
    (pss_cons (ps_for PassesOwn.never rfl (pi_range1 rfl T.range (pa_cons (pe_callB call_len_seq (by rfl) T.len PySem.boot_len (pa_cons (pe_ix ix_tup (pv 1) pe_int (fun _ _ => rfl)) pa_nil)) pa_nil)) (pg_name (i := 3) sc_is_apart.nd rfl (.inl rfl))
    (pss_one (ps_expr (pe_bm PySem.F.plainAttrs_list PySem.F.slot_list_extend PySem.F.type_list_extend mt_extend (pv 2) (pa_cons (pe_callTy (call_listD rfl) (by rfl) T.list (by decide +kernel) (pa_cons (pe_call G_region_ways (hr.mono (by decide)) (by rfl) g_region_ways k_region_ways b_region_ways .nil pass0 (pa_cons (pv 0) (pa_cons (pv 1) (pa_cons (pv 3) pa_nil)))) pa_nil)) pa_nil)))))
    (pss_one (ps_ret (pe_cmpR op_eq (pe_lenSetA rfl (by rfl) T.len (by rfl) T.set (pv 2)) (pe_callB call_len_seq (by rfl) T.len PySem.boot_len (pa_cons (pv 2) pa_nil)) (nomark _))))))), ?_⟩
  refine ⟨_, rfl, _, rfl, a, s, ds, n, S, rfl, hH, tree, by omega, st, ok, fun H1 s1 => ?_⟩
  refine ⟨Nat.zero_le _, fun pd npd => ?_⟩
  have sp1 := s1.trans (Same.upd (o := .lst []) npd)
  have npd0 := s1.free npd
  refine ⟨_, rfl, s, _, _, _, rfl, rfl, sp1.tup h1, atI_nat (j := 0) rfl, _, _, rfl, .inr (sp1.tup h2), (S.1.length : Int), congrArg (fun z : Nat => [V.int (z : Int)]) (nv_len _), by omega, by omega, ?_⟩
  refine for_range (lo := 0) (n := S.1.length) (fun k σ H2 => ∃ Ls y3, σ = [some (.ref a), some (.ref s), some (.ref pd), y3] ∧ Same H H2 ∧ H2 pd = some (.lst (nv Ls.flatten)) ∧ Regs n ds S k Ls ∧ Ls.flatten.length ≤ n * k)
    ⟨[], _, rfl, sp1, upd_same, ⟨rfl, fun p L h => by simp at h⟩, Nat.zero_le _⟩ ?_ ?_
  · rintro k σ H2 hk ⟨Ls, y3, rfl, sm, hp, rg, le⟩
    rw [Int.zero_add]
    refine ⟨_, rfl, .inl ⟨rfl, _, SqL.of hp⟩, _, rfl, _, rfl, _, rfl, a, s, k, n, ds, S, rfl, hH.same sm, tree, by omega, st.same sm, ok, hk, fun H3 q3 kvs ks s3 nq3 hq3 r3 rg3 => ?_⟩
    refine ⟨q3, kvs, rfl, .inl hq3, fun p4 np4 => ?_⟩
    have s4 := s3.trans (Same.upd (o := .lst (kvs.map fun kv => kV kv.1)) np4)
    have ek : (kvs.map fun kv => kV kv.1) = nv (ks.map Prod.fst) := by
      have e := r3.keys
      have e2 : (kvs.map fun kv => kV kv.1) = (kvs.map (·.1)).map kV := by rw [List.map_map]; rfl
      rw [e2, e, List.map_map, List.map_map, nv]
      rfl
    rw [ek] at s4 ⊢
    have l3 := rg3.le
    have nk : n * k ≤ 60 * 10 := Nat.mul_le_mul hn (by omega)
    refine ⟨pd, p4, _, _, rfl, rfl, s4 _ _ hp, upd_same, ?_, ?_⟩
    · rw [nv_len, nv_len, List.length_map]
      exact Nat.le_of_lt (small1000 (by omega))
    · refine ⟨Ls ++ [ks.map Prod.fst], _, rfl, (sm.trans s4).at npd0, ?_, rg.snoc rg3 (List.Perm.refl _), ?_⟩
      · rw [upd_same, List.flatten_append, List.flatten_cons, List.flatten_nil, List.append_nil]
        unfold nv
        rw [List.map_append]
      · rw [List.flatten_append, List.length_append, List.flatten_cons, List.flatten_nil, List.append_nil, List.length_map, Nat.mul_succ]
        omega
  · rintro σ H2 ⟨Ls, y3, rfl, sm, hp, rg, le⟩
    have nk : n * S.1.length ≤ 60 * 10 := Nat.mul_le_mul hn (by omega)
    refine ⟨_, rfl, pd, Ls.flatten.map (fun x : Nat => (x : Int)), rfl, by rw [← nv_int]; exact SqL.of hp, ?_, fun m hm1 hm2 => ?_⟩
    · rw [List.length_map]
      exact Nat.lt_of_le_of_lt (by omega : Ls.flatten.length + 1 ≤ 1000) (by decide)
    · refine ⟨_, rfl, _, _, rfl, .inl (SqL.of hp), rfl, ?_⟩
      have nodup_iff : (Ls.flatten.map fun x : Nat => (x : Int)).Nodup ↔ Ls.flatten.Nodup := by
        unfold List.Nodup
        rw [List.pairwise_map]
        exact ⟨fun h => h.imp fun z e => z (by rw [e]), fun h => h.imp fun z e => z (by omega)⟩
      have e : decide (V.int (m : Int) = V.int (((nv Ls.flatten).length : Nat) : Int)) = decide Ls.flatten.Nodup := by
        rw [nv_len]
        by_cases c : Ls.flatten.Nodup
        · have := hm1 (nodup_iff.mpr c)
          rw [List.length_map] at this
          rw [decide_eq_true c, decide_eq_true (by rw [this])]
        · have := hm2 fun z => c (nodup_iff.mp z)
          rw [List.length_map] at this
          rw [decide_eq_false c, decide_eq_false fun z => by have := V.int.inj z; omega]
      show Q (.bl (decide (V.int (m : Int) = V.int (((nv Ls.flatten).length : Nat) : Int)))) H2
      rw [e]
      exact q H2 Ls sm rg
end
end K5

namespace K5
open PySem PySem.Spec PyProof.Rows L2
/-! what can come about: people placed in their regions, people gathered, apart people -/
inductive Rc (ds : List (Nat × Nat)) (S : S2) : S2 → Prop
  | refl : Rc ds S S
  | step {A : S2} {m : Mv} : Rc ds S A → Can ds A m → Rc ds S (nxt ds A m)
theorem Rc.trans {ds : List (Nat × Nat)} {S A B : S2} (h : Rc ds S A) (k : Rc ds A B) : Rc ds S B := by
  induction k with
  | refl => exact h
  | step _ c ih => exact .step ih c
theorem Rc.ok {n : Nat} {ds : List (Nat × Nat)} {S A : S2} (T : Tree n ds) (h : Rc ds S A) (o : StOk n ds S) : StOk n ds A := by
  induction h with
  | refl => exact o
  | step _ c ih => exact ih.nxt T c.vm
theorem Rc.len {ds : List (Nat × Nat)} {S A : S2} (h : Rc ds S A) : A.1.length = S.1.length := by
  induction h with
  | refl => rfl
  | step _ c ih => rw [nxt_len, ih]
/-- a move through a known door -/
theorem go {n : Nat} {ds : List (Nat × Nat)} {S : S2} {p u v d : Nat} (T : Tree n ds) (o : StOk n ds S) (hp : S.1[p]? = some u) (j : Joins ds d u v) (nb : S.2[d]? ≠ some p) :
    Rc ds S (S.1.set p v, S.2.set d p) ∧ (S.2.set d p)[d]? = some p ∧ ∀ e, e ≠ d → (S.2.set d p)[e]? = S.2[e]? := by
  have c : Can ds S (p, u, v) := ⟨get_lt hp, hp, d, j, nb⟩
  have e : nxt ds S (p, u, v) = (S.1.set p v, S.2.set d p) := by
    show (S.1.set p v, S.2.set (dix ds u v) p) = _
    rw [dix_is T j]
  refine ⟨e ▸ Rc.step .refl c, List.getElem?_set_self (by rw [o.doors]; exact joins_lt j), fun e ne => List.getElem?_set_ne (Ne.symm ne)⟩
theorem short {ds : List (Nat × Nat)} {a b : Nat} {w : List Nat} (h : Walk ds a w b) : ∃ w', Walk ds a w' b ∧ w'.Nodup ∧ ∀ e ∈ w', e ∈ w := by
  induction h with
  | nil a => exact ⟨[], .nil _, List.nodup_nil, fun _ h => h⟩
  | @cons a c b d p j w ih =>
    obtain ⟨w', h1, h2, h3⟩ := ih
    by_cases hd : d ∈ w'
    · obtain ⟨p1, p2, x, y, rfl, w1, j1, w2⟩ := h1.split hd
      obtain ⟨n1, n2, n3⟩ := List.nodup_append.mp h2
      obtain ⟨n4, n5⟩ := List.nodup_cons.mp n2
      have sub : ∀ e ∈ p2, e ∈ d :: p := fun e he => List.mem_cons_of_mem _ (h3 e (List.mem_append_right _ (List.mem_cons_of_mem _ he)))
      have ya : y = a ∨ y = c := by
        rcases j with q | q <;> rcases j1 with r | r <;> rw [q] at r <;> cases r
        · exact .inr rfl
        · exact .inl rfl
        · exact .inl rfl
        · exact .inr rfl
      rcases ya with rfl | rfl
      · exact ⟨p2, w2, n5, sub⟩
      · exact ⟨d :: p2, .cons j w2, List.nodup_cons.mpr ⟨n4, n5⟩, fun e he => by
          rcases List.mem_cons.mp he with rfl | he
          · exact List.mem_cons_self
          · exact sub e he⟩
    · exact ⟨d :: w', .cons j h1, List.nodup_cons.mpr ⟨hd, h2⟩, fun e he => by
        rcases List.mem_cons.mp he with rfl | he
        · exact List.mem_cons_self
        · exact List.mem_cons_of_mem _ (h3 e he)⟩
theorem walk_of {n : Nat} {ds : List (Nat × Nat)} (T : Tree n ds) {a b : Nat} (ha : a < n) (hb : b < n) : ∃ w, Walk ds a w b :=
  T.conn (fun z => ∃ w, Walk ds a w z) (fun e he => by
    obtain ⟨k, hk⟩ := List.mem_iff_getElem?.mp he
    exact ⟨fun ⟨w, h⟩ => ⟨w ++ [k], h.snoc (.inl hk)⟩, fun ⟨w, h⟩ => ⟨w ++ [k], h.snoc (.inr hk)⟩⟩) a b ha hb ⟨[], .nil _⟩
theorem run_walk {n : Nat} {ds : List (Nat × Nat)} (T : Tree n ds) {p u v : Nat} {w : List Nat} (h : Walk ds u w v) : ∀ S : S2, StOk n ds S → w.Nodup → S.1[p]? = some u → (∀ e ∈ w, S.2[e]? ≠ some p) →
    ∃ A, Rc ds S A ∧ A.1 = S.1.set p v ∧ (∀ e, e ∉ w → A.2[e]? = S.2[e]?) ∧ ∀ e ∈ w, A.2[e]? = some p := by
  induction h with
  | nil a =>
    intro S o _ hp _
    refine ⟨S, .refl, ?_, fun _ _ => rfl, fun _ h => nomatch h⟩
    apply List.ext_getElem?
    intro i
    by_cases c : p = i
    · subst c
      rw [List.getElem?_set_self (get_lt hp), hp]
    · rw [List.getElem?_set_ne c]
  | @cons a c b d q j w ih =>
    intro S o nd hp nb
    obtain ⟨n1, n2⟩ := List.nodup_cons.mp nd
    obtain ⟨r1, b1, b2⟩ := go T o hp j (nb d List.mem_cons_self)
    obtain ⟨A, r2, e1, e2, e3⟩ := ih (S.1.set p c, S.2.set d p) (r1.ok T o) n2 (List.getElem?_set_self (get_lt hp)) fun e he => by
      rw [b2 e (fun z => n1 (z ▸ he))]
      exact nb e (List.mem_cons_of_mem _ he)
    refine ⟨A, r1.trans r2, ?_, fun e he => ?_, fun e he => ?_⟩
    · rw [e1]
      show (S.1.set p c).set p b = _
      rw [List.set_set]
    · rw [e2 e (fun z => he (List.mem_cons_of_mem _ z))]
      exact b2 e (fun z => he (z ▸ List.mem_cons_self))
    · rcases List.mem_cons.mp he with rfl | he
      · by_cases c : e ∈ q
        · exact e3 e c
        · rw [e2 e c]
          exact b1
      · exact e3 e he
/-- the rooms that p can reach alone -/
def Rg (ds : List (Nat × Nat)) (S : S2) (p x : Nat) : Prop := ∃ u w, S.1[p]? = some u ∧ Walk ds u w x ∧ ∀ e ∈ w, S.2[e]? ≠ some p
theorem Rg.here {ds : List (Nat × Nat)} {S : S2} {p u : Nat} (h : S.1[p]? = some u) : Rg ds S p u := ⟨u, [], h, .nil _, fun _ h => nomatch h⟩
theorem Rg.on {ds : List (Nat × Nat)} {S : S2} {p x y d : Nat} (h : Rg ds S p x) (j : Joins ds d x y) (nb : S.2[d]? ≠ some p) : Rg ds S p y := by
  obtain ⟨u, w, h1, h2, h3⟩ := h
  exact ⟨u, w ++ [d], h1, h2.snoc j, fun e he => by
    rcases List.mem_append.mp he with he | he
    · exact h3 e he
    · rw [List.mem_singleton.mp he]
      exact nb⟩
/-- every person in some room of its region -/
theorem place {n : Nat} {ds : List (Nat × Nat)} {S : S2} (T : Tree n ds) (o : StOk n ds S) {rooms : List Nat} (hl : rooms.length = S.1.length) (h : ∀ p x, rooms[p]? = some x → Rg ds S p x) : ∃ A, Rc ds S A ∧ A.1 = rooms := by
  have key : ∀ k, k ≤ S.1.length → ∃ A, Rc ds S A ∧ (∀ p : Nat, A.1[p]? = if p < k then rooms[p]? else S.1[p]?) ∧ ∀ (p e : Nat), k ≤ p → A.2[e]? = some p → S.2[e]? = some p := by
    intro k
    induction k with
    | zero => exact fun _ => ⟨S, .refl, fun p => by rw [if_neg (Nat.not_lt_zero p)], fun _ _ _ h => h⟩
    | succ k ih =>
      intro hk
      obtain ⟨A, r, a1, a2⟩ := ih (by omega)
      obtain ⟨x, hx⟩ : ∃ x, rooms[k]? = some x := get_of rfl (by omega)
      obtain ⟨u, w0, h1, h2, h3⟩ := h k x hx
      obtain ⟨w, w1, w2, w3⟩ := short h2
      obtain ⟨B, r2, b1, b2, b3⟩ := run_walk T w1 (p := k) A (r.ok T o) w2 (by rw [a1, if_neg (Nat.lt_irrefl k)]; exact h1) fun e he z => h3 e (w3 e he) (a2 k e (Nat.le_refl _) z)
      refine ⟨B, r.trans r2, fun p => ?_, fun p e hp z => ?_⟩
      · rw [b1]
        by_cases c : k = p
        · subst c
          rw [List.getElem?_set_self (by rw [r.len]; omega), if_pos (Nat.lt_succ_self _), hx]
        · rw [List.getElem?_set_ne c, a1]
          by_cases c2 : p < k
          · rw [if_pos c2, if_pos (by omega)]
          · rw [if_neg c2, if_neg (by omega)]
      · by_cases he : e ∈ w
        · rw [b3 e he] at z
          have := Option.some.inj z
          omega
        · rw [b2 e he] at z
          exact a2 p e (by omega) z
  obtain ⟨A, r, a1, _⟩ := key S.1.length (Nat.le_refl _)
  refine ⟨A, r, List.ext_getElem? fun p => ?_⟩
  rw [a1]
  by_cases c : p < S.1.length
  · rw [if_pos c]
  · rw [if_neg c, List.getElem?_eq_none (by omega), List.getElem?_eq_none (by omega)]
/-- a group goes through a door, one by one -/
theorem through {n : Nat} {ds : List (Nat × Nat)} (T : Tree n ds) {d u v : Nat} (j : Joins ds d u v) : ∀ (L : List Nat) (S : S2), StOk n ds S → L.Nodup → (∀ y ∈ L, S.1[y]? = some u) → (∀ y, L.head? = some y → S.2[d]? ≠ some y) →
    ∃ A, Rc ds S A ∧ (∀ y ∈ L, A.1[y]? = some v) ∧ ∀ y, y ∉ L → A.1[y]? = S.1[y]?
  | [], S, _, _, _, _ => ⟨S, .refl, fun _ h => (nomatch h), fun _ _ => rfl⟩
  | y :: L, S, o, nd, hu, hd => by
    obtain ⟨n1, n2⟩ := List.nodup_cons.mp nd
    have hy := hu y List.mem_cons_self
    obtain ⟨r1, b1, b2⟩ := go T o hy j (hd y rfl)
    obtain ⟨A, r2, a1, a2⟩ := through T j L (S.1.set y v, S.2.set d y) (r1.ok T o) n2 (fun z hz => by
      show (S.1.set y v)[z]? = _
      rw [List.getElem?_set_ne (fun e : y = z => n1 (by rw [e]; exact hz))]
      exact hu z (List.mem_cons_of_mem _ hz)) (fun z hz q => by
      have q : (S.2.set d y)[d]? = some z := q
      rw [b1] at q
      have e := Option.some.inj q
      subst e
      cases L with
      | nil => cases hz
      | cons a r =>
        cases hz
        exact n1 List.mem_cons_self)
    refine ⟨A, r1.trans r2, fun z hz => ?_, fun z hz => ?_⟩
    · rcases List.mem_cons.mp hz with rfl | hz
      · rw [a2 z n1]
        exact List.getElem?_set_self (get_lt hy)
      · exact a1 z hz
    · rw [a2 z (fun q => hz (List.mem_cons_of_mem _ q))]
      exact List.getElem?_set_ne (fun e : y = z => hz (by rw [← e]; exact List.mem_cons_self))
theorem pass {n : Nat} {ds : List (Nat × Nat)} (T : Tree n ds) {d u v : Nat} (j : Joins ds d u v) {L : List Nat} {S : S2} (o : StOk n ds S) (nd : L.Nodup) (two : 2 ≤ L.length) (hu : ∀ y ∈ L, S.1[y]? = some u) :
    ∃ A, Rc ds S A ∧ (∀ y ∈ L, A.1[y]? = some v) ∧ ∀ y, y ∉ L → A.1[y]? = S.1[y]? := by
  match L, two with
  | a :: b :: r, _ =>
    by_cases c : S.2[d]? = some a
    · obtain ⟨n1, n2⟩ := List.nodup_cons.mp nd
      obtain ⟨n3, n4⟩ := List.nodup_cons.mp n2
      have ab : a ≠ b := fun z => n1 (z ▸ List.mem_cons_self)
      have sw : ∀ y, y ∈ b :: a :: r ↔ y ∈ a :: b :: r := fun y => by
        simp only [List.mem_cons]
        exact ⟨fun h => by rcases h with h | h | h <;> simp [h], fun h => by rcases h with h | h | h <;> simp [h]⟩
      obtain ⟨A, r1, a1, a2⟩ := through T j (b :: a :: r) S o (List.nodup_cons.mpr ⟨fun z => by
        rcases List.mem_cons.mp z with z | z
        · exact ab z.symm
        · exact n3 z, List.nodup_cons.mpr ⟨fun z => n1 (List.mem_cons_of_mem _ z), n4⟩⟩) (fun y hy => hu y ((sw y).mp hy)) (fun y hy => by
        cases hy
        rw [c]
        exact fun z => ab (Option.some.inj z))
      exact ⟨A, r1, fun y hy => a1 y ((sw y).mpr hy), fun y hy => a2 y fun z => hy ((sw y).mp z)⟩
    · exact through T j (a :: b :: r) S o nd hu fun y hy => by
        cases hy
        exact c
theorem travel {n : Nat} {ds : List (Nat × Nat)} (T : Tree n ds) {L : List Nat} (nd : L.Nodup) (two : 2 ≤ L.length) {u v : Nat} {w : List Nat} (h : Walk ds u w v) : ∀ S : S2, StOk n ds S → (∀ y ∈ L, S.1[y]? = some u) →
    ∃ A, Rc ds S A ∧ (∀ y ∈ L, A.1[y]? = some v) ∧ ∀ y, y ∉ L → A.1[y]? = S.1[y]? := by
  induction h with
  | nil a => exact fun S _ h => ⟨S, .refl, h, fun _ _ => rfl⟩
  | cons j w ih =>
    intro S o hu
    obtain ⟨A, r1, a1, a2⟩ := pass T j o nd two hu
    obtain ⟨B, r2, b1, b2⟩ := ih A (r1.ok T o) a1
    exact ⟨B, r1.trans r2, b1, fun y hy => (b2 y hy).trans (a2 y hy)⟩
theorem collect {n : Nat} {ds : List (Nat × Nat)} (T : Tree n ds) : ∀ (k : Nat) (L : List Nat) (S : S2) (u : Nat), k + L.length = S.1.length → StOk n ds S → L.Nodup → 2 ≤ L.length → (∀ y ∈ L, S.1[y]? = some u) →
    ∃ A v, Rc ds S A ∧ ∀ y, y < S.1.length → A.1[y]? = some v := by
  intro k
  induction k with
  | zero =>
    intro L S u hk o nd two hu
    refine ⟨S, u, .refl, fun y hy => hu y ?_⟩
    refine Classical.byContradiction fun z => ?_
    have := nodup_le S.1.length (y :: L) (List.nodup_cons.mpr ⟨z, nd⟩) fun x hx => by
      rcases List.mem_cons.mp hx with rfl | hx
      · exact hy
      · exact get_lt (hu x hx)
    rw [List.length_cons] at this
    omega
  | succ k ih =>
    intro L S u hk o nd two hu
    obtain ⟨r, hr, nr⟩ : ∃ r, r < S.1.length ∧ r ∉ L := by
      refine Classical.byContradiction fun z => ?_
      have all : ∀ r, r < S.1.length → r ∈ L := fun r hr => Classical.byContradiction fun q => z ⟨r, hr, q⟩
      have : (List.range S.1.length).length ≤ L.length := by
        have sub : ∀ (A B : List Nat), A.Nodup → (∀ x ∈ A, x ∈ B) → A.length ≤ B.length := by
          intro A
          induction A with
          | nil => exact fun _ _ _ => Nat.zero_le _
          | cons a s ih2 =>
            intro B nd2 h
            obtain ⟨m1, m2⟩ := List.nodup_cons.mp nd2
            have ha := h a List.mem_cons_self
            have := ih2 (B.erase a) m2 fun x hx => (List.mem_erase_of_ne (fun e : x = a => m1 (by rw [← e]; exact hx))).mpr (h x (List.mem_cons_of_mem _ hx))
            rw [List.length_erase_of_mem ha] at this
            have := List.length_pos_of_mem ha
            rw [List.length_cons]
            omega
        exact sub _ _ List.nodup_range fun x hx => all x (List.mem_range.mp hx)
      rw [List.length_range] at this
      omega
    obtain ⟨x, hx⟩ : ∃ x, S.1[r]? = some x := get_of rfl hr
    obtain ⟨a, ha⟩ : ∃ a, a ∈ L := by
      cases L with
      | nil => simp at two
      | cons a s => exact ⟨a, List.mem_cons_self⟩
    have un := o.rooms u (List.mem_of_getElem? (hu a ha))
    have xn := o.rooms x (List.mem_of_getElem? hx)
    obtain ⟨w, hw⟩ := walk_of T un xn
    obtain ⟨A, r1, a1, a2⟩ := travel T nd two hw S o hu
    obtain ⟨B, v, r2, b⟩ := ih (r :: L) A x (by rw [List.length_cons, r1.len]; omega) (r1.ok T o) (List.nodup_cons.mpr ⟨nr, nd⟩) (by rw [List.length_cons]; omega) fun y hy => by
      rcases List.mem_cons.mp hy with rfl | hy
      · rw [a2 y nr]
        exact hx
      · exact a1 y hy
    exact ⟨B, v, r1.trans r2, fun y hy => b y (by rw [r1.len]; exact hy)⟩
/-- two who can meet: all can be in any room -/
theorem gather {n : Nat} {ds : List (Nat × Nat)} {S : S2} (T : Tree n ds) (o : StOk n ds S) {p q z t : Nat} (pq : p ≠ q) (hp : Rg ds S p z) (hq : Rg ds S q z) (ht : t < n) : ∃ A, Rc ds S A ∧ A.1 = List.replicate S.1.length t := by
  have lp : p < S.1.length := by obtain ⟨u, w, h, _⟩ := hp; exact get_lt h
  have lq : q < S.1.length := by obtain ⟨u, w, h, _⟩ := hq; exact get_lt h
  obtain ⟨A, r1, a1⟩ := place T o (rooms := (S.1.set p z).set q z) (by rw [List.length_set, List.length_set]) fun y x hx => by
    by_cases c : q = y
    · subst c
      rw [List.getElem?_set_self (by rw [List.length_set]; exact lq)] at hx
      cases hx
      exact hq
    · rw [List.getElem?_set_ne c] at hx
      by_cases c2 : p = y
      · subst c2
        rw [List.getElem?_set_self lp] at hx
        cases hx
        exact hp
      · rw [List.getElem?_set_ne c2] at hx
        exact .here hx
  have o1 := r1.ok T o
  have two : 2 ≤ S.1.length := by omega
  have hA : ∀ y ∈ [p, q], A.1[y]? = some z := fun y hy => by
    rw [a1]
    rcases List.mem_cons.mp hy with rfl | hy
    · rw [List.getElem?_set_ne (Ne.symm pq), List.getElem?_set_self lp]
    · rw [List.mem_singleton.mp hy, List.getElem?_set_self (by rw [List.length_set]; exact lq)]
  obtain ⟨B, v, r2, b⟩ := collect T (A.1.length - 2) [p, q] A z (by rw [r1.len]; show S.1.length - 2 + 2 = _; omega) o1 (by simp [pq]) (Nat.le_refl _) hA
  have o2 := r2.ok T o1
  have lB := r2.len.trans r1.len
  have bA : ∀ y ∈ List.range S.1.length, B.1[y]? = some v := fun y hy => b y (by rw [r1.len]; exact List.mem_range.mp hy)
  have vn := o2.rooms v (List.mem_of_getElem? (bA p (List.mem_range.mpr lp)))
  obtain ⟨w, hw⟩ := walk_of T vn ht
  obtain ⟨C, r3, c1, _⟩ := travel T List.nodup_range (by rw [List.length_range]; exact two) hw B o2 bA
  refine ⟨C, (r1.trans r2).trans r3, List.ext_getElem? fun y => ?_⟩
  by_cases c : y < S.1.length
  · rw [c1 y (List.mem_range.mpr c), List.getElem?_replicate, if_pos c]
  · rw [List.getElem?_eq_none (by rw [r3.len, lB]; omega), List.getElem?_eq_none (by rw [List.length_replicate]; omega)]
end K5

namespace K5
open PySem PySem.Spec PyProof.Rows L2
/-- no room belongs to two -/
def Apt (ds : List (Nat × Nat)) (S : S2) : Prop := ∀ p q x, Rg ds S p x → Rg ds S q x → p = q
theorem Can.is {n : Nat} {ds : List (Nat × Nat)} {S : S2} {m : Mv} (T : Tree n ds) (o : StOk n ds S) (c : Can ds S m) : ∃ d, Joins ds d m.2.1 m.2.2 ∧ S.1[m.1]? = some m.2.1 ∧ S.2[d]? ≠ some m.1 ∧ (nxt ds S m).1 = S.1.set m.1 m.2.2 ∧
    (nxt ds S m).2[d]? = some m.1 ∧ ∀ e, e ≠ d → (nxt ds S m).2[e]? = S.2[e]? := by
  obtain ⟨h1, h2, d, j, h3⟩ := c
  have ed := dix_is T j
  refine ⟨d, j, h2, h3, rfl, ?_, fun e ne => ?_⟩
  · show (S.2.set (dix ds m.2.1 m.2.2) m.1)[d]? = _
    rw [ed]
    exact List.getElem?_set_self (by rw [o.doors]; exact joins_lt j)
  · show (S.2.set (dix ds m.2.1 m.2.2) m.1)[e]? = _
    rw [ed]
    exact List.getElem?_set_ne (Ne.symm ne)
theorem ends_of {ds : List (Nat × Nat)} {d u v x y : Nat} (j : Joins ds d u v) (k : Joins ds d x y) : u = x ∨ u = y := by
  rcases j with q | q <;> rcases k with r | r <;> rw [q] at r <;> cases r
  · exact .inl rfl
  · exact .inr rfl
  · exact .inr rfl
  · exact .inl rfl
/-- who uses the door within its region reaches both its ends -/
theorem Rg.ends {ds : List (Nat × Nat)} {S : S2} {q a x d u v : Nat} {w : List Nat} (h1 : S.1[q]? = some a) (h2 : Walk ds a w x) (h3 : ∀ e ∈ w, S.2[e]? ≠ some q) (hd : d ∈ w) (j : Joins ds d u v) : Rg ds S q u := by
  obtain ⟨p1, p2, x', y', rfl, w1, j1, w2⟩ := h2.split hd
  have r1 : Rg ds S q x' := ⟨a, p1, h1, w1, fun e he => h3 e (List.mem_append_left _ he)⟩
  rcases ends_of j j1 with e | e
  · rw [e]; exact r1
  · rw [e]; exact r1.on j1 (h3 d hd)
theorem Apt.step {n : Nat} {ds : List (Nat × Nat)} {S : S2} {m : Mv} (T : Tree n ds) (o : StOk n ds S) (a : Apt ds S) (c : Can ds S m) {q x : Nat} (h : Rg ds (nxt ds S m) q x) : Rg ds S q x := by
  obtain ⟨d, j, hp, nb, e1, b1, b2⟩ := c.is T o
  have pu : Rg ds S m.1 m.2.1 := .here hp
  obtain ⟨u, w0, h1, h2, h3⟩ := h
  obtain ⟨w, w1, w2, w3⟩ := short h2
  have h3 : ∀ e ∈ w, (nxt ds S m).2[e]? ≠ some q := fun e he => h3 e (w3 e he)
  rw [e1] at h1
  by_cases cq : m.1 = q
  · subst cq
    rw [List.getElem?_set_self (get_lt hp)] at h1
    cases h1
    refine ⟨m.2.1, d :: w, hp, .cons j w1, fun e he => ?_⟩
    rcases List.mem_cons.mp he with rfl | he
    · exact nb
    · have ne : e ≠ d := fun z => h3 e he (z ▸ b1)
      rw [← b2 e ne]
      exact h3 e he
  · rw [List.getElem?_set_ne cq] at h1
    by_cases cd : d ∈ w
    · obtain ⟨p1, p2, x', y', rfl, v1, j1, v2⟩ := w1.split cd
      have nd1 : d ∉ p1 := fun z => (List.nodup_append.mp w2).2.2 d z d List.mem_cons_self rfl
      have r1 : Rg ds S q x' := ⟨u, p1, h1, v1, fun e he => by
        have ne : e ≠ d := fun z => nd1 (z ▸ he)
        rw [← b2 e ne]
        exact h3 e (List.mem_append_left _ he)⟩
      have : Rg ds S m.1 x' := by
        rcases ends_of j1 j with e | e
        · rw [e]; exact pu
        · rw [e]; exact pu.on j nb
      exact absurd (a _ _ _ this r1) cq
    · exact ⟨u, w, h1, w1, fun e he => by
        have ne : e ≠ d := fun z => cd (z ▸ he)
        rw [← b2 e ne]
        exact h3 e he⟩
theorem Apt.next {n : Nat} {ds : List (Nat × Nat)} {S : S2} {m : Mv} (T : Tree n ds) (o : StOk n ds S) (a : Apt ds S) (c : Can ds S m) : Apt ds (nxt ds S m) := fun p q x h1 h2 => a p q x (a.step T o c h1) (a.step T o c h2)
/-- apart: where the people are tells whom the doors bar -/
structure Told (ds : List (Nat × Nat)) (S A : S2) : Prop where
  len : A.1.length = S.1.length
  ways : ∀ p v : Nat, A.1[p]? = some v → ∃ u w, S.1[p]? = some u ∧ Walk ds u w v ∧ w.Nodup ∧ (∀ e ∈ w, S.2[e]? ≠ some p) ∧ ∀ e ∈ w, A.2[e]? = some p
  rest : ∀ e : Nat, (∀ (p u v : Nat) (w : List Nat), S.1[p]? = some u → A.1[p]? = some v → Walk ds u w v → w.Nodup → e ∉ w) → A.2[e]? = S.2[e]?
theorem told {n : Nat} {ds : List (Nat × Nat)} {S A : S2} (T : Tree n ds) (o : StOk n ds S) (a : Apt ds S) (h : Rc ds S A) : Told ds S A := by
  induction h with
  | refl => exact ⟨rfl, fun p v h => ⟨v, [], h, .nil _, List.nodup_nil, (fun _ h => nomatch h), (fun _ h => nomatch h)⟩, fun _ _ => rfl⟩
  | @step A m r c ih =>
    have oA := r.ok T o
    obtain ⟨d, j, hp, nb, e1, b1, b2⟩ := c.is T oA
    obtain ⟨u0, w, hu, hw, nw, out, bars⟩ := ih.ways _ _ hp
    have dw : d ∉ w := fun z => nb (bars d z)
    have here : Rg ds S m.1 m.2.1 := ⟨u0, w, hu, hw, out⟩
    -- nobody else came through d
    have else_ : ∀ (q u v : Nat) (w' : List Nat), q ≠ m.1 → S.1[q]? = some u → A.1[q]? = some v → Walk ds u w' v → w'.Nodup → d ∉ w' := fun q u v w' ne h1 h2 h3 h4 z => by
      obtain ⟨u2, w2, g1, g2, g3, g4, g5⟩ := ih.ways q v h2
      rw [h1] at g1
      cases g1
      have := way_unique T h3 g2 h4 g3
      subst this
      have r2 : Rg ds S q m.2.1 := Rg.ends h1 h3 g4 z j
      exact ne (a _ _ _ r2 here)
    have sd : S.2[d]? ≠ some m.1 := by
      have : A.2[d]? = S.2[d]? := ih.rest d fun p u v w' h1 h2 h3 h4 => by
        by_cases cp : p = m.1
        · subst cp
          rw [hu] at h1
          cases h1
          rw [hp] at h2
          cases h2
          rw [way_unique T h3 hw h4 nw]
          exact dw
        · exact else_ p u v w' cp h1 h2 h3 h4
      rw [← this]
      exact nb
    have nwd : (w ++ [d]).Nodup := List.nodup_append.mpr ⟨nw, by simp, fun x hx y hy z => dw (by rw [List.mem_singleton] at hy; rw [← hy, ← z]; exact hx)⟩
    refine ⟨by rw [e1, List.length_set]; exact ih.len, fun p v hv => ?_, fun e he => ?_⟩
    · rw [e1] at hv
      by_cases cp : m.1 = p
      · subst cp
        rw [List.getElem?_set_self (get_lt hp)] at hv
        cases hv
        refine ⟨u0, w ++ [d], hu, hw.snoc j, nwd, fun e he => ?_, fun e he => ?_⟩
        · rcases List.mem_append.mp he with he | he
          · exact out e he
          · rw [List.mem_singleton.mp he]
            exact sd
        · rcases List.mem_append.mp he with he | he
          · rw [b2 e (fun z => dw (z ▸ he))]
            exact bars e he
          · rw [List.mem_singleton.mp he]
            exact b1
      · rw [List.getElem?_set_ne cp] at hv
        obtain ⟨u2, w2, g1, g2, g3, g4, g5⟩ := ih.ways p v hv
        refine ⟨u2, w2, g1, g2, g3, g4, fun e he => ?_⟩
        rw [b2 e (fun z => else_ p u2 v w2 (Ne.symm cp) g1 hv g2 g3 (z ▸ he))]
        exact g5 e he
    · have ed : e ≠ d := fun z => he m.1 u0 m.2.2 (w ++ [d]) hu (by rw [e1]; exact List.getElem?_set_self (get_lt hp)) (hw.snoc j) nwd (z ▸ List.mem_append_right _ List.mem_cons_self)
      rw [b2 e ed]
      refine ih.rest e fun p u v w' h1 h2 h3 h4 z => ?_
      by_cases cp : m.1 = p
      · subst cp
        rw [hu] at h1
        cases h1
        rw [hp] at h2
        cases h2
        have := way_unique T h3 hw h4 nw
        subst this
        exact he m.1 u0 m.2.2 (w' ++ [d]) hu (by rw [e1]; exact List.getElem?_set_self (get_lt hp)) (hw.snoc j) nwd (List.mem_append_left _ z)
      · exact he p u v w' h1 (by rw [e1, List.getElem?_set_ne cp]; exact h2) h3 h4 z
theorem apt_inj {n : Nat} {ds : List (Nat × Nat)} {S A B : S2} (T : Tree n ds) (o : StOk n ds S) (a : Apt ds S) (hA : Rc ds S A) (hB : Rc ds S B) (h : A.1 = B.1) : A = B := by
  have tA := told T o a hA
  have tB := told T o a hB
  refine Prod.ext h (List.ext_getElem? fun e => ?_)
  by_cases c : ∃ (p u v : Nat) (w : List Nat), S.1[p]? = some u ∧ A.1[p]? = some v ∧ Walk ds u w v ∧ w.Nodup ∧ e ∈ w
  · obtain ⟨p, u, v, w, h1, h2, h3, h4, h5⟩ := c
    obtain ⟨u1, w1, g1, g2, g3, g4, g5⟩ := tA.ways p v h2
    obtain ⟨u2, w2, k1, k2, k3, k4, k5⟩ := tB.ways p v (by rw [← h]; exact h2)
    rw [h1] at g1 k1
    cases g1
    cases k1
    rw [g5 e (by rw [← way_unique T h3 g2 h4 g3]; exact h5), k5 e (by rw [← way_unique T h3 k2 h4 k3]; exact h5)]
  · rw [tA.rest e fun p u v w h1 h2 h3 h4 z => c ⟨p, u, v, w, h1, h2, h3, h4, z⟩, tB.rest e fun p u v w h1 h2 h3 h4 z => c ⟨p, u, v, w, h1, by rw [h]; exact h2, h3, h4, z⟩]
theorem apt_in {n : Nat} {ds : List (Nat × Nat)} {S A : S2} (T : Tree n ds) (o : StOk n ds S) (a : Apt ds S) (hA : Rc ds S A) {p v : Nat} (h : A.1[p]? = some v) : Rg ds S p v := by
  obtain ⟨u, w, g1, g2, g3, g4, g5⟩ := (told T o a hA).ways p v h
  exact ⟨u, w, g1, g2, g4⟩
/-- all choices of a room in each list -/
def prodL : List (List Nat) → List (List Nat)
  | Ls => Ls.foldl (fun acc L => acc.flatMap fun pre => L.map fun x => pre ++ [x]) [[]]
theorem prodL_snoc (Ls : List (List Nat)) (L : List Nat) : prodL (Ls ++ [L]) = (prodL Ls).flatMap fun pre => L.map fun x => pre ++ [x] := by
  unfold prodL
  rw [List.foldl_append]
  rfl
theorem snoc_ind {α : Type} {P : List α → Prop} (h0 : P []) (h1 : ∀ l x, P l → P (l ++ [x])) : ∀ l, P l := by
  have key : ∀ (n : Nat) (l : List α), l.length = n → P l := by
    intro n
    induction n with
    | zero => exact fun l h => by rw [List.length_eq_zero_iff.mp h]; exact h0
    | succ n ih =>
      intro l h
      rcases snoc_nil l with rfl | ⟨r, x, rfl⟩
      · exact h0
      · exact h1 r x (ih r (by rw [List.length_append, List.length_singleton] at h; omega))
  exact fun l => key l.length l rfl
theorem prodL_mem : ∀ (Ls : List (List Nat)) (X : List Nat), X ∈ prodL Ls ↔ X.length = Ls.length ∧ ∀ p x : Nat, X[p]? = some x → ∃ L, Ls[p]? = some L ∧ x ∈ L := by
  refine snoc_ind ?_ ?_
  · intro X
    show X ∈ [[]] ↔ _
    rw [List.mem_singleton]
    constructor
    · rintro rfl
      exact ⟨rfl, fun p x h => by simp at h⟩
    · rintro ⟨h, _⟩
      exact List.length_eq_zero_iff.mp h
  · intro Ls L ih X
    rw [prodL_snoc, List.mem_flatMap]
    constructor
    · rintro ⟨pre, hp, hX⟩
      obtain ⟨x, hx, rfl⟩ := List.mem_map.mp hX
      obtain ⟨l1, l2⟩ := (ih pre).mp hp
      refine ⟨by rw [List.length_append, List.length_append, l1]; rfl, fun p y hy => ?_⟩
      by_cases c : p < pre.length
      · rw [List.getElem?_append_left c] at hy
        obtain ⟨M, m1, m2⟩ := l2 p y hy
        exact ⟨M, by rw [List.getElem?_append_left (get_lt m1)]; exact m1, m2⟩
      · have := get_lt hy
        rw [List.length_append, List.length_singleton] at this
        have e : p = pre.length := by omega
        subst e
        rw [List.getElem?_append_right (Nat.le_refl _), Nat.sub_self] at hy
        cases hy
        refine ⟨L, ?_, hx⟩
        rw [l1, List.getElem?_append_right (Nat.le_refl _), Nat.sub_self]
        rfl
    · rintro ⟨l1, l2⟩
      rcases snoc_nil X with rfl | ⟨pre, x, rfl⟩
      · rw [List.length_append, List.length_singleton] at l1
        simp at l1
      · rw [List.length_append, List.length_append, List.length_singleton, List.length_singleton] at l1
        have l1 : pre.length = Ls.length := by omega
        refine ⟨pre, (ih pre).mpr ⟨l1, fun p y hy => ?_⟩, ?_⟩
        · have lp := get_lt hy
          obtain ⟨M, m1, m2⟩ := l2 p y (by rw [List.getElem?_append_left lp]; exact hy)
          rw [List.getElem?_append_left (by omega)] at m1
          exact ⟨M, m1, m2⟩
        · obtain ⟨M, m1, m2⟩ := l2 pre.length x (by rw [List.getElem?_append_right (Nat.le_refl _), Nat.sub_self]; rfl)
          rw [l1, List.getElem?_append_right (Nat.le_refl _), Nat.sub_self] at m1
          cases m1
          exact List.mem_map.mpr ⟨x, m2, rfl⟩
theorem prodL_nd : ∀ (Ls : List (List Nat)), (∀ L ∈ Ls, L.Nodup) → (prodL Ls).Nodup := by
  refine snoc_ind ?_ ?_
  · intro _
    show [[]].Nodup
    simp
  · intro Ls L ih h
    rw [prodL_snoc]
    show List.Pairwise (· ≠ ·) _
    rw [List.pairwise_flatMap]
    refine ⟨fun pre _ => ?_, (ih fun M hM => h M (List.mem_append_left _ hM)).imp fun {a b} ne => fun x hx y hy z => ?_⟩
    · rw [List.pairwise_map]
      refine List.Pairwise.imp (R := fun x y : Nat => x ≠ y) (S := fun x y => pre ++ [x] ≠ pre ++ [y]) (fun {x y} ne z => ne ?_) (h L (List.mem_append_right _ List.mem_cons_self))
      have z2 : [x] = [y] := (List.append_inj' z rfl).2
      exact List.head_eq_of_cons_eq z2
    · obtain ⟨u, _, rfl⟩ := List.mem_map.mp hx
      obtain ⟨v, _, rfl⟩ := List.mem_map.mp hy
      exact ne (List.append_inj' z rfl).1
/-- the product of the lengths -/
def prodN : List (List Nat) → Nat
  | Ls => Ls.foldl (fun k L => k * L.length) 1
theorem prodN_snoc (Ls : List (List Nat)) (L : List Nat) : prodN (Ls ++ [L]) = prodN Ls * L.length := by
  unfold prodN
  rw [List.foldl_append]
  rfl
theorem prodL_len : ∀ Ls : List (List Nat), (prodL Ls).length = prodN Ls := by
  refine snoc_ind rfl ?_
  intro Ls L ih
  rw [prodL_snoc, prodN_snoc, ← ih]
  generalize prodL Ls = M
  induction M with
  | nil => simp
  | cons a r ih2 => rw [List.flatMap_cons, List.length_append, ih2, List.length_map, List.length_cons, Nat.succ_mul, Nat.add_comm]
theorem prodN_le : ∀ (Ls Ms : List (List Nat)), Ls.length = Ms.length → (∀ (p : Nat) (L M : List Nat), Ls[p]? = some L → Ms[p]? = some M → L.length ≤ M.length) → prodN Ls ≤ prodN Ms := by
  refine snoc_ind ?_ ?_
  · intro Ms h _
    have : Ms = [] := List.length_eq_zero_iff.mp h.symm
    subst this
    exact Nat.le_refl _
  · intro Ls L ih Ms h f
    rcases snoc_nil Ms with rfl | ⟨Ms, M, rfl⟩
    · simp at h
    · rw [List.length_append, List.length_append, List.length_singleton, List.length_singleton] at h
      have h : Ls.length = Ms.length := by omega
      rw [prodN_snoc, prodN_snoc]
      refine Nat.mul_le_mul (ih Ms h fun p A B a b => f p A B (by rw [List.getElem?_append_left (get_lt a)]; exact a) (by rw [List.getElem?_append_left (get_lt b)]; exact b)) ?_
      exact f Ls.length L M (by rw [List.getElem?_append_right (Nat.le_refl _), Nat.sub_self]; rfl) (by rw [h, List.getElem?_append_right (Nat.le_refl _), Nat.sub_self]; rfl)
end K5

namespace K5
open PySem PySem.Spec PyProof.Rows L2
theorem Dfs.front {n ds shut kl ws here} (h : Dfs n ds shut kl (here :: ws)) : DfsIn n ds shut kl ws here [] :=
  ⟨h.nd, h.lt, fun x m => h.sub x (List.mem_cons_of_mem _ m), fun x m nw ne d y j ns => h.cl x m (fun q => by
    rcases List.mem_cons.mp q with q | q
    · exact ne q
    · exact nw q) d y j ns, h.sub here List.mem_cons_self, fun d y m => nomatch m⟩
/-- the rooms that can be reached -/
structure RegSet (ds : List (Nat × Nat)) (shut : List Nat) (room : Nat) (L : List Nat) : Prop where
  nd : L.Nodup
  mem : ∀ x, x ∈ L ↔ ∃ p, Walk ds room p x ∧ ∀ d ∈ p, d ∉ shut
theorem Reg.set {n ds shut room ks} (h : Reg n ds shut room ks) : RegSet ds shut room (ks.map Prod.fst) := ⟨h.df.nd, h.mem⟩
theorem RegSet.perm {ds shut room L M} (a : RegSet ds shut room L) (b : RegSet ds shut room M) : L.Perm M := nodup_perm a.nd b.nd fun x => (a.mem x).trans (b.mem x).symm
theorem RegSet.of_perm {ds shut room L M} (a : RegSet ds shut room L) (p : M.Perm L) : RegSet ds shut room M := ⟨p.nodup_iff.mpr a.nd, fun x => p.mem_iff.trans (a.mem x)⟩
theorem le_unique : ∀ (l m : List Nat), l.Perm m → l.Pairwise (· ≤ ·) → m.Pairwise (· ≤ ·) → l = m
  | [], m, p, _, _ => p.symm.eq_nil.symm
  | a :: r, [], p, _, _ => by have := p.eq_nil; cases this
  | a :: r, b :: s, p, h1, h2 => by
    obtain ⟨h1a, h1b⟩ := List.pairwise_cons.mp h1
    obtain ⟨h2a, h2b⟩ := List.pairwise_cons.mp h2
    have e : a = b := by
      rcases List.mem_cons.mp (p.mem_iff.mp List.mem_cons_self) with e | q
      · exact e
      · rcases List.mem_cons.mp (p.symm.mem_iff.mp List.mem_cons_self) with e | q2
        · exact e.symm
        · have := h1a b q2
          have := h2a a q
          omega
    subst e
    rw [le_unique r s ((List.perm_cons a).mp p) h1b h2b]
def spRegL (K : PySem.W.Frag) : Sp := fun vs H Q _ => ∃ (a s : Addr) (p n : Nat) (ds : List (Nat × Nat)) (S : S2), vs = [.ref a, .ref s, .int (p : Int)] ∧ HouseAt K H a ds ∧ Tree n ds ∧ n ≤ 60 ∧ StateAt K H s S ∧ StOk n ds S ∧ p < S.1.length ∧
  ∀ (H' : Hp) (q : Addr) (L : List Nat), Same H H' → H q = none → H' q = some (.lst (nv L)) → RegSet ds (barr S p) (S.1.getD p 0) L → L.Pairwise (· ≤ ·) → Q (.ref q) H'
section
variable {P : Program} {w : World} {K : PySem.W.Frag}
      {mg : Str → Option Value} {base : Heap}
theorem inV_nv (x : Nat) (l : List Nat) : inV (.int (x : Int)) (nv l) = decide (x ∈ l) := by
  induction l with
  | nil => rfl
  | cons a r ih =>
    show (((a : Int) == (x : Int)) || inV (.int (x : Int)) (nv r)) = _
    rw [ih]
    by_cases h : x = a
    · subst h
      simp
    · have e1 : ((a : Int) == (x : Int)) = false := beq_eq_false_iff_ne.mpr (by omega)
      rw [e1]
      simp [h]
theorem flat_nv (l : List Nat) : (nv l).all flatV = true := by
  induction l with
  | nil => rfl
  | cons a r ih => exact ih
end
def spGrown (K : PySem.W.Frag) : Sp := fun vs H Q _ => ∃ (a s pf : Addr) (p n v : Nat) (ds : List (Nat × Nat)) (S : S2), vs = [.ref a, .ref s, .int (p : Int), .ref pf] ∧ HouseAt K H a ds ∧ Tree n ds ∧ n ≤ 60 ∧ StateAt K H s S ∧ StOk n ds S ∧ S.1[p]? = some v ∧ H pf = some (.lst [.int (v : Int)]) ∧
  ∀ (H' : Hp) (L : List Nat), But pf H H' → H' pf = some (.lst (nv L)) → RegSet ds (barr S p) v L → L.length ≤ n → Q (.ref pf) H'
section
variable {P : Program} {w : World} {K : PySem.W.Frag}
      {mg : Str → Option Value} {base : Heap}
theorem ok_l_grown (T : Bl mg) (D : Def K mg "_law_grown" s_l_grown) (C_l_neighbours : Cal P w K mg base "_law_neighbours" ["_law_doors", "_law_place"] 1 (spNeigh K)) : Cal P w K mg base "_law_grown" ["_law_doors", "_law_position", "_law_person", "_law_found"] 2 (spGrown K) := by
  refine D.ok sc_l_grown (fun _ _ _ _ _ _ us hl => match us, hl with | [_, _, _, _], _ => rfl) (fun vs H Q E h => ?_) (fun f cdv A outer s0 H vs Q E hr h => ?_)
  · obtain ⟨a, s, pf, p, n, v, ds, S, rfl, _⟩ := h
    rfl
  obtain ⟨a, s, pf, p, n, v, ds, S, rfl, hH, tree, hn, st, ok, hv, hpf, q⟩ := h
  obtain ⟨r, b, h1, h2, h3⟩ := id st
  have hdn := tree.len
  have lv := ok.rooms v (List.mem_of_getElem? hv)
  obtain ⟨f_l_neighbours, fd_l_neighbours, g_l_neighbours, k_l_neighbours, b_l_neighbours, G_l_neighbours⟩ := C_l_neighbours
  refine ⟨_, (pss_cons (ps_set (i := 4) sc_l_grown.nd rfl (.inl rfl) pe_int)
    (pss_cons (ps_while PassesOwn.never (pt_cmpR op_lt (pv 4) (pe_callB call_len_seq (by rfl) T.len PySem.boot_len (pa_cons (pv 3) pa_nil)) (nomark _)) (pss_cons (ps_for PassesOwn.never rfl (pi_list (pe_call G_l_neighbours (hr.mono (by decide)) (by rfl) g_l_neighbours k_l_neighbours b_l_neighbours .nil pass0 (pa_cons (pv 0) (pa_cons (pe_ix ix_list (pv 3) (pv 4) (fun _ _ => rfl)) pa_nil)))) (pg_tup (n := 2) rfl (pgs_cons (pg_name (i := 5) sc_l_grown.nd rfl (.inl rfl)) (pgs_cons (pg_name (i := 6) sc_l_grown.nd rfl (.inl rfl)) pgs_nil)))
    (pss_one (ps_if (PW.pt (pw_and (pt_cmpR op_ne (pe_ix ix_tup (pe_ix ix_tup (pv 1) pe_int (fun _ _ => rfl)) (pv 6) (fun _ _ => rfl)) (pv 2) (nomark _)) (pw_and1 (pt_cmpR op_notIn_seq (pv 5) (pv 3) (by rfl))))) (pss_one (ps_expr (pe_bm PySem.F.plainAttrs_list PySem.F.slot_list_append PySem.F.type_list_append mt_append (pv 3) (pa_cons (pv 5) pa_nil)))) pss_nil)))
    (pss_one (ps_set (i := 4) sc_l_grown.nd rfl (.inl rfl) (pe_op op_add (pv 4) pe_int)))))
    (pss_one (ps_ret (pv 3))))), ?_⟩
  refine ⟨fun m σ H2 => ∃ (L : List Nat) (i : Nat) (y5 y6 : Option V), m = n - i ∧ σ = [some (.ref a), some (.ref s), some (.int (p : Int)), some (.ref pf), some (.int (i : Int)), y5, y6] ∧ But pf H H2 ∧ H2 pf = some (.lst (nv L)) ∧ Dfs n ds (barr S p) L (L.drop i) ∧ (∀ x ∈ L, ∃ w, Walk ds v w x ∧ ∀ d ∈ w, d ∉ barr S p) ∧ v ∈ L ∧ i ≤ L.length,
    ⟨_, [v], 0, _, _, rfl, rfl, But.refl _ _, hpf, Dfs.start lv, fun x hx => (by rw [List.mem_singleton] at hx; subst hx; exact ⟨[], .nil _, fun d h => (List.not_mem_nil h).elim⟩), List.mem_singleton.mpr rfl, Nat.zero_le _⟩, fun m σ H2 hW => ?_⟩
  obtain ⟨L, i, y5, y6, rfl, rfl, bt, hL, df, rch, hvL, hi⟩ := hW
  have ln := df.le
  refine ⟨_, rfl, _, rfl, _, _, rfl, .inl (SqL.of hL), _, _, rfl, rfl, _, rfl, ite2 (fun c => ?_) (fun c => ?_)⟩
  · have c := of_decide_eq_true c
    rw [nv_len] at c
    have il : i < L.length := by omega
    obtain ⟨here, hh⟩ : ∃ here, L[i]? = some here := get_of rfl il
    have hin : here ∈ L := List.mem_of_getElem? hh
    have hlt := df.lt here hin
    refine ⟨fun σ' H' => ∃ (L' : List Nat) (y5 y6 : Option V), σ' = [some (.ref a), some (.ref s), some (.int (p : Int)), some (.ref pf), some (.int ((i + 1 : Nat) : Int)), y5, y6] ∧ But pf H H' ∧ H' pf = some (.lst (nv L')) ∧ Dfs n ds (barr S p) L' (L'.drop (i + 1)) ∧ (∀ x ∈ L', ∃ w, Walk ds v w x ∧ ∀ d ∈ w, d ∉ barr S p) ∧ v ∈ L' ∧ i + 1 ≤ L'.length,
      fun σ' H' ⟨L', z6, z7, g1, g2⟩ => ⟨n - (i + 1), by omega, L', i + 1, z6, z7, rfl, g1, g2⟩, ?_⟩
    have dh : L.drop i = here :: L.drop (i + 1) := by
      rw [List.drop_eq_getElem_cons il]
      rw [List.getElem?_eq_getElem il] at hh
      rw [Option.some.inj hh]
    have di0 : DfsIn n ds (barr S p) L (L.drop (i + 1)) here [] := (dh ▸ df).front
    refine ⟨_, rfl, _, rfl, _, rfl, pf, _, _, _, rfl, rfl, SqL.of hL, nv_at hh, ?_⟩
    refine ⟨a, ds, n, here, rfl, hH.but hpf bt, tree, by omega, fun H3 qx l s3 nqx pl mem nd len => ?_⟩
    obtain ⟨ts, g1, g2, g3⟩ := pl
    have nqx' : qx ≠ pf := (ne_of_none hL nqx).symm
    have hL3 := s3 _ _ hL
    refine ⟨qx, rfl, ⟨_, SqL.of g1⟩, ?_⟩
    refine for_it (walk_list (K := K) (a := qx) (xs := ts.map V.ref)) (fun j σ H4 => ∃ (L' : List Nat) (y5 y6 : Option V), σ = [some (.ref a), some (.ref s), some (.int (p : Int)), some (.ref pf), some (.int (i : Int)), y5, y6] ∧ But pf H3 H4 ∧ H4 pf = some (.lst (nv L')) ∧
        DfsIn n ds (barr S p) L' (L'.drop (i + 1)) here ((l.take j).map fun e => (e.2, e.1)) ∧ (∀ x ∈ L', ∃ w, Walk ds v w x ∧ ∀ d ∈ w, d ∉ barr S p) ∧ v ∈ L' ∧ i + 1 ≤ L'.length)
      ⟨L, _, _, rfl, But.refl _ _, hL3, di0, rch, hvL, il⟩ (fun j H4 _ _ ⟨_, _, _, _, bt3, _⟩ => SqL.of (bt3 _ _ nqx' g1)) ?_ ?_
    · rintro j x σ H5 H4 hj ⟨L', y5, y6, rfl, bt3, hL4, di, rch3, hv3, il3⟩ ⟨rfl, ex1⟩
      rw [List.length_map, g2] at hj
      obtain ⟨t, ht⟩ : ∃ t, ts[j]? = some t := get_of g2 hj
      obtain ⟨e, he⟩ : ∃ e, l[j]? = some e := get_of rfl hj
      rw [List.getElem?_map, ht] at ex1
      cases ex1
      have htup := bt3 _ _ (fun z => by have q1 := g3 j t e ht he; rw [z, hL3] at q1; cases q1) (g3 j t e ht he)
      have ejoin : Joins ds e.2 here e.1 := (mem e.1 e.2).mp (List.mem_of_getElem? he)
      have etake : (l.take (j + 1)).map (fun e => (e.2, e.1)) = (l.take j).map (fun e => (e.2, e.1)) ++ [(e.2, e.1)] := by
        rw [List.take_add_one, he, List.map_append]
        rfl
      have bt04 : But pf H H4 := (bt.trans s3.but).trans bt3
      have h1' : SqT K H4 s [.ref r, .ref b] := bt04.tup hpf h1
      have h3' : SqT K H4 b (nv S.2) := bt04.tup hpf h3
      obtain ⟨bk, hbk⟩ : ∃ bk, S.2[e.2]? = some bk := get_of ok.doors (joins_lt ejoin)
      refine ⟨t, _, rfl, SqT.of htup, rfl, _, _, rfl, _, _, rfl, rfl, ?_⟩
      refine ⟨_, rfl, s, _, _, _, rfl, rfl, h1', atI_nat (j := 1) rfl, _, rfl, b, _, _, _, rfl, rfl, h3', nv_at hbk, _, rfl, rfl, _, rfl, ?_⟩
      by_cases cb : bk = p
      · rw [decide_eq_true (show V.int (bk : Int) = V.int (p : Int) by rw [cb])]
        exact iteF (iteF ⟨L', _, _, rfl, bt3, hL4, by rw [etake]; exact di.skip (.inl (mem_barr.mpr (by rw [hbk, cb]))), rch3, hv3, il3⟩)
      · rw [decide_eq_false (show ¬ V.int (bk : Int) = V.int (p : Int) from fun z => cb (by have := V.int.inj z; omega))]
        refine iteT ⟨_, rfl, _, rfl, pf, _, rfl, .inl (SqL.of hL4), rfl, flat_nv _, _, rfl, ?_⟩
        show if (!inV (V.int (e.1 : Int)) (nv L')) = true then _ else _
        rw [inV_nv]
        by_cases hy : e.1 ∈ L'
        · rw [decide_eq_true hy]
          exact iteF ⟨L', _, _, rfl, bt3, hL4, by rw [etake]; exact di.skip (.inr hy), rch3, hv3, il3⟩
        · rw [decide_eq_false hy]
          have nsh : e.2 ∉ barr S p := fun z => by
            have z := mem_barr.mp z
            rw [hbk] at z
            exact cb (Option.some.inj z)
          have ely := (Joins.lt tree ejoin).2.1
          have di2 := di.add (d := e.2) ely hy
          have hle := di2.le
          rw [List.length_append, List.length_singleton] at hle
          refine iteT ⟨_, rfl, .inl ⟨rfl, _, SqL.of hL4⟩, _, rfl, pf, _, _, rfl, rfl, hL4, by rw [nv_len]; exact small1000 (by omega), ?_⟩
          refine ⟨L' ++ [e.1], _, _, rfl, bt3.upd _, by rw [upd_same, nv_snoc], ?_, fun x hx => ?_, List.mem_append.mpr (.inl hv3), by rw [List.length_append]; omega⟩
          · rw [etake, List.drop_append_of_le_length il3]
            exact di2
          · rcases List.mem_append.mp hx with hx | hx
            · exact rch3 x hx
            · rw [List.mem_singleton] at hx
              subst hx
              obtain ⟨w0, w1, w2⟩ := rch3 here di.he
              refine ⟨w0 ++ [e.2], w1.snoc ejoin, fun d hd => ?_⟩
              rcases List.mem_append.mp hd with hd | hd
              · exact w2 d hd
              · rw [List.mem_singleton] at hd
                rw [hd]
                exact nsh
    · rintro σ H4 ⟨L', y5, y6, rfl, bt3, hL4, di, rch3, hv3, il3⟩
      refine ⟨_, rfl, _, _, rfl, rfl, L', _, _, rfl, (bt.trans s3.but).trans bt3, hL4, di.done fun d y j => ?_, rch3, hv3, il3⟩
      rw [List.length_map, g2, List.take_length]
      exact List.mem_map.mpr ⟨(y, d), (mem y d).mpr j, rfl⟩
  · have c : ¬ (i : Int) < ((nv L).length : Nat) := fun z => c (decide_eq_true z)
    rw [nv_len] at c
    have il : i = L.length := by omega
    subst il
    rw [List.drop_length] at df
    exact ⟨_, rfl, q H2 L bt hL ⟨df.nd, fun x => ⟨fun hx => rch x hx, fun ⟨w, h1, h2⟩ => df.walk h1 h2 hvL⟩⟩ ln⟩
theorem ok_l_region (T : Bl mg) (D : Def K mg "_law_region" s_l_region) (C_l_grown : Cal P w K mg base "_law_grown" ["_law_doors", "_law_position", "_law_person", "_law_found"] 2 (spGrown K)) : Cal P w K mg base "_law_region" ["_law_doors", "_law_position", "_law_person"] 3 (spRegL K) := by
  refine D.ok sc_l_region (fun _ _ _ _ _ _ us hl => match us, hl with | [_, _, _], _ => rfl) (fun vs H Q E h => ?_) (fun f cdv A outer s0 H vs Q E hr h => ?_)
  · obtain ⟨a, s, p, n, ds, S, rfl, _⟩ := h
    rfl
  obtain ⟨a, s, p, n, ds, S, rfl, hH, tree, hn, st, ok, hp, q⟩ := h
  obtain ⟨r, b, h1, h2, h3⟩ := id st
  have hdn := tree.len
  obtain ⟨f_l_grown, fd_l_grown, g_l_grown, k_l_grown, b_l_grown, G_l_grown⟩ := C_l_grown
  refine ⟨_, (pss_one (ps_ret (pe_callB cr_sorted (by rfl) T.sorted (by decide +kernel) (pa_cons (pe_call G_l_grown (hr.mono (by decide)) (by rfl) g_l_grown k_l_grown b_l_grown .nil pass0 (pa_cons (pv 0) (pa_cons (pv 1) (pa_cons (pv 2) (pa_cons (pe_lst (pa_cons (pe_ix ix_tup (pe_ix ix_tup (pv 1) pe_int (fun _ _ => rfl)) (pv 2) (fun _ _ => rfl)) pa_nil)) pa_nil))))) pa_nil)))), ?_⟩
  obtain ⟨v, hv⟩ : ∃ v, S.1[p]? = some v := get_of rfl hp
  refine ⟨_, rfl, _, rfl, _, rfl, _, rfl, s, _, _, _, rfl, rfl, h1, atI_nat (j := 0) rfl, _, rfl, r, _, _, _, rfl, rfl, h2, nv_at hv, by show 1 ≤ sizeLine; decide, fun pf npf => ?_⟩
  have s2 := Same.upd (o := .lst [.int (v : Int)]) npf
  refine ⟨a, s, pf, p, n, v, ds, S, rfl, hH.same s2, tree, hn, st.same s2, ok, hv, upd_same, fun H2 L bt hL rs ln => ?_⟩
  refine ⟨pf, L.map (fun x : Nat => (x : Int)), rfl, by rw [← nv_int]; exact SqL.of hL, by rw [List.length_map]; omega, fun ys p0 pm asc np0 => ?_⟩
  obtain ⟨L', rfl, pl⟩ := perm_of_map _ _ _ pm
  rw [← nv_int]
  have s02 : Same H H2 := fun c o e => bt c o (ne_of_none e npf) (s2 c o e)
  have sF : Same H (upd H2 p0 (.lst (nv L'))) := s02.trans (Same.upd np0)
  refine q _ p0 L' sF (s02.free np0) upd_same (by rw [getD_of hv]; exact rs.of_perm pl) ?_
  rw [List.pairwise_map] at asc
  exact asc.imp fun h => by omega
end
end K5

namespace PySem
open Sem (wp)
/-! own rule: sum(lists, []) joins lists -/
section
variable {prog : Program} {w : World} {A : Around} {R : Result → Shared → Prop} {I l : Addr} {its : Array Value} {h₀ : Heap} {Ls : List (List Value)}
theorem args_sum2 (a b : Value) : argsOk "sum" ⟨[a, b], []⟩ := by unfold argsOk; kernel_rfl
theorem codeAny_sum_lists (hh : A.handled = none) (hne : l ≠ I)
    (hv : ∀ (i : Nat) (v : Value), its[i]? = some v → ∃ (r : Addr) (xs : List Value) (m : Nat), v = Value.ref r ∧ Ls[i]? = some xs ∧ h₀.get? r = some { cls := .type "list", data := .seq xs.toArray m }) (hn : Ls.length = its.size) (S : Addr) (hSI : S ≠ I) (hSl : S ≠ l)
    (h0S : h₀.get? S = none) (h0I : h₀.get? I = none) (n₀ : Nat) :
    ∀ (k i : Nat) (s : Shared) (tot : Addr) (acc : List Value) (c m : Nat), its.size - i = k → i ≤ its.size → n₀ ≤ s.heap.objs.size → s.heap.IsListIter I l i → s.heap.IsList l its → (∀ b o, h₀.get? b = some o → s.heap.get? b = some o) →
    s.heap.get? S = some { cls := .type "list", dict := none, data := .seq #[.ref tot] c, slots := #[] } → s.heap.get? tot = some { cls := .type "list", data := .seq acc.toArray m } → tot ≠ S → tot ≠ I → acc.length + (Ls.drop i).flatten.length ≤ sizeLine →
    (∀ (h' : Heap) (t : Addr) (m' : Nat), (∀ b o, h₀.get? b = some o → h'.get? b = some o) → (n₀ ≤ tot ∨ i < its.size → n₀ ≤ t) → h'.get? t = some { cls := .type "list", data := .seq (acc ++ (Ls.drop i).flatten).toArray m' } → R (.ok (.ret (.ref t))) { s with heap := h' }) →
    codeAny (model prog w) A (.builtin "sum.loop" ⟨[.ref I, .ref S, rawInt 2, rawInt 0], []⟩) R s := by
  intro k
  induction k with
  | zero =>
    intro i s tot acc c m hk hi hn0 hit hl hold hS ht htS htI hlen hR
    have hin : i = its.size := by omega
    subst hin
    refine codeAny_builtin F.entry_sum_loop ?_
    rw [Around.under_plainId F.plain_sum_loop _]
    show wpAny _ A.in1 (seqItems?
          (.ref S) >>= _) _ _ s
    refine wpAny_bind (wpAny_seqItems hS rfl ?_)
    show wpAny _ A.in1 (tryCatch (pyNext
          (.ref I)) _ >>= _) _ _ s
    refine wpAny_bind (wpAny_tryCatch (wpAny_pyNext_list_end (A := A.in1) hh hit hl (by simp) fun h' he => ?_))
    refine wpAny_pure (hR h' tot m (fun b o e => he b o (fun z => by rw [z, h0I] at e; cases e) (hold b o e)) (fun z => z.elim id fun z => absurd z (Nat.lt_irrefl _)) ?_)
    have e : Ls.drop its.size = [] := by rw [← hn]; exact List.drop_length
    rw [e, List.flatten_nil, List.append_nil]
    exact he tot _ htI ht
  | succ k ih =>
    intro i s tot acc c m hk hi hn0 hit hl hold hS ht htS htI hlen hR
    have hlt : i < its.size := by omega
    obtain ⟨r, xs, m2, hv1, hv2, hv3⟩ := hv i its[i] (by simp [hlt])
    have hdrop : Ls.drop i = xs :: Ls.drop (i + 1) := by
      rw [List.drop_eq_getElem_cons (by omega)]
      congr 1
      exact Option.some.inj ((List.getElem?_eq_getElem (by omega)).symm.trans hv2)
    rw [hdrop, List.flatten_cons, List.length_append] at hlen
    refine codeAny_builtin F.entry_sum_loop ?_
    rw [Around.under_plainId F.plain_sum_loop _]
    show wpAny _ A.in1 (seqItems?
          (.ref S) >>= _) _ _ s
    refine wpAny_bind (wpAny_seqItems hS rfl ?_)
    show wpAny _ A.in1 (tryCatch (pyNext
          (.ref I)) _ >>= _) _ _ s
    refine wpAny_bind (wpAny_tryCatch (wpAny_pyNext_list_item hit hl (x := its[i]) (by simp [hlt]) fun h1 hit1 sb => ?_))
    rw [hv1]
    have hl1 : h1.IsList l its := hl.extBut sb.extBut hne
    have old1 : ∀ b o, b ≠ I → s.heap.get? b = some o → h1.get? b = some o := fun b o hb e => (sb.2 b hb).trans e
    have hS1 := old1 S _ hSI hS
    have ht1 := old1 tot _ htI ht
    have hr1 : h1.get? r = some _ := old1 r _ (fun z => by rw [z, h0I] at hv3; cases hv3) (hold _ _ hv3)
    show wpAny _ A.in1 ((holding [Value.ref r] (binaryOp .Add (.ref tot) (.ref r))).attempt >>= _) _ _ _
    refine wpAny_bind (wpAny_attempt (wpAny_holding (P.add_list ht1 hr1 ?_ (by rw [List.size_toArray, List.size_toArray]; omega))))
    have hSlt : S < h1.objs.size := Heap.lt_size hS1
    have hIlt : I < h1.objs.size := by obtain ⟨o, e, _⟩ := id hit1; exact Heap.lt_size e
    have hllt : l < h1.objs.size := by obtain ⟨o, e, _⟩ := id hl1; exact Heap.lt_size e
    have ea : acc.toArray ++ xs.toArray = (acc ++ xs).toArray := by simp
    rw [ea]
    have hS2 : (h1.push { cls := .type "list", data := .seq (acc ++ xs).toArray }).get? S = some _ := Heap.get?_push_of_some _ hS1
    show wpAny _ A.in1 (updateSeq S (fun _ => #[.ref h1.objs.size]) >>= _) _ _ _
    refine wpAny_bind (wpAny_updateSeq
          hS2 rfl ?_)
    have hS3 := Heap.get?_update_self (Obj.mapSeq fun _ => #[Value.ref h1.objs.size]) hS2 rfl
    refine wpAny_bind (wpAny_letGo ?_)
    refine wpAny_bind (wpAny_updateSeq hS3 rfl (wpAny_pure ⟨plainId_quiet F.plain_sum_loop _, ?_⟩))
    have keep : ∀ b o, b ≠ S → (h1.push { cls := .type "list", data := .seq (acc ++ xs).toArray }).get? b = some o → (((h1.push { cls := .type "list", data := .seq (acc ++ xs).toArray }).update S (Obj.mapSeq fun _ => #[Value.ref h1.objs.size])).update S (Obj.mapSeq fun _ => #[Value.ref h1.objs.size])).get? b = some o :=
      fun b o hb e => (Heap.get?_update_other _ _ (Ne.symm hb)).trans
            ((Heap.get?_update_other _ _ (Ne.symm hb)).trans e)
    have neS : h1.objs.size ≠ S := Nat.ne_of_gt hSlt
    have neI : h1.objs.size ≠ I := Nat.ne_of_gt hIlt
    have e1 : h1.objs.size = s.heap.objs.size := sb.1
    have esz : (((h1.push { cls := .type "list", data := .seq (acc ++ xs).toArray }).update S (Obj.mapSeq fun _ => #[Value.ref h1.objs.size])).update S (Obj.mapSeq fun _ => #[Value.ref h1.objs.size])).objs.size = h1.objs.size + 1 := by
      rw [Heap.size_update, Heap.size_update, Heap.size_push]
    refine ih (i + 1) _ h1.objs.size (acc ++ xs) _ 0 (by omega) hlt (Nat.le_trans (by omega : n₀ ≤ h1.objs.size + 1) (Nat.le_of_eq esz.symm)) (hit1.at fun o e => keep I o (Ne.symm hSI) (Heap.get?_push_of_some _ e)) (hl1.at fun o e => keep l o (Ne.symm hSl) (Heap.get?_push_of_some _ e)) (fun b o e => ?_)
      (Heap.get?_update_self _ hS3 rfl) (keep _ _ neS (Heap.get?_push_size _ rfl)) neS neI (by rw [List.length_append]; omega) fun h' t m' hk' hf ht' => ?_
    · refine keep b o (fun z => by rw [z, h0S] at e; cases e) (Heap.get?_push_of_some _ (old1 b o (fun z => by rw [z, h0I] at e; cases e) (hold b o e)))
    · refine hR h' t m' hk' (fun _ => hf (.inl (by omega : n₀ ≤ h1.objs.size))) ?_
      · rw [hdrop, List.flatten_cons, ← List.append_assoc]
        exact ht'
end
section
variable {prog : Program} {w : World} {A : Around} {E : Value → Shared → Prop} {s : Shared} {l e : Addr} {its : Array Value} {Ls : List (List Value)}
theorem call_sum_lists {Q : Value → Shared → Prop} (hh : A.handled = none) (hl : s.heap.IsList l its)
    (hv : ∀ (i : Nat) (v : Value), its[i]? = some v → ∃ (r : Addr) (xs : List Value) (m : Nat), v = Value.ref r ∧ Ls[i]? = some xs ∧ s.heap.get? r = some { cls := .type "list", data := .seq xs.toArray m }) (hn : Ls.length = its.size) (hpos : 0 < its.size)
    {me : Nat} (he : s.heap.get? e = some { cls := .type "list", data := .seq #[] me }) (hlen : Ls.flatten.length ≤ sizeLine)
    (h : ∀ (h' : Heap) (t : Addr) (m' : Nat), (∀ b o, s.heap.get? b = some o → h'.get? b = some o) → s.heap.objs.size ≤ t → h'.get? t = some { cls := .type "list", data := .seq Ls.flatten.toArray m' } → Q (.ref t) { s with heap := h' }) :
    wpAny (model prog w) A (call (.builtin "sum") [.ref l, .ref e]) Q E s := by
  refine call_function_tree F.kind_sum F.plain_sum F.entry_sum (args_sum2 _ _) ?_
  unfold Builtin.«sum»
  simp only [List.length_cons,
        List.length_nil]
  rw [if_neg (by decide)]
  refine wpAny_bind (wpAny_of_eq (show Builtin.Builtins.bindParams "sum" ["start"] 0 ⟨[.ref e], []⟩ = pure [some (.ref e)] from rfl) ?_)
  have hlt : l < s.heap.objs.size := match hl with | ⟨_, z, _⟩ => Heap.lt_size z
  have helt : e < s.heap.objs.size
        := Heap.lt_size he
  refine wpAny_bind (wpAny_pyIter_list hl ?_)
  refine wpAny_bind (wpAny_pure ?_)
  have he1 : (s.heap.push { cls := .type "list_iterator", data := .fields #[.ref l, .int 0 0] }).get? e = some _ := Heap.get?_push_of_some _ he
  have ty : ∀ s' : Shared, s'.heap.get? e = some { cls := .type "list", data := .seq #[] me } → s'.TypeIs (.ref e) "list" := fun s' q => ⟨_, q, rfl⟩
  simp only [List.forIn_cons, List.forIn_nil]
  refine wpAny_bind (wpAny_bind (wpAny_bind (wpAny_isInstance (T := "list") (b := false) (ty _ he1) F.sub_list_str ?_)))
  simp only [Bool.false_eq_true, if_false]
  refine wpAny_pure (wpAny_bind (wpAny_bind (wpAny_isInstance (T := "list") (b := false) (ty _ he1) F.sub_list_bytes ?_)))
  simp only [Bool.false_eq_true, if_false]
  refine wpAny_pure (wpAny_bind (wpAny_bind (wpAny_isInstance (T := "list") (b := false) (ty _ he1) F.sub_list_bytearray ?_)))
  simp only [Bool.false_eq_true, if_false]
  refine wpAny_pure (wpAny_pure ?_)
  refine wpAny_bind (wpAny_newObj_type ?_)
  have free : ∀ b, s.heap.objs.size ≤ b → s.heap.get? b = none := fun b hb => by
    cases q : s.heap.get? b with
    | none => rfl
    | some o => exact absurd (Heap.lt_size q) (Nat.not_lt.mpr hb)
  have sz1 : (s.heap.push { cls := .type "list_iterator", data := .fields #[.ref l, .int 0 0] }).objs.size = s.heap.objs.size + 1 := Heap.size_push _ _
  have e0 : Ls.drop 0 = Ls := rfl
  refine wpAny_pure ⟨plainId_quiet F.plain_sum_loop _, codeAny_sum_lists (A := A) (h₀ := s.heap) (Ls := Ls) hh (Nat.ne_of_lt hlt) hv hn _ (by rw [sz1]; exact Nat.succ_ne_self _) (by rw [sz1]; exact Nat.ne_of_gt (Nat.lt_succ_of_lt hlt)) (free _ (by rw [sz1]; exact Nat.le_succ _)) (free _ (Nat.le_refl _)) s.heap.objs.size its.size 0 _ e [] 0 me rfl (Nat.zero_le _)
    (by rw [Heap.size_push, sz1]; exact Nat.le_trans (Nat.le_succ _) (Nat.le_succ _)) ⟨_, Heap.get?_push_of_some _ (Heap.get?_push_size _ rfl), rfl, rfl⟩ ((hl.push _).push _) (fun b o q => Heap.get?_push_of_some _ (Heap.get?_push_of_some _ q)) (Heap.get?_push_size _ rfl) (Heap.get?_push_of_some _ he1)
    (by rw [sz1]; exact Nat.ne_of_lt (Nat.lt_succ_of_lt helt)) (Nat.ne_of_lt helt) (by rw [e0, List.length_nil, Nat.zero_add]; exact hlen) fun h' t m' k1 k2 k3 => ?_⟩
  exact h h' t m' k1 (k2 (.inr hpos)) k3
end
end PySem

namespace L2
open PySem PySem.Spec PyProof.Rows
/-- sum(lists, []): the lists joined -/
def rSumL (K : PySem.W.Frag) : List V → Hp → VK → Prop := fun vs H Q => ∃ (q e : Addr) (rs : List Addr) (Ls : List (List V)), vs = [V.ref q, V.ref e] ∧ H q = some (.lst (rs.map V.ref)) ∧ H e = some (.lst []) ∧ rs.length = Ls.length ∧ 0 < rs.length ∧
  (∀ (i : Nat) (r : Addr) (L : List V), rs[i]? = some r → Ls[i]? = some L → H r = some (.lst L)) ∧ Ls.flatten.length ≤ sizeLine ∧ ∀ p, H p = none → Q (.ref p) (upd H p (.lst Ls.flatten))
theorem raw_lists {X : Cx} {pins : List (Addr × Obj)} {σ : St} {H : Hp} {s : Shared} (I : Inv X pins σ H s) : ∀ (rs : List Addr) (Ls : List (List V)), rs.length = Ls.length → (∀ (i : Nat) (r : Addr) (L : List V), rs[i]? = some r → Ls[i]? = some L → H r = some (.lst L)) →
    ∃ Rs : List (List Value), Rs.length = rs.length ∧ Vals Ls.flatten Rs.flatten ∧ ∀ (i : Nat) (r : Addr), rs[i]? = some r → ∃ (xs : List Value) (m : Nat), Rs[i]? = some xs ∧ s.heap.get? r = some { cls := .type "list", data := .seq xs.toArray m }
  | [], [], _, _ => ⟨[], rfl, .nil, fun i r h => by simp at h⟩
  | [], _ :: _, h, _ => by simp at h
  | _ :: _, [], h, _ => by simp at h
  | r :: rs, L :: Ls, h, hl => by
    obtain ⟨Rs, h1, h2, h3⟩ := raw_lists I rs Ls (by simpa using h) fun i r' L' a b => hl (i + 1) r' L' a b
    obtain ⟨z, its, n, rv, hlen, e⟩ := I.lstM (hl 0 r L rfl rfl)
    refine ⟨its :: Rs, by simp [h1], ?_, fun i r' hr => ?_⟩
    · rw [List.flatten_cons, List.flatten_cons]
      exact rv.append h2
    · cases i with
      | zero =>
        cases hr
        exact ⟨its, n, rfl, e⟩
      | succ i => exact h3 i r' hr
theorem cr_sumL {X : Cx} (hc : X.calm = true) : CallR X (.builtin "sum") (rSumL X.K) := by
  rintro pins s σ H vs us Q I r ⟨q, e, rs, Ls, rfl, hq, he, hlen, hpos, hl, hsz, hQ⟩
  cases r with
  | cons r1 r =>
    cases r with
    | cons r2 r =>
      cases r
      cases r1
      cases r2
      obtain ⟨z, its, n, rv, hlen1, eq⟩ := I.lstM hq
      obtain ⟨z2, its2, n2, rv2, hlen2, ee⟩ := I.lstM he
      cases rv2
      obtain ⟨Rs, h1, h2, h3⟩ := raw_lists I rs Ls hlen hl
      have hits : ∀ (i : Nat) (v : Value), its[i]? = some v → ∃ r, v = Value.ref r ∧ rs[i]? = some r := by
        intro i v hv
        have hi : i < its.length := (List.getElem?_eq_some_iff.mp hv).1
        have hn' : its.length = rs.length := by rw [← hlen1, List.length_map]
        have hr : rs[i]? = some (rs[i]'(by omega)) := List.getElem?_eq_getElem (by omega)
        obtain ⟨u, hu, ru⟩ := rv.get (i := i) (x := .ref (rs[i]'(by omega))) (by rw [List.getElem?_map, hr]; rfl)
        rw [hv] at hu
        cases hu
        exact ⟨_, ru, hr⟩
      have hn : its.length = rs.length := by rw [← hlen1, List.length_map]
      refine call_sum_lists (its := its.toArray) (Ls := Rs) (I.ok.hd hc) ⟨_, eq, rfl, _, rfl⟩ (fun i v hv => ?_) (by rw [List.size_toArray, hn, h1]) (by rw [List.size_toArray, hn]; exact hpos) ee (by rw [← h2.length]; exact hsz) fun h' t m' k1 k2 k3 => ?_
      · obtain ⟨r, rfl, hr⟩ := hits i v (by simpa using hv)
        obtain ⟨xs, m, a, b⟩ := h3 i r hr
        exact ⟨r, xs, m, rfl, a, b⟩
      · exact ⟨.ref t, upd H t (.lst Ls.flatten), I.laid (t' := s.toks) k1 k2 ⟨hsz, Rs.flatten, m', h2, k3⟩, rfl, hQ t (I.hok.fresh k2)⟩
end L2

/-! own rules (begun): a dict keyed by nested tuples, as a letter: the dict's own object, as it stood in some heap; its keys' tuples stand in H by themselves -/
namespace L2
open PySem PySem.Spec PyProof.Rows
def nD (P : Program) (w : World) (d : Addr) (xs : List (NestedKey × Addr × Value)) : HO :=
  .ext fun g => (d == sysModules) = false ∧ ∃ (h' : Heap) (o : Obj), h'.DictOfH (nestedKind P w) d xs ∧ h'.get? d = some o ∧ g.get? d = some o
theorem nD_ok {P : Program} {w : World} {H : Hp} {g : Heap} {d : Addr} {xs : List (NestedKey × Addr × Value)} {o : Obj} (nm : (d == sysModules) = false) (m : g.DictOfH (nestedKind P w) d xs) (e : g.get? d = some o) : ObjOk P w H g d (nD P w d xs) := by
  refine ⟨⟨nm, g, o, m, e, e⟩, ⟨o, e⟩, ?_⟩
  rintro g1 g2 ⟨nm', h', o', m', e', e1⟩ st
  exact ⟨nm', h', o', m', e', st o' e1⟩
/-- the dict, where its keys' tuples stand -/
theorem nD_at {P : Program} {w : World} {H : Hp} {g : Heap} {d : Addr} {xs : List (NestedKey × Addr × Value)} (ok : HOk P w H g) (e : H d = some (nD P w d xs)) (ks : ∀ y ∈ xs, (nestedKind P w).is g y.1 y.2.1) : (d == sysModules) = false ∧ g.DictOfH (nestedKind P w) d xs := by
  have z : ObjOk P w H g d (.ext _) := ok d _ e
  obtain ⟨nm, h', o, m, e1, e2⟩ := z.1
  refine ⟨nm, ?_⟩
  exact m.at' (fun o' x => by rw [e1] at x; cases x; exact e2) ks
mutual
/-- the key that data of whole numbers and tuples is -/
def kOf : PyData → NestedKey
  | .int i => .num i
  | .tuple ds => .tup (kAll ds)
  | _ => .none
def kAll : List PyData → List NestedKey
  | [] => []
  | d :: ds => kOf d :: kAll ds
end
mutual
def keyable : PyData → Bool
  | .int _ => true
  | .tuple ds => keyableAll ds
  | _ => false
def keyableAll : List PyData → Bool
  | [] => true
  | d :: ds => keyable d && keyableAll ds
end
section
variable {X : Cx} {pins : List (Addr ×
      Obj)} {σ : St} {H : Hp} {s : Shared}
mutual
theorem nested_of (I : Inv X pins σ H s) : ∀ (d : PyData) (v : V) (u : Value), keyable d = true → Dp X.K H v d → RelV v u → NestedIs s.heap (kOf d) u
  | .int i, _, _, _, h, r => by
    cases h
    obtain ⟨t, rfl⟩ := r
    exact .int i t
  | .tuple ds, _, _, k, h, r => by
    cases h with
    | tup hs ha =>
      cases r
      obtain ⟨its, rv, ⟨o, e, c, n, q⟩, _⟩ := I.tuple hs
      exact .tup e c q (by simpa using nested_all I ds _ its k ha rv)
  | .none, _, _, k, _, _ => by cases k
  | .bool _, _, _, k, _, _ => by cases k
  | .str _, _, _, k, _, _ => by cases k
  | .list _, _, _, k, _, _ => by cases k
  | .dict _, _, _, k, _, _ => by cases k
theorem nested_all (I : Inv X pins σ H s) : ∀ (ds : List PyData) (vs : List V) (us : List Value), keyableAll ds = true → DpAll X.K H vs ds → Vals vs us → NestedAll s.heap (kAll ds) us
  | [], _, _, _, h, r => by
    cases h
    cases r
    exact .nil
  | d :: ds, _, _, k, h, r => by
    obtain ⟨k1, k2⟩ := Bool.and_eq_true_iff.mp (show (keyable d && keyableAll ds) = true from k)
    cases h with
    | cons h1 h2 =>
      cases r with
      | cons r1 r2 => exact .cons (nested_of I d _ _ k1 h1 r1) (nested_all I ds _ _ k2 h2 r2)
end
/-- k in d: d a dict keyed by nested tuples whose keys stand -/
def tNIn (K : PySem.W.Frag) (P : Program) (w : World) (ty td : TE) : TE := fun σ H Q => ty σ H fun y H1 => td σ H1 fun x H2 => ∃ (d t : Addr) (xs : List (NestedKey × Addr × Value)) (k : PyData), x = .ref d ∧ y = .ref t ∧ H2 d = some (nD P w d xs) ∧ Dp K H2 y k ∧ keyable k = true ∧ (kOf k).depth ≤ 8 ∧
  (∀ e ∈ xs, ∃ k', kOf k' = e.1 ∧ keyable k' = true ∧ (kOf k').depth ≤ 8 ∧ Dp K H2 (.ref e.2.1) k') ∧ Q (.bl (valueAt (pairsH xs) (kOf k)).isSome) H2
theorem pc_nin {i o : Expr} {ty td : TE} (hu : X.A.units + 64 < cLine) (hi : PE X i ty) (ho : PE X o td) : PC X .In i o (tNIn X.K X.prog X.w ty td) := by
  refine ⟨fun pins s σ H Q I h => ?_⟩
  refine thn (hi.run pins s σ H _ I h) fun iv s1 ⟨y, H1, I1, ry, q1⟩ => thn (ho.run pins s1 σ H1 _ I1 q1) fun u s2 ⟨x, H2, I2, rx, d, t, xs, k, ex, ey, hd, hk, kb, dep, ks, q2⟩ => ?_
  subst ex
  subst ey
  obtain rfl : u = Value.ref d := rx
  obtain rfl : iv = Value.ref t := ry
  obtain ⟨nm, m⟩ := nD_at I2.hok hd fun e he => by
    obtain ⟨k', e1, kb', dep', dp'⟩ := ks e he
    rw [← e1]
    exact ⟨nested_of I2 k' _ _ kb' dp' rfl, dep'⟩
  exact in_keyed (knd := nestedKind X.prog X.w) (by show X.A.units + 1 + 8 < cLine; omega) ⟨nested_of I2 k _ _ kb hk rfl, dep⟩ nm ⟨xs, m, rfl⟩ ⟨.bl _, H2, I2.tok _, rfl, q2⟩
def tNNotIn (K : PySem.W.Frag) (P : Program) (w : World) (ty td : TE) : TE := fun σ H Q => tNIn K P w ty td σ H fun x H' => ∃ b, x = .bl b ∧ Q (.bl (!b)) H'
theorem pc_nnotin {i o : Expr} {ty td : TE} (hu : X.A.units + 64 < cLine) (hi : PE X i ty) (ho : PE X o td) : PC X .NotIn i o (tNNotIn X.K X.prog X.w ty td) := by
  refine ⟨fun pins s σ H Q I h => ?_⟩
  refine thn (hi.run pins s σ H _ I h) fun iv s1 ⟨y, H1, I1, ry, q1⟩ => thn (ho.run pins s1 σ H1 _ I1 q1) fun u s2 ⟨x, H2, I2, rx, d, t, xs, k, ex, ey, hd, hk, kb, dep, ks, b, eb, q2⟩ => ?_
  subst ex
  subst ey
  cases eb
  obtain rfl : u = Value.ref d := rx
  obtain rfl : iv = Value.ref t := ry
  obtain ⟨nm, m⟩ := nD_at I2.hok hd fun e he => by
    obtain ⟨k', e1, kb', dep', dp'⟩ := ks e he
    rw [← e1]
    exact ⟨nested_of I2 k' _ _ kb' dp' rfl, dep'⟩
  exact notIn_keyed (knd := nestedKind X.prog X.w) (by show X.A.units + 1 + 8 < cLine; omega) ⟨nested_of I2 k _ _ kb hk rfl, dep⟩ nm ⟨xs, m, rfl⟩ ⟨.bl _, H2, I2.tok _, rfl, q2⟩
/-- d.get(k, z); what is found is named by the values that stand in the dict -/
def tNGet2 (K : PySem.W.Frag) (P : Program) (w : World) (td ty tx : TE) : TE := fun σ H Q => td σ H fun x H1 => ∃ (d : Addr) (xs : List (NestedKey × Addr × Value)), x = .ref d ∧ H1 d = some (nD P w d xs) ∧ (∀ e ∈ xs, ∃ k', kOf k' = e.1 ∧ keyable k' = true ∧ (kOf k').depth ≤ 8 ∧ Dp K H1 (.ref e.2.1) k') ∧
  ty σ H1 fun y H2 => tx σ H2 fun z H3 => ∃ (t : Addr) (ys : List (NestedKey × Addr × Value)) (k : PyData), y = .ref t ∧ H3 d = some (nD P w d ys) ∧ Dp K H3 y k ∧ keyable k = true ∧ (kOf k).depth ≤ 8 ∧ (∀ e ∈ ys, ∃ k', kOf k' = e.1 ∧ keyable k' = true ∧ (kOf k').depth ≤ 8 ∧ Dp K H3 (.ref e.2.1) k') ∧
  (valueAt (pairsH ys) (kOf k) = none → Q z H3) ∧ (∀ u, valueAt (pairsH ys) (kOf k) = some u → ∃ v, RelV v u ∧ Q v H3)
theorem pe_nget2 {o e f : Expr} {apos cpos : Pos} {td ty tx : TE} (hu : X.A.units + 64 < cLine) (ho : PE X o td) (he : PE X e ty) (hf : PE X f tx) (m : M2 X o "get" apos e f cpos) : PE X (.Call (.Attribute o "get" apos) [e, f] [] cpos) (tNGet2 X.K X.prog X.w td ty tx) := by
  refine ⟨fun pins s σ H Q I h => ?_⟩
  refine wpAny_Call_method m.base m.few m.line PySem.F.plainAttrs_dict PySem.F.slot_dict_get PySem.F.type_dict_get (thn (ho.run pins s σ H _ I h) fun u s1 ⟨x, H1, I1, rx, d, xs, ex, hd, ks, q1⟩ => ?_)
  subst ex
  obtain rfl : u = Value.ref d := rx
  obtain ⟨nm, m1⟩ := nD_at I1.hok hd fun e he => by
    obtain ⟨k', e1, kb', dep', dp'⟩ := ks e he
    rw [← e1]
    exact ⟨nested_of I1 k' _ _ kb' dp' rfl, dep'⟩
  refine ⟨m1.typeIs, fun b eb => ?_, ?_⟩
  · cases eb
    obtain ⟨q, es, ep, hq, h2, _⟩ := m1
    first | exact ⟨q, hq, h2.2.1⟩ | exact ⟨q, hq, h2.2⟩ | exact ⟨q, hq, h2.dict⟩ | exact ⟨q, hq, h2.1⟩
  rw [m.trees]
  refine Calls.callWith_builtin rfl (Calls.evalArgs_plain (Calls.spliced_cons
        (thn (he.run pins s1 σ H1 _ I1 q1) fun iv s2 ⟨y, H2, I2, ry, q2⟩ =>
    Calls.spliced_cons (thn (hf.run pins s2 σ H2 _ I2 q2) fun fv s3 ⟨z, H3, I3, rz, t, ys, k, ey, hd3, hk, kb, dep, ks3, qn, qs⟩ => Calls.spliced_nil ?_))))
  subst ey
  obtain rfl : iv = Value.ref t := ry
  obtain ⟨nm3, m3⟩ := nD_at I3.hok hd3 fun e he => by
    obtain ⟨k', e1, kb', dep', dp'⟩ := ks3 e he
    rw [← e1]
    exact ⟨nested_of I3 k' _ _ kb' dp' rfl, dep'⟩
  refine getOr_keyed (knd := nestedKind X.prog X.w) (by show X.A.units + 1 + 8 < cLine; omega) ⟨nested_of I3 k _ _ kb hk rfl, dep⟩ nm3 ⟨ys, m3, rfl⟩ ?_
  cases c : valueAt (pairsH ys) (kOf k) with
  | none => exact ⟨z, H3, I3.tok _, rz, qn c⟩
  | some u =>
    obtain ⟨v, rv, q⟩ := qs u c
    exact ⟨v, H3, I3.tok _, rv, q⟩
/-- {}, to be a dict keyed by nested tuples -/
def tNNew (P : Program) (w : World) : TE := fun _ H Q => ∀ p, H p = none → Q (.ref p) (upd H p (nD P w p []))
theorem pe_nnew {pos : Pos} : PE X (.Dict [] [] pos) (tNNew X.prog X.w) := ⟨fun pins s σ H Q I h =>
  wpAny_Dict_empty ⟨.ref s.heap.objs.size, _, I.laid (a := s.heap.objs.size) (o := nD X.prog X.w s.heap.objs.size []) (t' := s.toks) (fun _ _ q => Heap.get?_push_of_some _ q) (Nat.le_refl _)
    (nD_ok (beq_eq_false_iff_ne.mpr (Ne.symm (Nat.ne_of_lt I.big))) (Heap.DictOfH.new s.heap) (Heap.get?_push_size _ rfl)), rfl, h _ (I.hok.fresh (Nat.le_refl _))⟩⟩
/-- d[k] = v -/
def sNPut (K : PySem.W.Frag) (P : Program) (w : World) (td ty tv : TE) : TS := fun D σ H => tv σ H fun v H1 => td σ H1 fun x H2 => ty σ H2 fun y H3 => ∃ (d t : Addr) (xs : List (NestedKey × Addr × Value)) (k : PyData), x = .ref d ∧ y = .ref t ∧ H3 d = some (nD P w d xs) ∧ Dp K H3 y k ∧ keyable k = true ∧
  (kOf k).depth ≤ 8 ∧ (∀ e ∈ xs, ∃ k', kOf k' = e.1 ∧ keyable k' = true ∧ (kOf k').depth ≤ 8 ∧ Dp K H3 (.ref e.2.1) k') ∧ xs.length ≤ sizeLine ∧ ∀ u, RelV v u → D.nx σ (upd H3 d (nD P w d (storedH xs (kOf k) t u)))
theorem ps_nput {o i value : Expr} {pos pos' : Pos} {td ty tv : TE} (hu : X.A.units + 64 < cLine) (ho : PE X o td) (hi : PE X i ty) (hv : PE X value tv) (hs : swapsWith value (some (.Subscript o i pos')) pos.line X.env = pure false) :
    PS X (.Assign [.Subscript o i pos'] value pos) (sNPut X.K X.prog X.w td ty tv) := by
  refine ⟨fun pins s σ H D I h => ?_⟩
  refine wpAny_Assign_Subscript (thn (hv.run pins s σ H _ I h) fun r s1 ⟨v, H1, I1, rv, q1⟩ => thn (ho.run pins s1 σ H1 _ I1 q1) fun u s2 ⟨x, H2, I2, rx, q2⟩ => thn (hi.run pins s2 σ H2 _ I2 q2) fun iv s3 ⟨y, H3, I3, ry, d, t, xs, k, ex, ey, hd, hk, kb, dep, ks, sz, q3⟩ => ?_) hs
  subst ex
  subst ey
  obtain rfl : u = Value.ref d := rx
  obtain rfl : iv = Value.ref t := ry
  obtain ⟨nm, m⟩ := nD_at I3.hok hd fun e he => by
    obtain ⟨k', e1, kb', dep', dp'⟩ := ks e he
    rw [← e1]
    exact ⟨nested_of I3 k' _ _ kb' dp' rfl, dep'⟩
  refine wpAny_setItem_heap (knd := nestedKind X.prog X.w) (hsz := sz) (by show X.A.units + 1 + 8 < cLine; omega) ⟨nested_of I3 k _ _ kb hk rfl, dep⟩ m fun h' m' hs' => ?_
  obtain ⟨q, hq⟩ : ∃ q, h'.get? d = some q := let ⟨q, _, _, hq, _⟩ := m'; ⟨q, hq⟩
  exact ⟨σ, _, d_write I3 (by rw [hd]; exact True.intro) hs' ⟨q, hq⟩ (nD_ok nm m' hq), q3 _ rv⟩
/-- d[k] -/
def tNIx (K : PySem.W.Frag) (P : Program) (w : World) (td ty : TE) : TE := fun σ H Q => td σ H fun x H1 => ty σ H1 fun y H2 => ∃ (d t : Addr) (xs : List (NestedKey × Addr × Value)) (k : PyData) (u : Value) (v : V), x = .ref d ∧ y = .ref t ∧ H2 d = some (nD P w d xs) ∧ Dp K H2 y k ∧ keyable k = true ∧ (kOf k).depth ≤ 8 ∧
  (∀ e ∈ xs, ∃ k', kOf k' = e.1 ∧ keyable k' = true ∧ (kOf k').depth ≤ 8 ∧ Dp K H2 (.ref e.2.1) k') ∧ valueAt (pairsH xs) (kOf k) = some u ∧ RelV v u ∧ Q v H2
theorem pe_nix {o i : Expr} {pos : Pos} {td ty : TE} (hu : X.A.units + 64 < cLine) (ho : PE X o td) (hi : PE X i ty) (hs : NoSl i) : PE X (.Subscript o i pos) (tNIx X.K X.prog X.w td ty) := by
  refine ⟨fun pins s σ H Q I h => ?_⟩
  refine subD_of PySem.F.slot_dict_getitem.lookup hs (thn (ho.run pins s σ H _ I h) fun u s1 ⟨x, H1, I1, rx, q1⟩ => thn (hi.run pins s1 σ H1 _ I1 q1) fun iv s2 ⟨y, H2, I2, ry, d, t, xs, k, u', v, ex, ey, hd, hk, kb, dep, ks, at_, rv, q2⟩ => ?_)
  subst ex
  subst ey
  obtain rfl : u = Value.ref d := rx
  obtain rfl : iv = Value.ref t := ry
  obtain ⟨nm, m⟩ := nD_at I2.hok hd fun e he => by
    obtain ⟨k', e1, kb', dep', dp'⟩ := ks e he
    rw [← e1]
    exact ⟨nested_of I2 k' _ _ kb' dp' rfl, dep'⟩
  exact ⟨m.typeIs, getItem_keyed (knd := nestedKind X.prog X.w) (by show X.A.units + 1 + 8 < cLine; omega) ⟨nested_of I2 k _ _ kb hk rfl, dep⟩ ⟨xs, m, rfl⟩ at_ ⟨v, H2, I2.tok _, rv, q2⟩⟩
end
end L2

/-! own rules: {k: v}, a dict with one key, a nested tuple -/
namespace L2
open PySem PySem.Spec PyProof.Rows
def tN1 (K : PySem.W.Frag) (P : Program) (w : World) (tk tv : TE) : TE := fun σ H Q => ∀ p, H p = none → tk σ (upd H p (nD P w p [])) fun x H1 => tv σ H1 fun y H2 => ∃ (t : Addr) (k : PyData), x = .ref t ∧ H2 p = some (nD P w p []) ∧ Dp K H2 x k ∧ keyable k = true ∧ (kOf k).depth ≤ 8 ∧
  ∀ u, RelV y u → Q (.ref p) (upd H2 p (nD P w p [(kOf k, t, u)]))
section
variable {X : Cx}
theorem pe_n1 {k v : Expr} {pos : Pos} {tk tv : TE} (hu : X.A.units + 64 < cLine) (hk : PE X k tk) (hv : PE X v tv) : PE X (.Dict [some k] [v] pos) (tN1 X.K X.prog X.w tk tv) := by
  refine ⟨fun pins s σ H Q I h => ?_⟩
  have hn := I.hok.fresh (Nat.le_refl
        s.heap.objs.size)
  have nm : (s.heap.objs.size == sysModules) = false := beq_eq_false_iff_ne.mpr (Ne.symm (Nat.ne_of_lt I.big))
  have I1 := I.laid (a := s.heap.objs.size) (o := nD X.prog X.w s.heap.objs.size []) (h' := s.heap.push { cls := .type "dict", data := .dict #[] }) (t' := s.toks) (fun _ _ q => Heap.get?_push_of_some _ q) (Nat.le_refl _)
    (nD_ok nm (Heap.DictOfH.new s.heap) (Heap.get?_push_size _ rfl))
  have hz := zip_pairTrees [some k] [v] X.env pos rfl rfl
  have hl : (pairTrees [some k] [v] X.env pos).length = 1 := rfl
  rw [arm_eval_Dict, hz, dictDisplay_pairs (pairTrees [some k] [v] X.env pos) (by intro z; rw [z] at hl; cases hl) (by rw [hl]; decide)]
  refine wpAny_bind (wpAny_standAt (wpAny_bind (wpAny_subDictH (knd := nestedKind X.prog X.w) (Q := fun d s' => wpAny (model X.prog X.w) X.A (pure (Value.ref d)) _ X.xe s') (by show X.A.units + 8 < cLine; omega) (by rw [hl]; decide)
    (pairTrees_cons_walk (thn (hk.run pins _ σ _ _ I1 (h _ hn)) fun u s1 ⟨x, H1, I2, rx, q1⟩ => thn (hv.run pins s1 σ H1 _ I2 q1) fun z s2 ⟨y, H2, I3, ry, t, kk, ex, hd, hkk, kb, dep, q2⟩ => pairTrees_nil_walk ?_)))))
  subst ex
  obtain rfl : u = Value.ref t := rx
  obtain ⟨nm2, m⟩ := nD_at I3.hok hd fun _ h => nomatch h
  refine ⟨[(kOf kk, t, z)], ⟨rfl, rfl, ⟨nested_of I3 kk _ _ kb hkk rfl, dep⟩, True.intro⟩, m, fun h' tk m' hs => wpAny_pure ?_⟩
  obtain ⟨q, hq⟩ : ∃ q, h'.get? s.heap.objs.size = some q := let ⟨q, _, _, hq, _⟩ := m'; ⟨q, hq⟩
  exact ⟨.ref s.heap.objs.size, _, d_write I3 (by rw [hd]; exact True.intro) hs ⟨q, hq⟩ (nD_ok nm2 m' hq), rfl, q2 _ ry⟩
end
section
variable {X : Cx} (P : Program) (w : World) (e1 : X.prog = P) (e2 : X.w = w)
include e1 e2
theorem ne_n1 {k v : Expr} {pos : Pos} {tk tv : TE} (hu : X.A.units + 64 < cLine) (hk : PE X k tk) (hv : PE X v tv) : PE X (.Dict [some k] [v] pos) (tN1 X.K P w tk tv) := by
  subst e1 e2
  exact pe_n1 hu hk hv
theorem ne_new {pos : Pos} : PE X (.Dict [] [] pos) (tNNew P w) := by
  subst e1 e2
  exact pe_nnew
theorem ne_in {i o : Expr} {ty td : TE} (hu : X.A.units + 64 < cLine) (hi : PE X i ty) (ho : PE X o td) : PC X .In i o (tNIn X.K P w ty td) := by
  subst e1 e2
  exact pc_nin hu hi ho
theorem ne_notin {i o : Expr} {ty td : TE} (hu : X.A.units + 64 < cLine) (hi : PE X i ty) (ho : PE X o td) : PC X .NotIn i o (tNNotIn X.K P w ty td) := by
  subst e1 e2
  exact pc_nnotin hu hi ho
theorem ne_get2 {o e f : Expr} {apos cpos : Pos} {td ty tx : TE} (hu : X.A.units + 64 < cLine) (ho : PE X o td) (he : PE X e ty) (hf : PE X f tx) (m : M2 X o "get" apos e f cpos) : PE X (.Call (.Attribute o "get" apos) [e, f] [] cpos) (tNGet2 X.K P w td ty tx) := by
  subst e1 e2
  exact pe_nget2 hu ho he hf m
theorem ne_put {o i value : Expr} {pos pos' : Pos} {td ty tv : TE} (hu : X.A.units + 64 < cLine) (ho : PE X o td) (hi : PE X i ty) (hv : PE X value tv) (hs : swapsWith value (some (.Subscript o i pos')) pos.line X.env = pure false) :
    PS X (.Assign [.Subscript o i pos'] value pos) (sNPut X.K P w td ty tv) := by
  subst e1 e2
  exact ps_nput hu ho hi hv hs
theorem ne_ix {o i : Expr} {pos : Pos} {td ty : TE} (hu : X.A.units + 64 < cLine) (ho : PE X o td) (hi : PE X i ty) (hs : NoSl i) : PE X (.Subscript o i pos) (tNIx X.K P w td ty) := by
  subst e1 e2
  exact pe_nix hu ho hi hs
end
theorem hu64 {k : Nat} {A : Around} (r : Room k A) : A.units + 64 < cLine := by have := r.un; omega
end L2

namespace L2
open PySem PySem.Spec PyProof.Rows
/-! own rule: list(o.values()), values of any kind -/
theorem vals_by_at : ∀ (xs : List V) (us : List Value), us.length = xs.length → (∀ (i : Nat) (x : V) (u : Value), xs[i]? = some x → us[i]? = some u → RelV x u) → Vals xs us
  | [], [], _, _ => .nil
  | [], _ :: _, h, _ => by simp at h
  | _ :: _, [], h, _ => by simp at h
  | x :: xs, u :: us, h, hr => .cons (hr 0 x u rfl rfl) (vals_by_at xs us (by simpa using h) fun i x' u' a b => hr (i + 1) x' u' a b)
def tListVals (td : TE) : TE := fun σ H Q => td σ H fun x H1 => ∃ a kvs, x = V.ref a ∧ H1 a = some (.dK kvs) ∧ ∀ p, H1 p = none → Q (.ref p) (upd H1 p (.lst (kvs.map fun kv => kv.2)))
section
variable {X : Cx} {o : Expr} {p pos apos mpos : Pos} {td : TE}
theorem pe_listVals (hc : X.calm = true) (hg : Gl X "list") (hm : X.mg "list" = none) (hd : PE X o td) (hbase : attributeBase o "values" X.env (eval o X.env) = eval o X.env := by rfl) (hline : (apos.endLine == mpos.line) = true := by rfl)
    (hse : starEach [Expr.Call (.Attribute o "values" apos) [] [] mpos] X.env = [(false,
          eval (Expr.Call (.Attribute o "values" apos) [] [] mpos) X.env)] := by rfl) :
    PE X (.Call (.Name "list" p) [.Call (.Attribute o "values" apos) [] [] mpos] [] pos) (tListVals td) := by
  refine ⟨fun pins s σ H Q I h => ?_⟩
  refine wpAny_Call_Name_kw (ld_blt I hg hm (u := .type "list") (by first | rfl | decide +kernel) ?_ (by first | decide +kernel | decide) (by first | decide +kernel | decide))
  rw [hse]
  refine PySem.callWith_type1 (wpAny_Call_method0_late hbase hline (thn (hd.run pins s σ H _ I h) fun v s1 ⟨x, H1, I1, r1, a, kvs, ex, ha, q⟩ => ?_))
  subst ex
  obtain rfl : v = Value.ref a := r1
  obtain ⟨z, hsys, vs, rel, dof⟩ := dk_of I1.hok ha
  obtain ⟨ep, dat⟩ := dof.dictAt
  have dat' := dat
  obtain ⟨ob, es, ho, ex, hdat,
        hko, hpr, hnd⟩ := dat'
  refine ⟨"dict", "dict.values", PySem.F.plainAttrs_dict, PySem.F.slot_dict_values, PySem.F.type_dict_values, ⟨ob, ho, ex.1⟩, fun b e => ?_, Calls.callWith_builtin rfl (PySem.evalArgs_none ?_)⟩
  · cases e
    exact ⟨ob, ho, ex.2.1⟩
  refine call_meetsIn PySem.F.slot_dict_values ⟨ob, ho, ex.1⟩ PySem.F.entry_dict_values (PySem.F.args_dict_values_1 _) (meets_dict_values (mixKind X.prog X.w) a hsys) ⟨⟨vs, dof⟩, ?_⟩
  have k1 : ∀ b u, s1.heap.get? b = some u →
      (s1.heap.push { cls := .type "dict_values", data := .fields #[.ref a] }).get? b = some u :=
    fun b u e => Heap.get?_push_of_some _ e
  have dat1 :
      (s1.heap.push { cls := .type "dict_values", data := .fields #[.ref a] }).DictAt (mixKind X.prog X.w) a vs ep :=
    dat.keep k1
  have hlv : vs.length = kvs.length := (KV.length rel).symm
  refine PySem.W.kdl_call (PySem.W.kdl_values (knd := mixKind X.prog X.w) (d := a) (r := s1.heap.objs.size) (kvs := vs) (ep := ep)) (I.ok.hd hc) ⟨⟨_, Heap.get?_push_size _ rfl, rfl, rfl⟩, dat1⟩ (by rw [hlv]; exact z) fun h' tk acc c' hk hD hacc => ?_
  have I2 := I1.kept (t' := s1.toks) k1
  have hv : Vals (kvs.map fun kv => kv.2) acc.toList := vals_by_at _ _ (by rw [Array.length_toList, List.length_map, ← hlv]; exact hacc.1) fun i x u e1 e2 => by
    obtain ⟨k, hk2⟩ := hacc.2 i u (by rw [← Array.getElem?_toList]; exact e2)
    obtain ⟨y, h1, h2⟩ := KV.at' rel hk2
    rw [List.getElem?_map, h1] at e1
    cases e1
    exact h2
  refine ⟨.ref _, upd H1 _ (.lst (kvs.map fun kv => kv.2)), I2.laid (t' := tk) hk (Nat.le_refl _) ⟨by rw [List.length_map]; exact z, acc.toList, c', hv, by rw [Array.toArray_toList]; exact hD⟩, rfl, q _ (I2.hok.fresh (Nat.le_refl _))⟩
end
end L2

namespace L2
open PySem PySem.Spec PyProof.Rows
/-! own rules: min(t) of a tuple of whole numbers; sorted(set(l)) of a list of whole numbers -/
def rMinT (K : PySem.W.Frag) : List V → Hp → VK → Prop := fun vs H Q => ∃ (a : Addr) (ns : List Int), vs = [V.ref a] ∧ SqT K H a (ns.map V.int) ∧ 0 < ns.length ∧ ∀ m, m ∈ ns → (∀ y, y ∈ ns → m ≤ y) → Q (.int m) H
section
variable {P : Program} {w : World} {A : Around}
      {E : Value → Shared → Prop} {s : Shared}
theorem least_tup {Q : Value → Shared → Prop} {l : Addr} {its : List Value} {ns : List Int} (hh : A.handled = none) (hl : s.heap.IsTuple l its.toArray) (hi : IntsAre its ns) (hne : 0 < ns.length)
    (h : ∀ h' tk M t', (∀ b o, s.heap.get? b = some o → h'.get? b = some o) → M ∈ ns → (∀ a, a ∈ ns → M ≤ a) → Q (.int M t') { s with heap := h', toks := tk }) : wpAny (model P w) A (call (.builtin "min") [.ref l]) Q E s := by
  have lt : l < s.heap.objs.size := by
    obtain ⟨o, e, _⟩ := hl
    exact Heap.lt_size e
  obtain ⟨xs, e⟩ := hi.allInts.items
  have nn : (xs.toList.map (·.1)) = ns := by
    have h1 : numsOf (intItems xs).toList = ns := by
      rw [← e]
      exact hi.numsOf
    rw [nums_intItems] at h1
    exact h1
  rw [e] at hl
  have pos : 0 < xs.size := by rw [← nn] at hne; simpa using hne
  refine call_min_walk (wpAny_pyIter_tuple hl ⟨_, _, _, _, _, _, _, rfl, Walks.tuple (A := A.in1) hh _ l (Nat.ne_of_lt lt) (intItems xs), ⟨⟨_, Heap.get?_push_size _ rfl, rfl, rfl⟩, hl.push _⟩, fun b hb => ?_, by simpa [intItems] using pos,
    CmpOf.ints_lt (numAt xs) (fun _ _ => intItems_at), fun v h' tk hP hk => ?_⟩)
  · show b < (s.heap.push _).objs.size
    rw [Heap.size_push]
    rcases List.mem_cons.mp hb with rfl | hb
    · exact Nat.lt_succ_self _
    · rw [List.mem_singleton.mp hb]
      exact Nat.lt_succ_of_lt lt
  · have hv : (intItems xs)[argBest (fun i j => decide (numAt xs i < numAt xs j)) (xs.size - 1)]? = some v := by simpa [intItems] using hP
    obtain ⟨t, rfl⟩ := intItems_at hv
    obtain ⟨b1, b2⟩ := argBest_lt (numAt xs) (xs.size - 1)
    refine h h' tk _ t (fun b o eo => hk b o (fun hm => ?_) (Heap.get?_push_of_some _ eo)) ?_ fun a ha => ?_
    · rw [List.mem_singleton] at hm
      exact absurd (hm ▸ Heap.lt_size eo) (Nat.lt_irrefl _)
    · rw [numAt_eq, ← nn]
      exact PySem.getD_mem (by rw [List.length_map, Array.length_toList]; omega)
    · rw [← nn] at ha
      obtain ⟨j, hj, rfl⟩ := mem_getD ha
      rw [List.length_map, Array.length_toList]
            at hj
      rw [← numAt_eq]
      exact b2 j (by omega)
end
theorem cr_minT {X : Cx} (hc : X.calm = true) : CallR X (.builtin "min") (rMinT X.K) := by
  rintro pins s σ H vs us Q I r ⟨a, ns, rfl, hs, hne, q⟩
  obtain ⟨its, rv, hl, _⟩ := I.tuple hs
  rw [Vals.ref1 r]
  exact least_tup (I.ok.hd hc) hl rv.ints hne fun h' tk m t' hk h1 h2 => ⟨.int _, H, I.kept hk, ⟨_, rfl⟩, q m h1 h2⟩
end L2

namespace L2
open PySem PySem.Spec PyProof.Rows
/-- an empty set as the model lays it -/
abbrev eset (w : World) : Obj := { cls := .type "set", dict := none, data := .set #[] 0 (.fresh 0 0 (!w.params.followText "set-order")) }
section
variable {P : Program} {w : World} {A : Around}
      {E : Value → Shared → Prop} {s : Shared}
set_option maxHeartbeats 8000000 in
/-- set(l), the order of its table known -/
theorem set_of_ints {l : Addr} {items : Array Value} (ns : List Int) {Q : Value → Shared → Prop} (hh : A.handled = none) (hl : s.heap.IsList l items) (hit : IntsAre items.toList ns) (hb : ns.length + 1 < scanBound)
    (h : ∀ (h' : Heap) (tk c : Nat), SetR w h' s.heap.objs.size (fun j => decide (j ∈ ns)) c → c ≤ ns.length → (∀ b o,
          s.heap.get? b = some o → h'.get? b = some o) → Q (.ref s.heap.objs.size) { s with heap := h', toks := tk }) :
    wpAny (model P w) A (call (.type
          "set") [.ref l]) Q E s := by
  have size : items.size = ns.length := by rw [← Array.length_toList]; exact IntsAre.length hit
  obtain ⟨c0, tl0, mro⟩ := F.called_set.mro
  have made := F.called_set.made
  have subs := F.called_set.sub
  refine wpAny_call (codeAny_of_tree ?_)
  show wpAny _ _ (callAny
        (.type "set") _) _ _ _
  refine wpAny_pure ⟨Code.quiet_builtin _ (by decide +kernel),
    codeAny_builtin F.entry_type_call ?_⟩
  rw [Around.under_plain (weight_type_call_type
        "set" [.ref l] []) rfl]
  have nt := F.called_set.notType
  have cc := F.called_set.canCreate
  have tc := F.typeCall_set_1 (.ref l)
  repeat (any_goals (first
        | assumption | wp_step))

  refine codeAny_mono (code_set_led1 (.ref l) (E := E) (Q₁ := fun obj s₁ => obj = .ref s.heap.objs.size ∧ s₁ = { s with heap := s.heap.push (eset w) }) ⟨rfl, rfl⟩) fun r s₁ hr => ?_
  rcases r with e | fl
  · exact hr
  cases fl
  case ret obj =>
    obtain ⟨rfl, rfl⟩ := hr
    have at0 : (s.heap.push (eset w)).get? s.heap.objs.size = some (eset w) := Heap.get?_push_size _ rfl
    have ty0 : Shared.TypeIs { s with heap := s.heap.push (eset w) } (.ref s.heap.objs.size) "set" := ⟨_, at0, rfl⟩
    have li := F.called_set.init.lookup
    have bi := F.called_set.init.bind (.ref s.heap.objs.size)
    repeat (any_goals (first
          | assumption | wp_step))

    refine codeAny_mono (codeAny_call_builtin (R := wants (fun r s₂ => r = .none ∧ ∃ h' tk c, s₂ = { s with heap := h', toks := tk } ∧ SetR w h' s.heap.objs.size (fun j => decide (j ∈ ns)) c ∧ c ≤ ns.length ∧ (∀ b o, s.heap.get? b = some o → h'.get? b = some o)) E)
      F.called_set.init.plain F.entry_set_init (check_set_init_1 ty0 ?_)) fun r₂ s₂ hr₂ => ?_
    · have lS : l < s.heap.objs.size := by
        obtain ⟨o, e, _⟩ := hl
        exact Heap.lt_size e
      obtain ⟨⟨lc, ld, lda, lsl⟩, hol, q1, nl, q2⟩ := hl
      simp only at q1 q2
      subst q1
      subst q2
      have hol1 : (s.heap.push (eset w)).get? l = some { cls := .type "list", dict := ld, data := .seq items nl, slots := lsl } := Heap.get?_push_of_some _ hol
      have lists : (s.heap.push (eset w)).IsList l items := ⟨_, hol1, rfl, nl, rfl⟩
      have sub1 := F.sub_list_set
      have sub2 := F.sub_list_frozenset
      have nodict : (Value.type "list" == Value.type "dict") = false := by decide
      unfold Builtin.«set.__init__» noKeywords
            Builtin.Frozenset.updateFrom
      generalize hPI : pyIter = PI
      wp_walk
      subst hPI
      refine wpAny_pyIter_list lists ?_
      refine wpAny_bind (wpAny_runValue ?_)
      have none3 : A.in1.in1.in1.handled = none := by simp [hh]
      have sz1 : (s.heap.push (eset w)).objs.size = s.heap.objs.size + 1 := Heap.size_push ..
      have apart1 : l ≠ (s.heap.push (eset w)).objs.size := by
        rw [sz1]
        exact Nat.ne_of_lt (Nat.lt_succ_of_lt lS)
      have apart2 : s.heap.objs.size ∉ [(s.heap.push (eset w)).objs.size, l] := by
        rw [sz1]
        intro z
        rcases List.mem_cons.mp z with z | z
        · exact Nat.ne_of_lt (Nat.lt_succ_self _) z
        · exact Nat.ne_of_gt lS (List.mem_singleton.mp z)
      have itv : ∀ (i : Nat) (v : Value), items[i]? = some v → ∃ k t, ns[i]? = some k ∧ v = .int k t := fun i v hv => by
        have hi : i < ns.length := by
          rw [← size]
          exact (Array.getElem?_eq_some_iff.mp hv).1
        have hv2 : items.toList[i]? = some v := by
          rw [Array.getElem?_toList]
          exact hv
        obtain ⟨t, e⟩ := PyProof.Rows.IntsAre.int_at hit i v hv2
        have en : ns.getD i 0 = ns[i] := by rw [List.getD_eq_getElem?_getD, List.getElem?_eq_getElem hi]; rfl
        exact ⟨ns[i], t, List.getElem?_eq_getElem hi, by rw [e, en]⟩
      refine set_update_ints ((Walks.list none3 _ l apart1 items).toS) s.heap.objs.size apart2 ns size hb itv (items.size - 0) 0 _ (by omega) (Nat.zero_le _)
        ⟨⟨_, Heap.get?_push_size _ rfl, rfl, rfl⟩, (lists.push _)⟩ ⟨0, Nat.le_refl 0, setR_new_at (Heap.get?_push_of_some _ at0)⟩ ?_
      intro s' c' mv hc' hS'
      obtain ⟨h', g2, d', tk', os'⟩ := s'
      obtain rfl : g2 = s.gens := mv.gens
      obtain rfl : d' = s.drawn := mv.drawn
      obtain rfl : os' = s.os := mv.os
      show wpAny _ _ _ _ _ _
      refine wpAny_pure ?_
      show wpAny _ _ (ret Value.none) _ _ _
      rw [size] at hc'
      refine wpAny_pure ⟨rfl, h', tk', c',
            rfl, hS', hc', fun b o e => ?_⟩
      have lb : b < s.heap.objs.size := Heap.lt_size e
      refine mv.heap b o (fun z => ?_) (Heap.get?_push_of_some _ (Heap.get?_push_of_some _ e))
      rcases List.mem_cons.mp z with z | z
      · exact Nat.ne_of_lt lb z
      · rw [List.mem_singleton, sz1] at z
        exact Nat.ne_of_lt (Nat.lt_succ_of_lt lb) z
    · rcases r₂ with e | fl₂
      · exact hr₂
      cases fl₂
      case ret r =>
        obtain ⟨rfl, h', tk, c, rfl, k1, k2, k3⟩ := hr₂
        repeat (any_goals (first
              | assumption | wp_step))
        exact h _ _ _ k1 k2 k3
      all_goals exact hr₂.elim
  all_goals exact hr.elim
end
/-- sorted(set(l)), l whole numbers -/
def tSortedSet (K : PySem.W.Frag) (ta : TE) : TE := fun σ H Q => ta σ H fun x H1 => ∃ (l : Addr) (ns : List Int), x = V.ref l ∧ SqL K H1 l (ns.map V.int) ∧ ns.length < 64 ∧ ∀ (ms : List Int) (p : Addr), ms.Pairwise (· < ·) → (∀ k, k ∈ ms ↔ k ∈ ns) → H1 p = none → Q (.ref p) (upd H1 p (.lst (ms.map V.int)))
theorem pe_sortedSet {X : Cx} {a : Expr} {ta : TE} {p p2 q pos : Pos} (hc : X.calm = true) (gl : Gl X "sorted") (ml : X.mg "sorted" = none) (gs : Gl X "set") (ms : X.mg "set" = none) (ha : PE X a ta)
    (one : starEach [a] X.env = (false, eval a X.env) :: starEach [] X.env := by rfl) : PE X (.Call (.Name "sorted" p) [.Call (.Name "set" p2) [a] [] q] [] pos) (tSortedSet X.K ta) := by
  constructor
  intro pins s σ H Q I h
  refine Call_ (ld_blt I gl ml (u := .builtin "sorted") (by decide +kernel) (PyProof.Rows.callWith_builtin1 (PyProof.Rows.args_cons ?_ rfl) rfl rfl))
  refine Call_ (ld_blt I gs ms PyProof.Rows.boot_set (PyProof.Rows.callWith_type1 (PyProof.Rows.args_cons (thn (ha.run pins s σ H _ I h) ?_) one) one rfl))
  rintro v s1 ⟨x, H1, I1, rx, l, ns, rfl, seq, few, z⟩
  obtain rfl : v = Value.ref l := rx
  refine PyProof.Rows.args_nil ?_
  obtain ⟨its, rv, at_l, _⟩ := I1.list seq
  refine set_of_ints ns (I1.ok.hd hc) at_l.isList (intsAre_of rv) (by unfold scanBound; omega) fun h' tk c R hc' keep => ?_
  refine PyProof.Rows.args_nil ?_
  have I2 : Inv X pins σ H1 { s1 with heap := h', toks := tk } := I1.kept fun b o e => keep b o e
  refine sorted_set R (I1.ok.hd hc) (by omega) fun s' p out c2 ms2 k1 k2 k3 hp hL hi lt mem len => ?_
  have short : (ms2.map V.int).length ≤ sizeLine := by
    rw [List.length_map, len, sizeLine_eq]
    omega
  have J : Inv X pins σ (upd H1 p (.lst (ms2.map V.int))) { s1 with heap := s'.heap, gens := s'.gens, drawn := s'.drawn, toks := s'.toks } :=
    Inv.call (s := { s1 with heap := h', toks := tk }) I2 (ch := []) (Un.laid k1 hp (I2.hok.fresh hp)) (I2.hok.laid k1 hp ⟨short, out.toList, c2, vals_of_ints hi, hL⟩) (by rw [k2]; exact I2.bare) (fun _ e => nomatch e)
  have same : s' = { s1 with heap := s'.heap, gens := s'.gens, drawn := s'.drawn, toks := s'.toks } := by
    obtain ⟨_, _, _, _, _⟩ := s'
    obtain ⟨_, _, _, _, _⟩ := s1
    cases k3
    rfl
  rw [same]
  exact ⟨.ref p, _, J, rfl, z ms2 p lt (fun k => by rw [mem k, decide_eq_true_eq]) (I2.hok.fresh hp)⟩
end L2

namespace L2
open PySem PySem.Spec PyProof.Rows
/-! own rule: sorted(t) of a tuple of whole numbers -/
section
variable {P : Program} {w : World} {A : Around}
      {E : Value → Shared → Prop} {s : Shared}
theorem sorted_of_tup {l : Addr} {vs : List Value} {ns : List Int} {Q : Value → Shared → Prop} (hl : s.heap.IsTuple l vs.toArray) (hi : IntsAre vs ns) (few : ns.length < 64)
    (hQ : ∀ h' p (out : Array Value) (c : Nat) (ms : List Int), (∀ b o, s.heap.get? b = some o → h'.get? b = some o) → s.heap.get? p = none → h'.get? p = some (seqObj "list" out c) → IntsAre out.toList ms → ms.Perm ns → ms.Pairwise (· ≤ ·) → Q (.ref p) { s with heap := h' }) :
    wpAny (model P w) A (call (.builtin "sorted") [.ref l]) Q E s := by
  have len : vs.length = ns.length := IntsAre.length hi
  have f64 : vs.length < 64 := by omega
  obtain ⟨o, ho, hc, n, hd⟩ := hl
  refine Calls.call_function_entry kind_sorted plain_sorted
        entry_sorted (args_sorted1 _) ?_
  unfold Builtin.«sorted»
  refine wpAny_bind (m := checkCount
        "sorted" 1 1 _) (wpAny_pure ?_)
  refine wpAny_bind (wpAny_collect_seq l (.inr rfl) ho hc hd (fun h1 k1 => ?_) (by rw [List.size_toArray, sizeLine_eq]; omega))
  refine wpAny_bind (wpAny_newList ?_ (by rw [sizeLine_eq]; show vs.length ≤ _; omega))
  have at1 : (h1.push (seqObj "list" vs.toArray 0)).get? h1.objs.size = some (seqObj "list" vs.toArray 0) := Heap.get?_push_size _ rfl
  refine wpAny_bind (wpAny_holding (wpAny_call_entry slot_list_sort ⟨_, at1, rfl⟩ entry_list_sort (list_sort_tree at1 hi f64 fun out ms a1 a2 a3 => ⟨_, rfl, ?_⟩) (args_list_sort _)))
  obtain ⟨c, hp⟩ := sortedHeap_at (vs := vs) (out := out) at1
  have above : s.heap.get? h1.objs.size = none := by
    cases e : s.heap.get? h1.objs.size with
    | none => rfl
    | some u => exact absurd (Heap.lt_size (k1 _ _ e)) (Nat.lt_irrefl _)
  refine wpAny_pure ⟨_, rfl, hQ _ h1.objs.size out c ms (fun b u e => ?_) above hp a1 a2 a3⟩
  have e1 := k1 b u e
  have lb := Heap.lt_size e1
  rw [sortedHeap_old (Nat.ne_of_lt lb) (by rw [size_push']; exact Nat.lt_succ_of_lt lb)]
  exact Heap.get?_push_of_some _ e1
end
def rSortTup (K : PySem.W.Frag) : List V → Hp → VK → Prop := fun vs H Q => ∃ (a : Addr) (ns : List Int), vs = [V.ref a] ∧ SqT K H a (ns.map V.int) ∧ ns.length < 64 ∧ ∀ (ms : List Int) (p : Addr), ms.Perm ns → ms.Pairwise (· ≤ ·) → H p = none → Q (.ref p) (upd H p (.lst (ms.map V.int)))
theorem cr_sortTup {X : Cx} (hc : X.calm = true) : CallR X (.builtin "sorted") (rSortTup X.K) := by
  rintro pins s σ H vs us Q I r ⟨a, ns, rfl, hs, few, q⟩
  obtain ⟨its, rv, hl, _⟩ := I.tuple hs
  rw [Vals.ref1 r]
  refine sorted_of_tup hl rv.ints few fun h' p out c ms k up hp hi pm pw => ?_
  have short : (ms.map V.int).length ≤ sizeLine := by
    rw [List.length_map, pm.length_eq, sizeLine_eq]
    omega
  exact ⟨.ref p, _, I.laidN (t' := s.toks) (o := .lst (ms.map V.int)) k up (I.hok.gone up) ⟨short, out.toList, c, vals_of_ints hi, hp⟩, rfl, q ms p pm pw (I.hok.gone up)⟩
end L2

namespace L2
open PySem PySem.Spec PyProof.Rows PySem.W
/-! own rule: sorted(l) of a list of tuples of any data -/
def rSortedD (K : PySem.W.Frag) : List V → Hp → VK → Prop := fun vs H Q => ∃ (a : Addr) (xs : List V) (ds : List PyData), vs = [V.ref a] ∧ SqL K H a xs ∧ DpAll K H xs ds ∧ AllAlike ds ∧ Sortable ds ∧ (∀ d ∈ ds, d.depth ≤ 60) ∧
  ∀ p, H p = none → Q (.ref p) (upd H p (.lst (((xs.zip ds).mergeSort (dataLe false Prod.snd)).map Prod.fst)))
theorem each_zip {X : Cx} {pins : List (Addr × Obj)} {σ : St} {H : Hp} {s : Shared} (I : Inv X pins σ H s) : ∀ (xs : List V) (ds : List PyData) (us : List Value), Vals xs us → DpAll X.K H xs ds →
    EachIs (fun (v : Value) (b : V × PyData) => RelV b.1 v) us (xs.zip ds) ∧ EachIs (fun (v : Value) (b : V × PyData) => ∃ as, Reads s.heap v b.2 as) us (xs.zip ds)
  | _, _, _, .nil, .nil => ⟨.nil, .nil⟩
  | _, _, _, .cons r rs, .cons d ds => by
    obtain ⟨h1, h2⟩ := each_zip I _ _ _ rs ds
    exact ⟨.cons r h1, .cons (Dp.reads I _ _ _ d r) h2⟩
theorem vals_of_each : ∀ {us : List Value} {bs : List (V × PyData)}, EachIs (fun (v : Value) (b : V × PyData) => RelV b.1 v) us bs → Vals (bs.map Prod.fst) us
  | _, _, .nil => .nil
  | _, _, .cons h t => .cons h (vals_of_each t)
theorem DpAll.len {K : PySem.W.Frag} {H : Hp} : ∀ {xs : List V} {ds : List PyData}, DpAll K H xs ds → xs.length = ds.length
  | _, _, .nil => rfl
  | _, _, .cons _ t => by rw [List.length_cons, List.length_cons, DpAll.len t]
theorem cr_sortedD {X : Cx} (hu : X.A.units + 64 < cLine) : CallR X (.builtin "sorted") (rSortedD X.K) := by
  rintro pins s σ H vs us Q I r ⟨a, xs, ds, rfl, hs, hd, al, so, dep, q⟩
  obtain ⟨its, rv, hl, few⟩ := I.list hs
  rw [Vals.ref1 r]
  obtain ⟨e1, e2⟩ := each_zip I xs ds its rv hd
  have ms : (xs.zip ds).map Prod.snd = ds := List.map_snd_zip (by rw [hd.len]; exact Nat.le_refl _)
  have zl : (xs.zip ds).length = xs.length := by rw [List.length_zip, hd.len, Nat.min_self]
  refine sorted_data (enc := Prod.snd) hl.isList e1 e2 (by rw [ms]; exact al) (by rw [ms]; exact so) (by rw [zl]; exact few) (fun b hb => ?_) fun out lo eo => ?_
  · have := dep b.2 (by rw [← ms]; exact List.mem_map.mpr ⟨b, hb, rfl⟩)
    omega
  · obtain ⟨c, at'⟩ := PyProof.Rows.sortedAll_at s.heap its (List.toArray out)
    have v := vals_of_each eo
    have short : ((((xs.zip ds).mergeSort (dataLe false Prod.snd)).map Prod.fst)).length ≤ sizeLine := by
      rw [List.length_map, List.length_mergeSort, zl]
      exact few
    exact ⟨.ref _, _, I.laid (t' := s.toks) (o := .lst (((xs.zip ds).mergeSort (dataLe false Prod.snd)).map Prod.fst)) (fun _ _ => PyProof.Rows.sortedAll_old) (Nat.le_succ _) ⟨short, out, c, v, at'⟩, rfl, q _ (I.hok.fresh (Nat.le_succ _))⟩
end L2

/-! own rule: sorted(d) of a dict keyed by nested tuples: the keys, by their data -/
namespace L2
open PySem PySem.Spec PyProof.Rows PySem.W
def rSortedN (K : PySem.W.Frag) (P : Program) (w : World) : List V → Hp → VK → Prop := fun vs H Q => ∃ (d : Addr) (xs : List (NestedKey × Addr × Value)) (ds : List PyData), vs = [V.ref d] ∧ H d = some (nD P w d xs) ∧ xs.map (·.1) = ds.map kOf ∧ DpAll K H (xs.map fun e => V.ref e.2.1) ds ∧
  (∀ dd ∈ ds, keyable dd = true ∧ (kOf dd).depth ≤ 8 ∧ dd.depth ≤ 40) ∧ AllAlike ds ∧ Sortable ds ∧ xs.length ≤ sizeLine ∧
  ∀ p, H p = none → Q (.ref p) (upd H p (.lst ((((xs.map fun e => V.ref e.2.1).zip ds).mergeSort (dataLe false Prod.snd)).map Prod.fst)))
theorem keys_of : ∀ (xs : List (NestedKey × Addr × Value)) (ds : List PyData), xs.map (·.1) = ds.map kOf → ∀ {K : PySem.W.Frag} {H : Hp}, DpAll K H (xs.map fun e => V.ref e.2.1) ds → (∀ dd ∈ ds, keyable dd = true ∧ (kOf dd).depth ≤ 8 ∧ dd.depth ≤ 40) →
    ∀ e ∈ xs, ∃ k', kOf k' = e.1 ∧ keyable k' = true ∧ (kOf k').depth ≤ 8 ∧ Dp K H (.ref e.2.1) k'
  | [], _, _, _, _, _, _, e, he => by cases he
  | x :: xs, [], h, _, _, _, _, _, _ => by cases h
  | x :: xs, d :: ds, h, K, H, hd, hk, e, he => by
    obtain ⟨h1, h2⟩ := List.cons.inj h
    cases hd with
    | cons d1 d2 =>
      rcases List.mem_cons.mp he with rfl | he
      · exact ⟨d, h1.symm, (hk d List.mem_cons_self).1, (hk d List.mem_cons_self).2.1, d1⟩
      · exact keys_of xs ds h2 d2 (fun dd m => hk dd (List.mem_cons_of_mem _ m)) e he
theorem vals_keysN : ∀ (xs : List (NestedKey × Addr × Value)) (us : List Value), us.length = xs.length → (∀ (j : Nat) (v : Value), us[j]? = some v → ∃ y, xs[j]? = some y ∧ v = .ref y.2.1) → Vals (xs.map fun e => V.ref e.2.1) us
  | [], [], _, _ => .nil
  | [], _ :: _, h, _ => by cases h
  | _ :: _, [], h, _ => by cases h
  | x :: xs, u :: us, h, f => by
    obtain ⟨y, e1, e2⟩ := f 0 u rfl
    cases e1
    subst e2
    exact .cons rfl (vals_keysN xs us (by simpa using h) fun j v e => f (j + 1) v e)
theorem cr_sortedN {X : Cx} (P : Program) (w : World) (e1 : X.prog = P) (e2 : X.w = w) (hcalm : X.calm = true) (hu : X.A.units + 64 < cLine) : CallR X (.builtin "sorted") (rSortedN X.K P w) := by
  subst e1 e2
  rintro pins s σ H vs us Q I r ⟨d, xs, ds, rfl, hd, ek, hdp, hks, al, so, few, q⟩
  rw [Vals.ref1 r]
  obtain ⟨nm, m⟩ := nD_at I.hok hd fun e he => by
    obtain ⟨k', g1, kb', dep', dp'⟩ := keys_of xs ds ek hdp hks e he
    rw [← g1]
    exact ⟨nested_of I k' _ _ kb' dp' rfl, dep'⟩
  obtain ⟨es, ep, raw, esz, ent⟩ := m.raw
  refine Calls.call_function_entry PyProof.Rows.kind_sorted PyProof.Rows.plain_sorted
        PyProof.Rows.entry_sorted (PyProof.Rows.args_sorted1 _) ?_
  unfold Builtin.«sorted»
  refine wpAny_bind (m := checkCount
        "sorted" 1 1 _) (wpAny_pure ?_)
  refine wpAny_bind (PySem.W.kdu_collect (A := X.A.in1) (KdlSrc.rawDict (prog := X.prog) (w := X.w) (es := es) (ep := ep) nm) (I.ok.hd hcalm) raw (by rw [esz]; exact few) fun h' tk acc hk hacc => ?_)
  have hal : acc.toList.length = xs.length := by rw [Array.length_toList, hacc.1, esz]
  have rv : Vals (xs.map fun e => V.ref e.2.1) acc.toList := vals_keysN xs _ hal fun j v e => by
    obtain ⟨hi, ev⟩ := hacc.2 j v (by rw [← Array.getElem?_toList]; exact e)
    obtain ⟨y, y1, y2, _⟩ := ent j hi
    exact ⟨y, y1, by rw [ev, y2]⟩
  have I1 : Inv X pins σ H { s with toks := tk, heap := h' } := I.kept hk
  obtain ⟨f1, f2⟩ := each_zip I1 _ ds _ rv hdp
  have lds : ds.length = xs.length := by
    have := congrArg List.length ek
    rw [List.length_map, List.length_map] at this
    exact this.symm
  have ms : ((xs.map fun e => V.ref e.2.1).zip ds).map Prod.snd = ds := List.map_snd_zip (by rw [List.length_map, lds]; exact Nat.le_refl _)
  have zl : ((xs.map fun e => V.ref e.2.1).zip ds).length = xs.length := by rw [List.length_zip, List.length_map, lds, Nat.min_self]
  refine wpAny_bind (wpAny_newList ?_ (by rw [hal]; exact few))
  have hoL : (h'.push (seqObj "list" acc.toList.toArray 0)).get? h'.objs.size
        = some (seqObj "list" acc.toList.toArray 0) := Heap.get?_push_size _ rfl
  show wpAny _ _ _ _ _ { s with toks := tk, heap := h'.push (seqObj "list" acc.toList.toArray 0) }
  have er' : EachIs (fun (v : Value) (b : V × PyData) => ∃ as, Reads (sortingHeap (h'.push (seqObj "list" acc.toList.toArray 0)) h'.objs.size acc.toList) v b.2 as) acc.toList ((xs.map fun e => V.ref e.2.1).zip ds) :=
    f2.mono fun _ _ ⟨as, rr⟩ => ⟨as, PyProof.Rows.Reads.keeps (fun b o e => sortingHeap_old (Nat.ne_of_lt (Heap.lt_size e)) (Heap.get?_push_of_some _ e)) rr⟩
  refine wpAny_bind (wpAny_holding (wpAny_call_entry PyProof.Rows.slot_list_sort
        ⟨_, hoL, rfl⟩ PyProof.Rows.entry_list_sort
    (list_sort_vals (κ := dataKind (sortingHeap (h'.push (seqObj "list" acc.toList.toArray 0)) h'.objs.size acc.toList) (((xs.map fun e => V.ref e.2.1).zip ds).map Prod.snd)) hoL
      (SortsAt.data (s := { s with heap := sortingHeap (h'.push (seqObj "list" acc.toList.toArray 0)) h'.objs.size acc.toList, toks := tk }) (each_map (R := fun v d => ∃ as, Reads (sortingHeap (h'.push (seqObj "list" acc.toList.toArray 0)) h'.objs.size acc.toList) v d as) Prod.snd er') (by rw [ms]; exact al) (by rw [ms]; exact so) (bound_map fun b hb => ?_)) (by rw [hal]; exact few)
      ⟨.none, rfl, ?_⟩) (PyProof.Rows.args_list_sort _)))
  · have := (hks b.2 (by rw [← ms]; exact List.mem_map.mpr ⟨b, hb, rfl⟩)).2.2
    show X.A.units + 1 + 1 + b.2.depth < cLine
    omega
  have eo := sortVals_data (R := fun (v : Value) (b : V × PyData) => RelV b.1 v) (enc := Prod.snd) false f1 er' (by rw [ms]; exact al)
  generalize sortVals (dataKind (sortingHeap (h'.push (seqObj "list" acc.toList.toArray 0)) h'.objs.size acc.toList) (((xs.map fun e => V.ref e.2.1).zip ds).map Prod.snd)) false acc.toList acc.toList = out at eo ⊢
  obtain ⟨e', he'⟩ := PyProof.Rows.sortedHeap_at (vs := acc.toList) (out := out.toArray) hoL
  have v := vals_of_each eo
  have short : ((((xs.map fun e => V.ref e.2.1).zip ds).mergeSort (dataLe false Prod.snd)).map Prod.fst).length ≤ sizeLine := by
    rw [List.length_map, List.length_mergeSort, zl]
    exact few
  refine wpAny_pure ⟨_, rfl, .ref h'.objs.size, _, I1.laid (t' := tk) (o := .lst ((((xs.map fun e => V.ref e.2.1).zip ds).mergeSort (dataLe false Prod.snd)).map Prod.fst)) (fun b u e => ?_) (Nat.le_refl _) ⟨short, out, e', v, he'⟩, rfl, q _ (I1.hok.fresh (Nat.le_refl _))⟩
  have hb : b < h'.objs.size := Heap.lt_size e
  rw [PyProof.Rows.sortedHeap_old (Nat.ne_of_lt hb) (by rw [size_push']; exact Nat.lt_succ_of_lt hb)]
  exact Heap.get?_push_of_some _ e
end L2

/-! own rule: k *= n for whole numbers -/
namespace L2
open PySem PySem.Spec PyProof.Rows
def ipMul : V → V → Hp → VK → Prop := fun x y H Q => ∃ i j, x = .int i ∧ y = .int j ∧ CMul i j ∧ Q (.int (i * j)) H
theorem ip_mul {X : Cx} : PIp X .Mult ipMul := by
  intro pins s σ H x y v u Q I r1 r2 h
  obtain ⟨i, j, e1, e2, c, q⟩ := h
  subst e1
  subst e2
  obtain ⟨t, rfl⟩ := r1
  obtain ⟨t', rfl⟩ := r2
  exact AutoIntOps.imul_0 (show (Made.int (i * j)).post _ s from ⟨.int _, H, I.tok _, ⟨_, rfl⟩, q⟩) c.ok
end L2

namespace K5
open PySem PySem.Spec PyProof.Rows L2
/-- lists of rooms, by their addresses -/
def ListsAt (H0 H : Hp) (q : Addr) (Ls : List (List Nat)) : Prop := ∃ rs : List Addr, H q = some (.lst (rs.map V.ref)) ∧ rs.length = Ls.length ∧ ∀ (i : Nat) (r : Addr) (L : List Nat), rs[i]? = some r → Ls[i]? = some L → r ≠ q ∧ H0 r = none ∧ H r = some (.lst (nv L))
theorem ListsAt.same {H0 H H' : Hp} {q Ls} (h : ListsAt H0 H q Ls) (s : Same H H') : ListsAt H0 H' q Ls := by
  obtain ⟨rs, h1, h2, h3⟩ := h
  exact ⟨rs, s _ _ h1, h2, fun i r L a b => ⟨(h3 i r L a b).1, (h3 i r L a b).2.1, s _ _ (h3 i r L a b).2.2⟩⟩
theorem ListsAt.but {H0 H H' : Hp} {q g : Addr} {Ls} {o : HO} (h : ListsAt H0 H q Ls) (nq : q ≠ g) (hg : H0 g = some o) (s : But g H H') : ListsAt H0 H' q Ls := by
  obtain ⟨rs, h1, h2, h3⟩ := h
  refine ⟨rs, s _ _ nq h1, h2, fun i r L a b => ⟨(h3 i r L a b).1, (h3 i r L a b).2.1, s _ _ (fun z => ?_) (h3 i r L a b).2.2⟩⟩
  have := (h3 i r L a b).2.1
  rw [z, hg] at this
  cases this
/-- the regions of the first k people -/
structure RegsL (ds : List (Nat × Nat)) (S : S2) (k : Nat) (Ls : List (List Nat)) : Prop where
  len : Ls.length = k
  at_ : ∀ (p : Nat) (L : List Nat), Ls[p]? = some L → RegSet ds (barr S p) (S.1.getD p 0) L
theorem RegsL.perm {n ds S k Ls Ms} (a : Regs n ds S k Ls) (b : RegsL ds S k Ms) : Ls.flatten.Perm Ms.flatten :=
  flat_perm Ls Ms (a.len.trans b.len.symm) fun p L M h1 h2 => by
    obtain ⟨ks, r1, p1⟩ := a.at_ p L h1
    exact p1.trans (r1.set.perm (b.at_ p M h2))
theorem RegsL.snoc {ds S k Ls L} (a : RegsL ds S k Ls) (r : RegSet ds (barr S k) (S.1.getD k 0) L) : RegsL ds S (k + 1) (Ls ++ [L]) := by
  refine ⟨by rw [List.length_append, a.len]; rfl, fun p M h => ?_⟩
  by_cases c : p < Ls.length
  · rw [List.getElem?_append_left c] at h
    exact a.at_ p M h
  · have := get_lt h
    rw [List.length_append, List.length_singleton] at this
    have e : p = k := by have := a.len; omega
    subst e
    rw [List.getElem?_append_right (by rw [a.len]; exact Nat.le_refl _), a.len, Nat.sub_self] at h
    cases h
    exact r
def spRegsL (K : PySem.W.Frag) : Sp := fun vs H Q _ => ∃ (a s : Addr) (n : Nat) (ds : List (Nat × Nat)) (S : S2), vs = [.ref a, .ref s] ∧ HouseAt K H a ds ∧ Tree n ds ∧ n ≤ 60 ∧ StateAt K H s S ∧ StOk n ds S ∧
  ∀ (H' : Hp) (q : Addr) (Ls : List (List Nat)), Same H H' → H q = none → ListsAt H H' q Ls → RegsL ds S S.1.length Ls → Q (.ref q) H'
section
variable {P : Program} {w : World} {K : PySem.W.Frag}
      {mg : Str → Option Value} {base : Heap}
theorem ok_l_regions (T : Bl mg) (D : Def K mg "_law_regions" s_l_regions) (C_l_region : Cal P w K mg base "_law_region" ["_law_doors", "_law_position", "_law_person"] 3 (spRegL K)) : Cal P w K mg base "_law_regions" ["_law_doors", "_law_position"] 4 (spRegsL K) := by
  refine D.ok sc_l_regions (fun _ _ _ _ _ _ us hl => match us, hl with | [_, _], _ => rfl) (fun vs H Q E h => ?_) (fun f cdv A outer s H vs Q E hr h => ?_)
  · obtain ⟨a, s, n, ds, S, rfl, _⟩ := h
    rfl
  obtain ⟨a, s, n, ds, S, rfl, hH, tree, hn, st, ok, q⟩ := h
  obtain ⟨r, b, h1, h2, h3⟩ := id st
  have few := ok.few
  obtain ⟨f_l_region, fd_l_region, g_l_region, k_l_region, b_l_region, G_l_region⟩ := C_l_region
  refine ⟨_, (pss_one (ps_ret (pe_lc (own := [("_law_person", 2)]) (g := gName 2)  rfl sc_l_regions.nd (pi_range1 rfl T.range (pa_cons (pe_callB call_len_seq (by rfl) T.len PySem.boot_len (pa_cons (pe_ix ix_tup (pv 1) pe_int (fun _ _ => rfl)) pa_nil)) pa_nil)) (blkOk_by (N := N_l_regions) (sc := defScope s_l_regions) (own := [("_law_person", 2)]) (by decide +kernel)) (fun _ _ _ _ _ => (pg_name (i := 2) sc_l_regions.nd rfl (.inl rfl) (.inr rfl))) (fun _ _ _ _ _ => pts_nil) (fun _ _ _ _ _ => (pe_call G_l_region (hr.mono (by decide)) (by rfl) g_l_region k_l_region b_l_region .nil pass0 (pa_cons (pv 0) (pa_cons (pv 1) (pa_cons (pv 2) pa_nil)))))))), ?_⟩
  refine ⟨_, rfl, s, _, _, _, rfl, rfl, h1, atI_nat (j := 0) rfl, _, _, rfl, .inr h2, (S.1.length : Int), congrArg (fun z : Nat => [V.int (z : Int)]) (nv_len _), by omega, by omega, fun pd npd => ?_⟩
  refine lc_range (lo := 0) (n := S.1.length) (fun i H2 => ∃ Ls, Same H H2 ∧ ListsAt H H2 pd Ls ∧ RegsL ds S i Ls) ?_ ?_ ?_
  · exact ⟨[], Same.upd npd, ⟨[], upd_same, rfl, fun i r L h => by simp at h⟩, rfl, fun p L h => by simp at h⟩
  · rintro i H2 hi ⟨Ls, sm, ⟨rs, f1, f2, f3⟩, rg⟩
    rw [Int.zero_add]
    refine ⟨rfl, lcYes ?_⟩
    refine ⟨_, rfl, _, rfl, _, rfl, a, s, i, n, ds, S, rfl, hH.same sm, tree, hn, st.same sm, ok, hi, fun H3 q3 L s3 nq3 hq3 rs3 _ => ?_⟩
    have f13 := s3 _ _ f1
    have nqd : q3 ≠ pd := (ne_of_none f1 nq3).symm
    refine ⟨_, f13, by rw [List.length_map, f2, rg.len]; exact small1000 (by omega), Ls ++ [L], (sm.trans s3).at npd, ⟨rs ++ [q3], by rw [upd_same, List.map_append]; rfl, by simp [f2], fun j r' M e1 e2 => ?_⟩, rg.snoc rs3⟩
    by_cases c : j < rs.length
    · rw [List.getElem?_append_left c] at e1
      rw [List.getElem?_append_left (by rw [← f2]; exact c)] at e2
      obtain ⟨g1, g0, g2⟩ := f3 j r' M e1 e2
      exact ⟨g1, g0, by rw [upd_ne g1]; exact s3 _ _ g2⟩
    · have hlt := get_lt e1
      rw [List.length_append, List.length_singleton] at hlt
      have ej : j = rs.length := by omega
      subst ej
      rw [List.getElem?_append_right (Nat.le_refl _), Nat.sub_self] at e1
      rw [f2, List.getElem?_append_right (Nat.le_refl _), Nat.sub_self] at e2
      cases e1
      cases e2
      exact ⟨nqd, sm.free nq3, by rw [upd_ne nqd]; exact hq3⟩
  · rintro H2 ⟨Ls, sm, la, rg⟩
    exact q H2 pd Ls sm npd la rg
end
theorem Regs.toL {n : Nat} {ds : List (Nat × Nat)} {S : S2} {k : Nat} {Ls : List (List Nat)} (h : Regs n ds S k Ls) : RegsL ds S k Ls := ⟨h.len, fun p L hL => by
  obtain ⟨ks, r, pm⟩ := h.at_ p L hL
  exact r.set.of_perm pm⟩
theorem RegsL.rg {ds : List (Nat × Nat)} {S : S2} {Ls : List (List Nat)} (h : RegsL ds S S.1.length Ls) {p : Nat} {L : List Nat} (hL : Ls[p]? = some L) (x : Nat) : x ∈ L ↔ Rg ds S p x := by
  have lp : p < S.1.length := by have := get_lt hL; rw [h.len] at this; exact this
  obtain ⟨v, hv⟩ : ∃ v, S.1[p]? = some v := get_of rfl lp
  have r := h.at_ p L hL
  rw [getD_of hv] at r
  rw [r.mem]
  constructor
  · rintro ⟨w, h1, h2⟩
    exact ⟨v, w, hv, h1, fun e he z => h2 e he (mem_barr.mpr z)⟩
  · rintro ⟨u, w, h1, h2, h3⟩
    rw [hv] at h1
    cases h1
    exact ⟨w, h2, fun d hd z => h3 d hd (mem_barr.mp z)⟩
theorem RegsL.apt {ds : List (Nat × Nat)} {S : S2} {Ls : List (List Nat)} (h : RegsL ds S S.1.length Ls) : Ls.flatten.Nodup ↔ Apt ds S := by
  have row : ∀ p, p < S.1.length → ∃ L, Ls[p]? = some L := fun p hp => get_of rfl (by rw [h.len]; exact hp)
  have lp : ∀ {p x : Nat}, Rg ds S p x → p < S.1.length := fun {p x} ⟨u, w, h1, _⟩ => get_lt h1
  constructor
  · intro nd p q x hp hq
    refine Classical.byContradiction fun ne => ?_
    have key : ∀ p q, p < q → Rg ds S p x → Rg ds S q x → False := by
      intro p q lt hp hq
      obtain ⟨L, hL⟩ := row p (lp hp)
      obtain ⟨M, hM⟩ := row q (lp hq)
      have pw : List.Pairwise (fun A B : List Nat => ∀ a ∈ A, ∀ b ∈ B, a ≠ b) Ls := (List.pairwise_flatten.mp nd).2
      have := List.pairwise_iff_getElem.mp pw p q (get_lt hL) (get_lt hM) lt
      rw [List.getElem?_eq_getElem (get_lt hL)] at hL
      rw [List.getElem?_eq_getElem (get_lt hM)] at hM
      exact this x (by rw [Option.some.inj hL]; exact (h.rg (by rw [List.getElem?_eq_getElem]; exact hL) x).mpr hp) x (by rw [Option.some.inj hM]; exact (h.rg (by rw [List.getElem?_eq_getElem]; exact hM) x).mpr hq) rfl
    rcases Nat.lt_or_gt_of_ne ne with c | c
    · exact key p q c hp hq
    · exact key q p c hq hp
  · intro a
    refine List.pairwise_flatten.mpr ⟨fun L hL => ?_, List.pairwise_iff_getElem.mpr fun i j hi hj lt => fun x hx y hy e => ?_⟩
    · obtain ⟨p, hp⟩ := List.mem_iff_getElem?.mp hL
      exact (h.at_ p L hp).nd
    · subst e
      have := a i j x ((h.rg (List.getElem?_eq_getElem hi) x).mp hx) ((h.rg (List.getElem?_eq_getElem hj) x).mp hy)
      omega
theorem RegsL.prod {ds : List (Nat × Nat)} {S : S2} {k : Nat} {Ls Ms : List (List Nat)} (a : RegsL ds S k Ls) (b : RegsL ds S k Ms) : prodN Ls = prodN Ms := by
  have le : ∀ {Ls Ms : List (List Nat)}, RegsL ds S k Ls → RegsL ds S k Ms → prodN Ls ≤ prodN Ms := fun {Ls Ms} a b => prodN_le Ls Ms (a.len.trans b.len.symm) fun p L M h1 h2 => Nat.le_of_eq ((a.at_ p L h1).perm (b.at_ p M h2)).length_eq
  exact Nat.le_antisymm (le a b) (le b a)
def spApt (K : PySem.W.Frag) : Sp := fun vs H Q _ => ∃ (a s : Addr) (n : Nat) (ds : List (Nat × Nat)) (S : S2), vs = [.ref a, .ref s] ∧ HouseAt K H a ds ∧ Tree n ds ∧ n ≤ 60 ∧ StateAt K H s S ∧ StOk n ds S ∧
  ∀ (H' : Hp) (b : Bool), Same H H' → (b = true ↔ Apt ds S) → Q (.bl b) H'
def spCountF (K : PySem.W.Frag) : Sp := fun vs H Q _ => ∃ (a s : Addr) (n : Nat) (ds : List (Nat × Nat)) (S : S2), vs = [.ref a, .ref s] ∧ HouseAt K H a ds ∧ Tree n ds ∧ n ≤ 60 ∧ StateAt K H s S ∧ StOk n ds S ∧
  (¬ Apt ds S → ∀ H', Same H H' → Q .non H') ∧ (Apt ds S → ∀ (H' : Hp) (Ls : List (List Nat)), Same H H' → RegsL ds S S.1.length Ls → Q (.int (prodN Ls : Nat)) H')
section
variable {P : Program} {w : World} {K : PySem.W.Frag}
      {mg : Str → Option Value} {base : Heap}
theorem nv_flat : ∀ Ls : List (List Nat), (Ls.map nv).flatten = nv Ls.flatten
  | [] => rfl
  | L :: Ls => by
    rw [List.map_cons, List.flatten_cons, List.flatten_cons, nv_flat Ls]
    unfold nv
    rw [List.map_append]
theorem walk_in {n : Nat} {ds : List (Nat × Nat)} (T : Tree n ds) {a b : Nat} {w : List Nat} (h : Walk ds a w b) : a < n → b < n := by
  induction h with
  | nil a => exact fun h => h
  | cons j w ih => exact fun _ => ih (j.lt T).2.1
theorem regs_small {n : Nat} {ds : List (Nat × Nat)} {S : S2} (T : Tree n ds) (o : StOk n ds S) {k : Nat} : ∀ {Ls : List (List Nat)}, RegsL ds S k Ls → k ≤ S.1.length → Ls.flatten.length ≤ Ls.length * n ∧ ∀ L ∈ Ls, L.length ≤ n := by
  intro Ls h hk
  have each : ∀ L ∈ Ls, L.length ≤ n := fun L hL => by
    obtain ⟨p, hp⟩ := List.mem_iff_getElem?.mp hL
    have r := h.at_ p L hp
    have lp : p < S.1.length := by have := get_lt hp; rw [h.len] at this; omega
    obtain ⟨v, hv⟩ : ∃ v, S.1[p]? = some v := get_of rfl lp
    rw [getD_of hv] at r
    refine nodup_le n L r.nd fun x hx => ?_
    obtain ⟨w, h1, _⟩ := (r.mem x).mp hx
    exact walk_in T h1 (o.rooms v (List.mem_of_getElem? hv))
  refine ⟨?_, each⟩
  clear h hk
  induction Ls with
  | nil => simp
  | cons L Ls ih =>
    rw [List.flatten_cons, List.length_append, List.length_cons, Nat.succ_mul]
    have := ih fun M hM => each M (List.mem_cons_of_mem _ hM)
    have := each L List.mem_cons_self
    omega
theorem ok_l_apart (T : Bl mg) (D : Def K mg "_law_apart" s_l_apart) (C_l_regions : Cal P w K mg base "_law_regions" ["_law_doors", "_law_position"] 4 (spRegsL K)) : Cal P w K mg base "_law_apart" ["_law_doors", "_law_position"] 5 (spApt K) := by
  refine D.ok sc_l_apart (fun _ _ _ _ _ _ us hl => match us, hl with | [_, _], _ => rfl) (fun vs H Q E h => ?_) (fun f cdv A outer s0 H vs Q E hr h => ?_)
  · obtain ⟨a, s, n, ds, S, rfl, _⟩ := h
    rfl
  obtain ⟨a, s, n, ds, S, rfl, hH, tree, hn, st, ok, hQ⟩ := h
  have few := ok.few
  have one := ok.one
  obtain ⟨f_l_regions, fd_l_regions, g_l_regions, k_l_regions, b_l_regions, G_l_regions⟩ := C_l_regions
  refine ⟨_, (pss_cons (ps_set (i := 2) sc_l_apart.nd rfl (.inl rfl) (pe_callB (cr_sumL rfl) (by rfl) T.sum (by decide +kernel) (pa_cons (pe_call G_l_regions (hr.mono (by decide)) (by rfl) g_l_regions k_l_regions b_l_regions .nil pass0 (pa_cons (pv 0) (pa_cons (pv 1) pa_nil))) (pa_cons (pe_lst pa_nil) pa_nil))))
    (pss_one (ps_ret (pe_cmpR op_eq (pe_lenSetA rfl (by rfl) T.len (by rfl) T.set (pv 2)) (pe_callB call_len_seq (by rfl) T.len PySem.boot_len (pa_cons (pv 2) pa_nil)) (nomark _))))), ?_⟩
  refine ⟨_, rfl, _, rfl, a, s, n, ds, S, rfl, hH, tree, hn, st, ok, fun H1 q Ls s1 nq la rl => ?_⟩
  obtain ⟨rs, h1, h2, h3⟩ := la
  have sm := (regs_small tree ok rl (Nat.le_refl _)).1
  have ll := rl.len
  have hsz : Ls.flatten.length ≤ 4 * 60 := Nat.le_trans sm (Nat.mul_le_mul (by omega) hn)
  refine ⟨Nat.zero_le _, fun pe npe => ?_⟩
  have nqe : q ≠ pe := ne_of_none h1 npe
  refine ⟨q, pe, rs, Ls.map nv, rfl, by rw [upd_ne nqe]; exact h1, upd_same, by rw [List.length_map]; exact h2, by omega, fun i r L e1 e2 => ?_, by rw [nv_flat, nv_len]; exact Nat.le_of_lt (small1000 (by omega)), fun pj npj => ?_⟩
  · rw [List.getElem?_map] at e2
    obtain ⟨M, hM, rfl⟩ := Option.map_eq_some_iff.mp e2
    have g2 := (h3 i r M e1 hM).2.2
    rw [upd_ne (ne_of_none g2 npe)]
    exact g2
  · rw [nv_flat]
    have sm := (s1.trans (Same.upd (o := .lst []) npe)).trans (Same.upd (o := .lst (nv Ls.flatten)) npj)
    have hp : (upd (upd H1 pe (.lst [])) pj (.lst (nv Ls.flatten))) pj = some (.lst (nv Ls.flatten)) := upd_same
    generalize upd (upd H1 pe (.lst [])) pj (.lst (nv Ls.flatten)) = H2 at sm hp
    refine ⟨_, rfl, pj, Ls.flatten.map (fun x : Nat => (x : Int)), rfl, by rw [← nv_int]; exact SqL.of hp, ?_, fun m hm1 hm2 => ?_⟩
    · rw [List.length_map]
      exact Nat.lt_of_le_of_lt (by omega : Ls.flatten.length + 1 ≤ 1000) (by decide)
    · refine ⟨_, rfl, _, _, rfl, .inl (SqL.of hp), rfl, ?_⟩
      have nodup_iff : (Ls.flatten.map fun x : Nat => (x : Int)).Nodup ↔ Ls.flatten.Nodup := by
        unfold List.Nodup
        rw [List.pairwise_map]
        exact ⟨fun h => h.imp fun z e => z (by rw [e]), fun h => h.imp fun z e => z (by omega)⟩
      have e : decide (V.int (m : Int) = V.int (((nv Ls.flatten).length : Nat) : Int)) = decide Ls.flatten.Nodup := by
        rw [nv_len]
        by_cases c : Ls.flatten.Nodup
        · have := hm1 (nodup_iff.mpr c)
          rw [List.length_map] at this
          rw [decide_eq_true c, decide_eq_true (by rw [this])]
        · have := hm2 fun z => c (nodup_iff.mp z)
          rw [List.length_map] at this
          rw [decide_eq_false c, decide_eq_false fun z => by have := V.int.inj z; omega]
      show Q (.bl (decide (V.int (m : Int) = V.int (((nv Ls.flatten).length : Nat) : Int)))) H2
      rw [e]
      exact hQ H2 _ sm (by rw [decide_eq_true_eq]; exact rl.apt)
theorem ok_count_following (T : Bl mg) (D : Def K mg "count_following" s_count_following) (C_is_apart : Cal P w K mg base "is_apart" ["house", "state"] 8 (spApart K)) (C_region_ways : Cal P w K mg base "region_ways" ["house", "state", "person"] 3 (spRegWays K)) : Cal P w K mg base "count_following" ["house", "state"] 9 (spCountF K) := by
  refine D.ok sc_count_following (fun _ _ _ _ _ _ us hl => match us, hl with | [_, _], _ => rfl) (fun vs H Q E h => ?_) (fun f cdv A outer s0 H vs Q E hr h => ?_)
  · obtain ⟨a, s, n, ds, S, rfl, _⟩ := h
    rfl
  obtain ⟨a, s, n, ds, S, rfl, hH, tree, hn, st, ok, q1, q2⟩ := h
  obtain ⟨r, b, h1, h2, h3⟩ := id st
  have few := ok.few
  obtain ⟨f_is_apart, fd_is_apart, g_is_apart, k_is_apart, b_is_apart, G_is_apart⟩ := C_is_apart
  obtain ⟨f_region_ways, fd_region_ways, g_region_ways, k_region_ways, b_region_ways, G_region_ways⟩ := C_region_ways
  refine ⟨_, (pss_cons (ps_if (pt_not (pt_val (pe_call G_is_apart (hr.mono (by decide)) (by rfl) g_is_apart k_is_apart b_is_apart .nil pass0 (pa_cons (pv 0) (pa_cons (pv 1) pa_nil))))) (pss_one (ps_ret pe_non)) pss_nil)
    (pss_cons (ps_set (i := 2) sc_count_following.nd rfl (.inl rfl) pe_int)
    (pss_cons (ps_for PassesOwn.never rfl (pi_range1 rfl T.range (pa_cons (pe_callB call_len_seq (by rfl) T.len PySem.boot_len (pa_cons (pe_ix ix_tup (pv 1) pe_int (fun _ _ => rfl)) pa_nil)) pa_nil)) (pg_name (i := 3) sc_count_following.nd rfl (.inl rfl))
    (pss_one (ps_aug (i := 2) sc_count_following.nd rfl (.inl rfl) (pe_callB call_lenD (by rfl) T.len PySem.boot_len (pa_cons (pe_call G_region_ways (hr.mono (by decide)) (by rfl) g_region_ways k_region_ways b_region_ways .nil pass0 (pa_cons (pv 0) (pa_cons (pv 1) (pa_cons (pv 3) pa_nil)))) pa_nil)) ip_mul)))
    (pss_one (ps_ret (pv 2)))))), ?_⟩
  refine ⟨_, rfl, _, rfl, a, s, n, ds, S, rfl, hH, tree, hn, st, ok, fun H1 Ls s1 rg => ⟨_, rfl, ?_⟩⟩
  by_cases c : Ls.flatten.Nodup
  case neg =>
    rw [decide_eq_false c]
    exact iteT (q1 (fun z => c (rg.toL.apt.mpr z)) H1 s1)
  rw [decide_eq_true c]
  refine iteF ?_
  refine ⟨_, rfl, s, _, _, _, rfl, rfl, s1.tup h1, atI_nat (j := 0) rfl, _, _, rfl, .inr (s1.tup h2), (S.1.length : Int), congrArg (fun z : Nat => [V.int (z : Int)]) (nv_len _), by omega, by omega, ?_⟩
  refine for_range (lo := 0) (n := S.1.length) (fun k σ H2 => ∃ (Ks : List (List Nat)) (y3 : Option V), σ = [some (.ref a), some (.ref s), some (.int ((prodN Ks : Nat) : Int)), y3] ∧ Same H H2 ∧ Regs n ds S k Ks ∧ prodN Ks ≤ 60 ^ k)
    ⟨[], _, rfl, s1, ⟨rfl, fun p L h => by simp at h⟩, Nat.le_refl _⟩ ?_ ?_
  · rintro k σ H2 hk ⟨Ks, y3, rfl, sm, rk, le⟩
    rw [Int.zero_add]
    refine ⟨_, rfl, _, rfl, _, rfl, _, rfl, a, s, k, n, ds, S, rfl, hH.same sm, tree, by omega, st.same sm, ok, hk, fun H3 q3 kvs ks s3 nq3 hq3 r3 rg3 => ?_⟩
    have l3 := rg3.le
    have ek : kvs.length = ks.length := r3.len
    have p1 : prodN Ks ≤ 60 ^ 3 := Nat.le_trans le (Nat.pow_le_pow_right (by decide) (by omega))
    have sn := rk.snoc rg3 (List.Perm.refl (ks.map Prod.fst))
    have pe : prodN (Ks ++ [ks.map Prod.fst]) = prodN Ks * ks.length := by rw [prodN_snoc, List.length_map]
    refine ⟨q3, kvs, rfl, hq3, _, _, rfl, rfl, .inl ⟨by omega, by omega⟩, ?_⟩
    refine ⟨Ks ++ [ks.map Prod.fst], some (.int (k : Int)), ?_, sm.trans s3, sn, ?_⟩
    · rw [pe, Int.natCast_mul, ek]
      rfl
    · rw [pe, Nat.pow_succ]
      exact Nat.mul_le_mul le (Nat.le_trans l3 hn)
  · rintro σ H2 ⟨Ks, y3, rfl, sm, rk, le⟩
    exact ⟨_, rfl, q2 (rg.toL.apt.mp c) H2 Ks sm rk.toL⟩
end
end K5

namespace K5
open PySem PySem.Spec PyProof.Rows L2 PySem.W
theorem alike_is : ∀ l m : List Nat, alikeAll (dIs l) (dIs m) = true
  | [], _ => by simp [dIs, alikeAll]
  | _ :: _, [] => by simp [dIs, alikeAll]
  | x :: l, y :: m => by
    have ih := alike_is l m
    unfold dIs at ih ⊢
    simp only [List.map_cons, alikeAll, alike, ih, Bool.and_self]
theorem toks_is : ∀ (l m : List Nat) (s t : List (Int ⊕ List Nat)), keyToksAll (dIs l) ++ s = keyToksAll (dIs m) ++ t → l = m ∧ s = t
  | [], [], s, t, h => by
    simp only [dIs, List.map_nil, keyToksAll, List.cons_append, List.nil_append, List.cons.injEq, true_and] at h
    exact ⟨rfl, h⟩
  | [], y :: m, s, t, h => by
    simp only [dIs, List.map_nil, List.map_cons, keyToksAll, List.cons_append, List.cons.injEq, Sum.inl.injEq] at h
    exact absurd h.1 (by decide)
  | x :: l, [], s, t, h => by
    simp only [dIs, List.map_nil, List.map_cons, keyToksAll, List.cons_append, List.cons.injEq, Sum.inl.injEq] at h
    exact absurd h.1 (by decide)
  | x :: l, y :: m, s, t, h => by
    have h2 : ((x : Int) = (y : Int)) ∧ keyToksAll (dIs l) ++ s = keyToksAll (dIs m) ++ t := by
      simp only [dIs, List.map_cons, keyToksAll, keyToks, List.cons_append, List.nil_append, List.cons.injEq, Sum.inl.injEq, true_and] at h
      exact h
    obtain ⟨a, b⟩ := toks_is l m s t h2.2
    exact ⟨by rw [a, show x = y by omega], b⟩
theorem eqvAll_is : ∀ l m : List Nat, PyData.eqvAll (dIs l) (dIs m) = decide (l = m)
  | [], [] => by simp [dIs, PyData.eqvAll]
  | [], _ :: _ => by simp [dIs, PyData.eqvAll]
  | _ :: _, [] => by simp [dIs, PyData.eqvAll]
  | x :: l, y :: m => by
    have ih := eqvAll_is l m
    have hx : (((x : Int) == (y : Int)) : Bool) = decide (x = y) := by
      by_cases c : x = y
      · subst c; simp
      · rw [decide_eq_false c]
        simp
        omega
    unfold dIs at ih ⊢
    simp only [List.map_cons, PyData.eqvAll, PyData.eqv, ih, hx]
    by_cases c : x = y <;> by_cases d : l = m <;> simp [c, d]
theorem dS_eqv (A B : S2) : PyData.eqv (dS A) (dS B) = decide (A = B) := by
  obtain ⟨a, b⟩ := A
  obtain ⟨c, d⟩ := B
  simp only [dS, PyData.eqv, PyData.eqvAll, eqvAll_is, Bool.and_true, Prod.mk.injEq, Bool.decide_and]
/-- one order only, of alike data whose signs tell them apart -/
theorem sorted_unique {β : Type} (k : β → PyData) (inj : ∀ x y, keyToks (k x) = keyToks (k y) → x = y) : ∀ {l m : List β}, l.Perm m → (l.Pairwise fun x y => dataLe false k x y = true) → (m.Pairwise fun x y => dataLe false k x y = true) → l = m
  | [], m, p, _, _ => p.symm.eq_nil.symm
  | a :: r, [], p, _, _ => by have := p.eq_nil; cases this
  | a :: r, b :: s, p, h1, h2 => by
    obtain ⟨h1a, h1b⟩ := List.pairwise_cons.mp h1
    obtain ⟨h2a, h2b⟩ := List.pairwise_cons.mp h2
    have anti : ∀ {x y : β}, dataLe false k x y = true → dataLe false k y x = true → x = y := fun {x y} h1 h2 => by
      refine inj _ _ ((listOrd itemOrd).total _ _ ?_ ?_)
      · have h2 : (!(listOrd itemOrd).blt (keyToks (k x)) (keyToks (k y))) = true := h2
        simpa using h2
      · have h1 : (!(listOrd itemOrd).blt (keyToks (k y)) (keyToks (k x))) = true := h1
        simpa using h1
    have e : a = b := by
      rcases List.mem_cons.mp (p.mem_iff.mp List.mem_cons_self) with e | q
      · exact e
      · rcases List.mem_cons.mp (p.symm.mem_iff.mp List.mem_cons_self) with e | q2
        · exact e.symm
        · exact anti (h1a b q2) (h2a a q)
    subst e
    rw [sorted_unique k inj ((List.perm_cons a).mp p) h1b h2b]
theorem toks_S {A B : S2} (h : keyToks (dS A) = keyToks (dS B)) : A = B := by
  obtain ⟨L, M⟩ := A
  obtain ⟨L', M'⟩ := B
  simp only [dS, keyToks, keyToksAll, List.cons.injEq, true_and] at h
  obtain ⟨a, b⟩ := toks_is L L' _ _ h
  simp only [List.cons.injEq, true_and] at b
  obtain ⟨c, _⟩ := toks_is M M' _ _ b
  rw [a, c]
/-- states at their places -/
def StsAt (K : PySem.W.Frag) (H : Hp) (ts : List Addr) (l : List S2) : Prop := ts.length = l.length ∧ ∀ (i : Nat) (t : Addr) (X : S2), ts[i]? = some t → l[i]? = some X → StateAt K H t X
theorem StsAt.same {K H H' ts l} (h : StsAt K H ts l) (s : Same H H') : StsAt K H' ts l := ⟨h.1, fun i t X a b => (h.2 i t X a b).same s⟩
theorem StateAt.put {K H s S p xs o} (h : StateAt K H s S) (hp : H p = some (.lst xs)) : StateAt K (upd H p o) s S := by
  obtain ⟨r, b, h1, h2, h3⟩ := h
  exact ⟨r, b, (But.upd (But.refl _ _) o).tup hp h1, (But.upd (But.refl _ _) o).tup hp h2, (But.upd (But.refl _ _) o).tup hp h3⟩
theorem StsAt.put {K H ts l p xs o} (h : StsAt K H ts l) (hp : H p = some (.lst xs)) : StsAt K (upd H p o) ts l := ⟨h.1, fun i t X a b => (h.2 i t X a b).put hp⟩
theorem StsAt.app {K : PySem.W.Frag} {H : Hp} {ts : List Addr} {l : List S2} {t : Addr} {X : S2} (h : StsAt K H ts l) (ht : StateAt K H t X) : StsAt K H (ts ++ [t]) (l ++ [X]) := by
  refine ⟨by rw [List.length_append, List.length_append, h.1]; rfl, fun i a b e1 e2 => ?_⟩
  by_cases hi : i < ts.length
  · rw [List.getElem?_append_left hi] at e1
    rw [List.getElem?_append_left (by rw [← h.1]; exact hi)] at e2
    exact h.2 i a b e1 e2
  · rw [List.getElem?_append_right (by omega)] at e1
    rw [List.getElem?_append_right (by rw [← h.1]; omega), ← h.1] at e2
    generalize i - ts.length = j at e1 e2
    match j with
    | 0 =>
      cases e1
      cases e2
      exact ht
    | j + 1 => simp at e1
theorem dp_sts {K : PySem.W.Frag} {H : Hp} : ∀ (ts : List Addr) (l : List S2), StsAt K H ts l → DpAll K H (ts.map V.ref) (l.map dS)
  | [], [], _ => .nil
  | [], _ :: _, h => by have := h.1; simp at this
  | _ :: _, [], h => by have := h.1; simp at this
  | t :: ts, x :: l, h => .cons (dp_S (h.2 0 t x rfl rfl)) (dp_sts ts l ⟨by have := h.1; simpa using this, fun i t' x' a b => h.2 (i + 1) t' x' a b⟩)
theorem alike_S (A B : S2) : alike (dS A) (dS B) = true := by
  simp only [dS, alike, alikeAll, alike_is, Bool.and_self]
theorem dS_depth (A : S2) : (dS A).depth ≤ 60 := by
  have h1 := dIs_depth A.1
  have h2 := dIs_depth A.2
  simp only [dS, PyData.depth, PyData.depthAll]
  omega
theorem StsAt.but {K : PySem.W.Frag} {H H' : Hp} {ts : List Addr} {l : List S2} {g : Addr} {xs : List V} (h : StsAt K H ts l) (hg : H g = some (.lst xs)) (s : But g H H') : StsAt K H' ts l := ⟨h.1, fun i t X a b => (h.2 i t X a b).but hg s⟩
theorem unit65 {k : Nat} {A : Around} (r : Room k A) : A.units + 65 < cLine := by have := r.un; omega
/-- states, one behind the other -/
theorem dSs_lay : ∀ Ss : List S2, PyData.canLayAll0 (Ss.map dS) = true
  | [] => by simp [PyData.canLayAll0]
  | S :: Ss => by simp only [List.map_cons, PyData.canLayAll0, dS, PyData.canLay0, dIs_lay, Bool.true_and, Bool.and_true]; exact dSs_lay Ss
theorem dSs_depth : ∀ Ss : List S2, PyData.depthAll (Ss.map dS) ≤ 10
  | [] => by simp [PyData.depthAll]
  | S :: Ss => by
    have h1 := dSs_depth Ss
    have h2 := dIs_depth S.1
    have h3 := dIs_depth S.2
    simp only [List.map_cons, PyData.depthAll, dS, PyData.depth]
    omega
theorem dSs_shaped (Ss : List S2) : SeqAt.shaped (.list (Ss.map dS)) = true := by
  refine shaped_mk ?_ ?_
  · simp only [PyData.canLay0]
    exact dSs_lay Ss
  · have := dSs_depth Ss
    simp only [PyData.depth]
    omega
def kS (S : S2) : NestedKey := kOf (dS S)
theorem kAll_inj : ∀ l m : List Nat, kAll (dIs l) = kAll (dIs m) → l = m
  | [], [], _ => rfl
  | [], _ :: _, h => by simp [dIs, kAll] at h
  | _ :: _, [], h => by simp [dIs, kAll] at h
  | x :: l, y :: m, h => by
    simp only [dIs, List.map_cons, kAll, kOf, List.cons.injEq, NestedKey.num.injEq] at h
    have e := kAll_inj l m h.2
    have : x = y := by omega
    rw [e, this]
theorem kS_inj {A B : S2} (h : kS A = kS B) : A = B := by
  obtain ⟨a, b⟩ := A
  obtain ⟨c, d⟩ := B
  simp only [kS, dS, kOf, kAll, NestedKey.tup.injEq, List.cons.injEq, and_true] at h
  rw [kAll_inj _ _ h.1, kAll_inj _ _ h.2]
theorem keyable_is : ∀ l : List Nat, keyableAll (dIs l) = true
  | [] => by simp [dIs, keyableAll]
  | x :: l => by
    have := keyable_is l
    simp only [dIs, List.map_cons, keyableAll, keyable, Bool.true_and] at this ⊢
    exact this
theorem keyable_S (S : S2) : keyable (dS S) = true := by
  simp only [dS, keyable, keyableAll, keyable_is, Bool.and_true]
theorem kdepth_is : ∀ l : List Nat, NestedKey.depthAll (kAll (dIs l)) = 0
  | [] => by simp [dIs, kAll, NestedKey.depthAll]
  | x :: l => by
    have := kdepth_is l
    simp only [dIs, List.map_cons, kAll, kOf, NestedKey.depthAll, NestedKey.depth] at this ⊢
    omega
theorem kdepth_S (S : S2) : (kOf (dS S)).depth ≤ 8 := by
  simp only [dS, kOf, kAll, NestedKey.depth, NestedKey.depthAll, kdepth_is]
  decide
abbrev NX := List (NestedKey × Addr × Value)
theorem butD_tup {K : PySem.W.Frag} {P : Program} {w : World} {H H' : Hp} {d a : Addr} {xs : NX} {ys : List V} (e : But d H H') (hd : H d = some (nD P w d xs)) (h : SqT K H a ys) : SqT K H' a ys := by
  rcases h with (z | ⟨o, z⟩) | z
  · exact .inl (.inl (e _ _ (ne_of z hd (by intro q; cases q)) z))
  · exact .inl (.inr ⟨o, e _ _ (ne_of z hd (by intro q; cases q)) z⟩)
  · exact .inr z
theorem StateAt.butD {K : PySem.W.Frag} {P : Program} {w : World} {H H' : Hp} {d s : Addr} {xs : NX} {S : S2} (h : StateAt K H s S) (hd : H d = some (nD P w d xs)) (e : But d H H') : StateAt K H' s S := by
  obtain ⟨r, b, h1, h2, h3⟩ := h
  exact ⟨r, b, butD_tup e hd h1, butD_tup e hd h2, butD_tup e hd h3⟩
/-- i people somewhere, j doors that bar one of c -/
def Gs (n c i j : Nat) (S : S2) : Prop := S.1.length = i ∧ (∀ x ∈ S.1, x < n) ∧ S.2.length = j ∧ ∀ y ∈ S.2, y < c
def growR (n : Nat) (S : S2) : List S2 := (List.range n).map fun x => (S.1 ++ [x], S.2)
def growB (c : Nat) (S : S2) : List S2 := (List.range c).map fun y => (S.1, S.2 ++ [y])
/-- all of them, once -/
structure AllG (n c i j : Nat) (l : List S2) : Prop where
  nd : l.Nodup
  mem : ∀ S, S ∈ l ↔ Gs n c i j S
theorem snoc_of {i : Nat} {l : List Nat} (h : l.length = i + 1) : ∃ r x, l = r ++ [x] ∧ r.length = i := by
  rcases snoc_nil l with z | ⟨r, x, z⟩
  · rw [z] at h
    cases h
  · refine ⟨r, x, z, ?_⟩
    rw [z, List.length_append, List.length_singleton] at h
    omega
theorem AllG.start (n c : Nat) : AllG n c 0 0 [([], [])] := by
  refine ⟨by simp, fun S => ?_⟩
  obtain ⟨a, b⟩ := S
  rw [List.mem_singleton]
  constructor
  · intro h
    cases h
    refine ⟨rfl, fun x h => ?_, rfl, fun x h => ?_⟩
    · cases h
    · cases h
  · rintro ⟨h1, _, h3, _⟩
    have e1 : a = [] := List.length_eq_zero_iff.mp h1
    have e2 : b = [] := List.length_eq_zero_iff.mp h3
    rw [e1, e2]
theorem AllG.room {n c i j : Nat} {l : List S2} (h : AllG n c i j l) : AllG n c (i + 1) j (l.flatMap (growR n)) := by
  refine ⟨?_, fun S => ?_⟩
  · show List.Pairwise (· ≠ ·) _
    rw [List.pairwise_flatMap]
    refine ⟨fun a _ => ?_, h.nd.imp fun {a b} ne => fun x hx y hy z => ?_⟩
    · unfold growR
      rw [List.pairwise_map]
      exact List.nodup_range.imp fun {x y} ne z => ne (by
        have := (Prod.mk.inj z).1
        have := (List.append_inj' this rfl).2
        exact List.head_eq_of_cons_eq this)
    · unfold growR at hx hy
      obtain ⟨u, _, rfl⟩ := List.mem_map.mp hx
      obtain ⟨v, _, rfl⟩ := List.mem_map.mp hy
      have e := Prod.mk.inj z
      have e1 := (List.append_inj' e.1 rfl).1
      exact ne (Prod.ext e1 e.2)
  · rw [List.mem_flatMap]
    constructor
    · rintro ⟨A, hA, hS⟩
      unfold growR at hS
      obtain ⟨x, hx, rfl⟩ := List.mem_map.mp hS
      obtain ⟨a1, a2, a3, a4⟩ := (h.mem A).mp hA
      refine ⟨by rw [List.length_append, List.length_singleton, a1], fun y hy => ?_, a3, a4⟩
      rcases List.mem_append.mp hy with hy | hy
      · exact a2 y hy
      · rw [List.mem_singleton.mp hy]
        exact List.mem_range.mp hx
    · rintro ⟨a1, a2, a3, a4⟩
      obtain ⟨A, B⟩ := S
      obtain ⟨r, x, rfl, hr⟩ := snoc_of a1
      refine ⟨(r, B), (h.mem _).mpr ⟨hr, fun y hy => a2 y (List.mem_append_left _ hy), a3, a4⟩, ?_⟩
      unfold growR
      exact List.mem_map.mpr ⟨x, List.mem_range.mpr (a2 x (List.mem_append_right _ List.mem_cons_self)), rfl⟩
theorem AllG.bar {n c i j : Nat} {l : List S2} (h : AllG n c i j l) : AllG n c i (j + 1) (l.flatMap (growB c)) := by
  refine ⟨?_, fun S => ?_⟩
  · show List.Pairwise (· ≠ ·) _
    rw [List.pairwise_flatMap]
    refine ⟨fun a _ => ?_, h.nd.imp fun {a b} ne => fun x hx y hy z => ?_⟩
    · unfold growB
      rw [List.pairwise_map]
      exact List.nodup_range.imp fun {x y} ne z => ne (by
        have := (Prod.mk.inj z).2
        have := (List.append_inj' this rfl).2
        exact List.head_eq_of_cons_eq this)
    · unfold growB at hx hy
      obtain ⟨u, _, rfl⟩ := List.mem_map.mp hx
      obtain ⟨v, _, rfl⟩ := List.mem_map.mp hy
      have e := Prod.mk.inj z
      have e1 := (List.append_inj' e.2 rfl).1
      exact ne (Prod.ext e.1 e1)
  · rw [List.mem_flatMap]
    constructor
    · rintro ⟨A, hA, hS⟩
      unfold growB at hS
      obtain ⟨x, hx, rfl⟩ := List.mem_map.mp hS
      obtain ⟨a1, a2, a3, a4⟩ := (h.mem A).mp hA
      refine ⟨a1, a2, by rw [List.length_append, List.length_singleton, a3], fun y hy => ?_⟩
      rcases List.mem_append.mp hy with hy | hy
      · exact a4 y hy
      · rw [List.mem_singleton.mp hy]
        exact List.mem_range.mp hx
    · rintro ⟨a1, a2, a3, a4⟩
      obtain ⟨A, B⟩ := S
      obtain ⟨r, x, rfl, hr⟩ := snoc_of a3
      refine ⟨(A, r), (h.mem _).mpr ⟨a1, a2, hr, fun y hy => a4 y (List.mem_append_left _ hy)⟩, ?_⟩
      unfold growB
      exact List.mem_map.mpr ⟨x, List.mem_range.mpr (a4 x (List.mem_append_right _ List.mem_cons_self)), rfl⟩
theorem len_flatMap {α β : Type} (f : α → List β) (m : Nat) : ∀ (l : List α), (∀ x ∈ l, (f x).length = m) → (l.flatMap f).length = l.length * m
  | [], _ => by simp
  | x :: r, h => by
    rw [List.flatMap_cons, List.length_append, h x List.mem_cons_self, len_flatMap f m r fun y hy => h y (List.mem_cons_of_mem _ hy), List.length_cons, Nat.succ_mul, Nat.add_comm]
theorem flat_len {f : S2 → List S2} {m : Nat} (h : ∀ S, (f S).length = m) (l : List S2) : (l.flatMap f).length = l.length * m := len_flatMap f m l fun x _ => h x
theorem nodup_sub : ∀ (R l : List S2), R.Nodup → (∀ X ∈ R, X ∈ l) → R.length ≤ l.length
  | [], l, _, _ => Nat.zero_le _
  | a :: r, l, nd, h => by
    obtain ⟨n1, n2⟩ := List.nodup_cons.mp nd
    have ha := h a List.mem_cons_self
    have ih := nodup_sub r (l.erase a) n2 fun X hX => by
      have ne : X ≠ a := fun z => n1 (z ▸ hX)
      exact (List.mem_erase_of_ne ne).mpr (h X (List.mem_cons_of_mem _ hX))
    rw [List.length_erase_of_mem ha] at ih
    have := List.length_pos_of_mem ha
    rw [List.length_cons]
    omega
theorem dp_addrs {K : PySem.W.Frag} {H : Hp} {p : Addr} {ws : List Addr} {W : List S2} (h : H p = some (.lst (ws.map V.ref))) (st : StsAt K H ws W) : Dp K H (.ref p) (.list (W.map dS)) := .lst (SqL.of h) (dp_sts ws W st)
theorem dSs_nil (W : List S2) : PyData.eqv (.list (W.map dS)) (.list []) = decide (W = []) := by
  cases W with
  | nil => decide +kernel
  | cons a r =>
    rw [decide_eq_false (by simp)]
    simp only [List.map_cons, PyData.eqv, PyData.eqvAll]
end K5

namespace K5
open PySem PySem.Spec PyProof.Rows L2 PySem.W
/-- all states there are -/
theorem all_exist (n c : Nat) (i j : Nat) : ∃ l, AllG n c i j l ∧ l.length = n ^ i * c ^ j := by
  induction j with
  | zero =>
    induction i with
    | zero => exact ⟨_, AllG.start n c, rfl⟩
    | succ i ih =>
      obtain ⟨l, h1, h2⟩ := ih
      exact ⟨_, h1.room, by rw [flat_len (m := n) (fun S => by unfold growR; rw [List.length_map, List.length_range]), h2, Nat.pow_zero, Nat.mul_one, Nat.mul_one, Nat.pow_succ]⟩
  | succ j ih =>
    obtain ⟨l, h1, h2⟩ := ih
    exact ⟨_, h1.bar, by rw [flat_len (m := c) (fun S => by unfold growB; rw [List.length_map, List.length_range]), h2, Nat.pow_succ, Nat.mul_assoc]⟩
theorem rc_few {n : Nat} {ds : List (Nat × Nat)} {S : S2} {R : List S2} (T : Tree n ds) (o : StOk n ds S) (hn : n ≤ 4) (h3 : S.1.length ≤ 3) (nd : R.Nodup) (h : ∀ A ∈ R, Rc ds S A) : R.length ≤ 1728 := by
  obtain ⟨l, a, e⟩ := all_exist n S.1.length S.1.length ds.length
  have hdn := T.len
  have := nodup_sub R l nd fun A hA => (a.mem A).mpr (by
    have oA := (h A hA).ok T o
    have lA := (h A hA).len
    exact ⟨lA, oA.rooms, oA.doors, by rw [← lA]; exact oA.bars⟩)
  rw [e] at this
  have p1 : n ^ S.1.length ≤ 64 := Nat.le_trans (Nat.pow_le_pow_left hn _) (Nat.le_trans (Nat.pow_le_pow_right (by decide) h3) (by decide))
  have p2 : S.1.length ^ ds.length ≤ 27 := Nat.le_trans (Nat.pow_le_pow_left h3 _) (Nat.le_trans (Nat.pow_le_pow_right (by decide) (show ds.length ≤ 3 by omega)) (by decide))
  have := Nat.mul_le_mul p1 p2
  omega
/-- a dict of the states reached, in the order in which they were -/
structure RchL (K : PySem.W.Frag) (P : Program) (w : World) (H : Hp) (d : Addr) (xs : NX) (R : List S2) : Prop where
  at_ : H d = some (nD P w d xs)
  ks : xs.map (·.1) = R.map kS
  sts : StsAt K H (xs.map fun e => e.2.1) R
section
variable {K : PySem.W.Frag} {P : Program} {w : World} {H H' : Hp} {d : Addr} {xs : NX} {R : List S2}
theorem RchL.len (h : RchL K P w H d xs R) : xs.length = R.length := by
  have := congrArg List.length h.ks
  rwa [List.length_map, List.length_map] at this
theorem RchL.dp (h : RchL K P w H d xs R) : ∀ e ∈ xs, ∃ k', kOf k' = e.1 ∧ keyable k' = true ∧ (kOf k').depth ≤ 8 ∧ Dp K H (.ref e.2.1) k' := fun e he => by
  obtain ⟨i, hi⟩ := List.mem_iff_getElem?.mp he
  obtain ⟨S, hS⟩ : ∃ S, R[i]? = some S := get_of h.len.symm (get_lt hi)
  have e1 : (xs.map (·.1))[i]? = some e.1 := by rw [List.getElem?_map, hi]; rfl
  rw [h.ks, List.getElem?_map, hS] at e1
  have st := h.sts.2 i e.2.1 S (by rw [List.getElem?_map, hi]; rfl) hS
  exact ⟨dS S, Option.some.inj e1, keyable_S S, kdepth_S S, dp_S st⟩
theorem RchL.same (h : RchL K P w H d xs R) (s : Same H H') : RchL K P w H' d xs R := ⟨s _ _ h.at_, h.ks, h.sts.same s⟩
theorem RchL.but {g : Addr} {ys : List V} (h : RchL K P w H d xs R) (hg : H g = some (.lst ys)) (s : But g H H') : RchL K P w H' d xs R := ⟨s _ _ (ne_of h.at_ hg (by intro q; cases q)) h.at_, h.ks, h.sts.but hg s⟩
theorem RchL.at_is (h : RchL K P w H d xs R) (T : S2) : (atKey xs (kS T)).isSome = decide (T ∈ R) := by
  rw [← any_pairsH]
  have : (pairsH xs).any (fun kv => decide (kv.1 = kS T)) = decide (kS T ∈ xs.map (·.1)) := by
    unfold pairsH
    rw [List.any_map]
    induction xs with
    | nil => rfl
    | cons x r ih => 
      clear h
      rw [List.any_cons, List.map_cons]
      have : (r.any ((fun kv : NestedKey × Value => decide (kv.1 = kS T)) ∘ fun x => (x.1, x.2.2))) = decide (kS T ∈ r.map (·.1)) := by
        clear ih
        induction r with
        | nil => rfl
        | cons y r ih2 =>
          rw [List.any_cons, ih2, List.map_cons]
          by_cases c : y.1 = kS T
          · simp [c]
          · have : ¬ kS T = y.1 := fun z => c z.symm
            simp [c, this]
      rw [this]
      by_cases c : x.1 = kS T
      · simp [c]
      · have : ¬ kS T = x.1 := fun z => c z.symm
        simp [c, this]
  rw [this, h.ks, decide_eq_decide]
  constructor
  · intro z
    obtain ⟨A, hA, e⟩ := List.mem_map.mp z
    rw [← kS_inj e]
    exact hA
  · exact fun z => List.mem_map.mpr ⟨T, z, rfl⟩
theorem RchL.is (h : RchL K P w H d xs R) (T : S2) : (PySem.valueAt (pairsH xs) (kOf (dS T))).isSome = decide (T ∈ R) := by
  rw [valueAt_pairsH, ← h.at_is T]
  show _ = (atKey xs (kOf (dS T))).isSome
  cases atKey xs (kOf (dS T)) <;> rfl
theorem RchL.put {t : Addr} {T : S2} {u : Value} (h : RchL K P w H d xs R) (st : StateAt K H t T) (no : T ∉ R) : storedH xs (kOf (dS T)) t u = xs ++ [(kS T, t, u)] ∧ RchL K P w (upd H d (nD P w d (xs ++ [(kS T, t, u)]))) d (xs ++ [(kS T, t, u)]) (R ++ [T]) := by
  have bt : But d H (upd H d (nD P w d (xs ++ [(kS T, t, u)]))) := But.upd (But.refl _ _) _
  have e0 : atKey xs (kOf (dS T)) = none := by
    have := h.at_is T
    rw [decide_eq_false no] at this
    exact Option.not_isSome_iff_eq_none.mp (by rw [show kOf (dS T) = kS T from rfl, this]; exact Bool.false_ne_true)
  refine ⟨storedH_new e0 t u, upd_same, by rw [List.map_append, List.map_append, h.ks]; rfl, ?_⟩
  rw [List.map_append]
  exact StsAt.app ⟨h.sts.1, fun i a X e1 e2 => (h.sts.2 i a X e1 e2).butD h.at_ bt⟩ (st.butD h.at_ bt)
end
/-- the search: what it has reached, what waits, whose moves are not all looked at -/
structure FS (K : PySem.W.Frag) (P : Program) (w : World) (H0 H : Hp) (pr pw : Addr) (ds : List (Nat × Nat)) (S : S2) (xs : NX) (R W C : List S2) (ws : List Addr) : Prop where
  sm : Same H0 H
  r : RchL K P w H pr xs R
  wl : H pw = some (.lst (ws.map V.ref))
  st : StsAt K H ws W
  rnd : R.Nodup
  rc : ∀ X ∈ R, Rc ds S X
  win : ∀ X ∈ W, X ∈ R
  wle : W.length ≤ R.length
  cl : ∀ X ∈ R, X ∈ W ∨ X ∈ C ∨ ∀ m, Can ds X m → nxt ds X m ∈ R
  hS : S ∈ R
section
variable {K : PySem.W.Frag} {P : Program} {w : World} {H0 H H' : Hp} {pr pw : Addr} {ds : List (Nat × Nat)} {S : S2} {xs : NX} {R W C : List S2} {ws : List Addr}
theorem FS.same (h : FS K P w H0 H pr pw ds S xs R W C ws) (s : Same H H') : FS K P w H0 H' pr pw ds S xs R W C ws :=
  ⟨h.sm.trans s, h.r.same s, s _ _ h.wl, h.st.same s, h.rnd, h.rc, h.win, h.wle, h.cl, h.hS⟩
theorem FS.pop {t : Addr} {X : S2} (h : FS K P w H0 H pr pw ds S xs R (W ++ [X]) [] (ws ++ [t])) (nw : H0 pw = none) : FS K P w H0 (upd H pw (.lst (ws.map V.ref))) pr pw ds S xs R W [X] ws := by
  have bt : But pw H (upd H pw (.lst (ws.map V.ref))) := But.upd (But.refl _ _) _
  have sl := h.st.1
  rw [List.length_append, List.length_append, List.length_singleton, List.length_singleton] at sl
  refine ⟨h.sm.at nw, h.r.but h.wl bt, upd_same, ⟨by omega, fun i a b e1 e2 => ?_⟩, h.rnd, h.rc, fun Y hY => h.win Y (List.mem_append_left _ hY), by have := h.wle; rw [List.length_append] at this; omega, fun Y hY => ?_, h.hS⟩
  · exact (h.st.2 i a b (by rw [List.getElem?_append_left (get_lt e1)]; exact e1) (by rw [List.getElem?_append_left (get_lt e2)]; exact e2)).but h.wl bt
  · rcases h.cl Y hY with c | c | c
    · rcases List.mem_append.mp c with c | c
      · exact .inl c
      · exact .inr (.inl c)
    · cases c
    · exact .inr (.inr c)
theorem FS.reach (h : FS K P w H0 H pr pw ds S xs R W C ws) (nr : H0 pr = none) (nw : H0 pw = none) {t : Addr} {X : S2} {z : Value} (ht : StateAt K H t X) (hx : X ∉ R) (rcx : Rc ds S X) :
    FS K P w H0 (upd (upd H pr (nD P w pr (xs ++ [(kS X, t, z)]))) pw (.lst (ws.map V.ref ++ [.ref t]))) pr pw ds S (xs ++ [(kS X, t, z)]) (R ++ [X]) (W ++ [X]) C (ws ++ [t]) := by
  have nrw : pw ≠ pr := ne_of h.wl h.r.at_ (by intro q; cases q)
  have bt : But pr H (upd H pr (nD P w pr (xs ++ [(kS X, t, z)]))) := But.upd (But.refl _ _) _
  have r1 := (h.r.put (u := z) ht hx).2
  have w1 := bt _ _ nrw h.wl
  have st1 : StsAt K (upd H pr (nD P w pr (xs ++ [(kS X, t, z)]))) ws W := ⟨h.st.1, fun i a b e1 e2 => (h.st.2 i a b e1 e2).butD h.r.at_ bt⟩
  have ht1 := ht.butD h.r.at_ bt
  have sm1 := h.sm.at (o := nD P w pr (xs ++ [(kS X, t, z)])) nr
  generalize upd H pr (nD P w pr (xs ++ [(kS X, t, z)])) = H1 at r1 w1 st1 ht1 sm1
  have bt2 : But pw H1 (upd H1 pw (.lst (ws.map V.ref ++ [.ref t]))) := But.upd (But.refl _ _) _
  refine ⟨sm1.at nw, r1.but w1 bt2, by rw [upd_same, List.map_append]; rfl, (st1.but w1 bt2).app (ht1.but w1 bt2), ?_, fun Y hY => ?_, fun Y hY => ?_, by rw [List.length_append, List.length_append]; exact Nat.add_le_add_right h.wle _, fun Y hY => ?_, List.mem_append_left _ h.hS⟩
  · exact List.nodup_append.mpr ⟨h.rnd, by simp, fun a ha b hb zz => hx (by rw [List.mem_singleton] at hb; rw [← hb, ← zz]; exact ha)⟩
  · rcases List.mem_append.mp hY with hY | hY
    · exact h.rc Y hY
    · rw [List.mem_singleton.mp hY]
      exact rcx
  · rcases List.mem_append.mp hY with hY | hY
    · exact List.mem_append_left _ (h.win Y hY)
    · exact List.mem_append_right _ hY
  · rcases List.mem_append.mp hY with hY | hY
    · rcases h.cl Y hY with c | c | c
      · exact .inl (List.mem_append_left _ c)
      · exact .inr (.inl c)
      · exact .inr (.inr fun m hm => List.mem_append_left _ (c m hm))
    · exact .inl (List.mem_append_right _ hY)
theorem FS.done (h : FS K P w H0 H pr pw ds S xs R [] [] ws) (A : S2) : A ∈ R ↔ Rc ds S A := by
  refine ⟨h.rc A, fun r => ?_⟩
  induction r with
  | refl => exact h.hS
  | @step A m _ c ih =>
    rcases h.cl A ih with q | q | q
    · cases q
    · cases q
    · exact q m c
end
def spFollow (K : PySem.W.Frag) : Sp := fun vs H Q _ => ∃ (a s : Addr) (n : Nat) (ds : List (Nat × Nat)) (S : S2), vs = [.ref a, .ref s] ∧ HouseAt K H a ds ∧ Tree n ds ∧ n ≤ 4 ∧ StateAt K H s S ∧ StOk n ds S ∧ S.1.length ≤ 3 ∧
  ∀ (H' : Hp) (q : Addr) (ts : List Addr) (l : List S2), Same H H' → H q = none → H' q = some (.lst (ts.map V.ref)) → StsAt K H' ts l → l.Nodup → (∀ A, A ∈ l ↔ Rc ds S A) → l.length ≤ 1728 → Q (.ref q) H'
section
variable {P : Program} {w : World} {K : PySem.W.Frag}
      {mg : Str → Option Value} {base : Heap}
theorem ok_l_following (T : Bl mg) (D : Def K mg "_law_following" s_l_following) (C_l_steps : Cal P w K mg base "_law_steps" ["_law_doors", "_law_position"] 2 (spPoss K)) (C_l_moved : Cal P w K mg base "_law_moved" ["_law_doors", "_law_position", "_law_step"] 2 (spMoved K)) :
    Cal P w K mg base "_law_following" ["_law_doors", "_law_position"] 3 (spFollow K) := by
  refine D.ok sc_l_following (fun _ _ _ _ _ _ us hl => match us, hl with | [_, _], _ => rfl) (fun vs H Q E h => ?_) (fun f0 cdv A outer s0 H vs Q E hr h => ?_)
  · obtain ⟨a, s, n, ds, S, rfl, _⟩ := h
    rfl
  obtain ⟨a, s, n, ds, S, rfl, hH, tree, hn, st, ok, h3, qn⟩ := h
  obtain ⟨f_l_steps, fd_l_steps, g_l_steps, k_l_steps, b_l_steps, G_l_steps⟩ := C_l_steps
  obtain ⟨f_l_moved, fd_l_moved, g_l_moved, k_l_moved, b_l_moved, G_l_moved⟩ := C_l_moved
  refine ⟨_, (pss_cons (ps_set (i := 2) sc_l_following.nd rfl (.inl rfl) (ne_n1 P w rfl rfl (hu64 hr) (pv 1) pe_bl))
    (pss_cons (ps_set (i := 3) sc_l_following.nd rfl (.inl rfl) (pe_lst (pa_cons (pv 1) pa_nil)))
    (pss_cons (ps_while PassesOwn.never (pt_cmpR (op_neD hr.units) (pv 3) (pe_lst pa_nil) (nomark _)) (pss_cons (ps_set (i := 4) sc_l_following.nd rfl (.inl rfl) (pe_bm0 PySem.F.plainAttrs_list PySem.F.slot_list_pop PySem.F.type_list_pop mt_pop (pv 3)))
    (pss_one (ps_for PassesOwn.never rfl (pi_list (pe_call G_l_steps (hr.mono (by decide)) (by rfl) g_l_steps k_l_steps b_l_steps .nil pass0 (pa_cons (pv 0) (pa_cons (pv 4) pa_nil)))) (pg_name (i := 5) sc_l_following.nd rfl (.inl rfl))
    (pss_cons (ps_set (i := 6) sc_l_following.nd rfl (.inl rfl) (pe_ix ix_list (pe_call G_l_moved (hr.mono (by decide)) (by rfl) g_l_moved k_l_moved b_l_moved .nil pass0 (pa_cons (pv 0) (pa_cons (pv 4) (pa_cons (pv 5) pa_nil)))) pe_int (fun _ _ => rfl)))
    (pss_one (ps_if (pt_cmp (ne_notin P w rfl rfl (hu64 hr) (pv 6) (pv 2))) (pss_cons (ne_put P w rfl rfl (hu64 hr) (pv 2) (pv 6) pe_bl rfl)
    (pss_one (ps_expr (pe_bm PySem.F.plainAttrs_list PySem.F.slot_list_append PySem.F.type_list_append mt_append (pv 3) (pa_cons (pv 6) pa_nil))))) pss_nil)))))))
    (pss_one (ps_ret (pe_callB (cr_sortedN P w rfl rfl rfl (hu64 hr)) (by rfl) T.sorted (by decide +kernel) (pa_cons (pv 2) pa_nil))))))), ?_⟩
  have z0 : 0 ≤ sizeLine := Nat.zero_le _
  refine fun pr npr => ⟨_, rfl, ?_⟩
  have s2 := Same.upd (o := nD P w pr []) npr
  have r0 : RchL K P w (upd H pr (nD P w pr [])) pr [] [] := ⟨upd_same, rfl, rfl, fun _ _ _ h => by simp at h⟩
  generalize upd H pr (nD P w pr []) = H2 at s2 r0
  refine ⟨s, dS S, rfl, r0.at_, dp_S (st.same s2), keyable_S S, kdepth_S S, fun zz _ => ?_⟩
  have r1 := (r0.put (u := zz) (st.same s2) (List.not_mem_nil)).2
  have s3 : Same H (upd H2 pr (nD P w pr ([] ++ [(kS S, s, zz)]))) := s2.at npr
  change tSeq _ _ _ _ (upd H2 pr (nD P w pr ([] ++ [(kS S, s, zz)])))
  generalize upd H2 pr (nD P w pr ([] ++ [(kS S, s, zz)])) = H3 at r1 s3
  refine ⟨_, rfl, by show 1 ≤ sizeLine; decide, fun pw npw => ?_⟩
  have s4 := Same.upd (o := .lst [.ref s]) npw
  have nw := s3.free npw
  have U0 : FS K P w H (upd H3 pw (.lst [.ref s])) pr pw ds S ([] ++ [(kS S, s, zz)]) [S] [S] [] [s] := ⟨s3.trans s4, r1.same s4, upd_same, ⟨rfl, fun i a X h1 h2 => by
    match i with
    | 0 =>
      cases h1
      cases h2
      exact st.same (s3.trans s4)
    | i + 1 => simp at h1⟩, by simp, (fun X hX => by rw [List.mem_singleton.mp hX]; exact .refl), (fun X hX => hX), Nat.le_refl _, (fun X hX => .inl hX), List.mem_singleton.mpr rfl⟩
  generalize upd H3 pw (.lst [.ref s]) = H4 at U0
  have bnd : ∀ {xs : NX} {R W C : List S2} {ws : List Addr} {H' : Hp}, FS K P w H H' pr pw ds S xs R W C ws → R.length ≤ 1728 := fun U => rc_few tree ok hn h3 U.rnd U.rc
  refine ⟨fun m σ H5 => ∃ xs R W ws y4 y5 y6, m = 2 * (1728 - R.length) + W.length ∧ σ = [some (.ref a), some (.ref s), some (.ref pr), some (.ref pw), y4, y5, y6] ∧ FS K P w H H5 pr pw ds S xs R W [] ws,
    ⟨_, _, [S], [S], [s], _, _, _, rfl, rfl, U0⟩, fun m σ H5 hW => ?_⟩
  obtain ⟨xs, R, W, ws, y4, y5, y6, rfl, rfl, U⟩ := hW
  refine ⟨_, rfl, z0, fun pe npe => ?_⟩
  have sE := Same.upd (o := .lst []) npe
  have U := U.same sE
  refine ⟨.list (W.map dS), .list [], dp_addrs U.wl U.st, .lst (SqL.of upd_same) .nil, dSs_shaped W, dSs_shaped [], _, rfl, ?_⟩
  rw [dSs_nil]
  generalize upd H5 pe (.lst []) = H5 at U
  rcases snoc_nil W with rfl | ⟨Wr, X, rfl⟩
  · rw [decide_eq_true rfl]
    refine iteF ⟨_, rfl, pr, xs, R.map dS, rfl, U.r.at_, U.r.ks.trans (by rw [List.map_map]; rfl), ?_, ?_, ?_, .inl ?_, by rw [U.r.len]; exact Nat.le_trans (bnd U) (by decide), fun p np => ?_⟩
    · have := dp_sts _ R U.r.sts
      rwa [List.map_map] at this
    · intro d hd
      obtain ⟨x, _, rfl⟩ := List.mem_map.mp hd
      have h1 := dIs_depth x.1
      have h2 := dIs_depth x.2
      exact ⟨keyable_S x, kdepth_S x, by simp only [dS, PyData.depth, PyData.depthAll]; omega⟩
    · intro d hd d' hd'
      obtain ⟨x, _, rfl⟩ := List.mem_map.mp hd
      obtain ⟨y, _, rfl⟩ := List.mem_map.mp hd'
      exact alike_S x y
    · intro d hd
      obtain ⟨x, _, rfl⟩ := List.mem_map.mp hd
      exact ⟨_, _, rfl⟩
    have em : (xs.map fun e => V.ref e.2.1) = (xs.map fun e => e.2.1).map V.ref := by rw [List.map_map]; rfl
    rw [em, List.zip_map]
    obtain ⟨zl, ez, pz⟩ := perm_of_map _ _ _ (List.mergeSort_perm (List.map (Prod.map V.ref dS) ((xs.map fun e => e.2.1).zip R)) (dataLe false Prod.snd))
    rw [ez]
    have sp := Same.upd (o := .lst ((zl.map (Prod.map V.ref dS)).map Prod.fst)) np
    have lz := U.r.sts.1
    have pR : (zl.map Prod.snd).Perm R := by
      have := pz.map Prod.snd
      rwa [List.map_snd_zip (by rw [lz]; exact Nat.le_refl _)] at this
    refine qn _ p (zl.map Prod.fst) (zl.map Prod.snd) (U.sm.trans sp) (U.sm.free np) (by rw [upd_same, List.map_map, List.map_map]; rfl) ⟨by rw [List.length_map, List.length_map], fun i t x e1 e2 => ?_⟩ (pR.nodup_iff.mpr U.rnd) (fun A => pR.mem_iff.trans (U.done A)) (by rw [pR.length_eq]; exact bnd U)
    rw [List.getElem?_map] at e1 e2
    cases ei : zl[i]? with
    | none => rw [ei] at e1; cases e1
    | some z =>
      rw [ei] at e1 e2
      cases e1
      cases e2
      obtain ⟨j, hj⟩ := List.mem_iff_getElem?.mp (pz.mem_iff.mp (List.mem_of_getElem? ei))
      obtain ⟨j1, j2⟩ := List.getElem?_zip_eq_some.mp hj
      exact (U.r.sts.2 j z.1 z.2 j1 j2).same sp
  · rw [decide_eq_false (by simp)]
    obtain ⟨wr, tx, rfl⟩ : ∃ wr tx, ws = wr ++ [tx] := by
      rcases snoc_nil ws with z | ⟨x, y, z⟩
      · have := U.st.1
        rw [z] at this
        simp at this
      · exact ⟨x, y, z⟩
    have lR := bnd U
    refine iteT ⟨fun σ' H' => ∃ xs' R' W' ws' y4 y5 y6, 2 * (1728 - R'.length) + W'.length < 2 * (1728 - R.length) + (Wr ++ [X]).length ∧ σ' = [some (.ref a), some (.ref s), some (.ref pr), some (.ref pw), y4, y5, y6] ∧ FS K P w H H' pr pw ds S xs' R' W' [] ws',
      fun σ' H' ⟨xs2, R', W', ws', y4, y5, y6, h1, h2⟩ => ⟨_, h1, xs2, R', W', ws', y4, y5, y6, rfl, h2⟩, ?_⟩
    have hX := U.win X (List.mem_append_right _ List.mem_cons_self)
    have rX := U.rc X hX
    have oX := rX.ok tree ok
    have hlast : ((wr ++ [tx]).map V.ref)[((wr ++ [tx]).map V.ref).length - 1]? = some (.ref tx) := by
      rw [List.map_append, List.length_append]
      simp
    have stX : StateAt K H5 tx X := U.st.2 wr.length tx X (by simp) (by
      have := U.st.1
      rw [List.length_append, List.length_append, List.length_singleton, List.length_singleton] at this
      rw [show wr.length = Wr.length by omega]
      simp)
    refine ⟨_, rfl, .inl ⟨rfl, _, SqL.of U.wl⟩, pw, _, _, rfl, rfl, U.wl, hlast, ?_⟩
    rw [List.map_append, List.map_singleton, List.dropLast_concat]
    have U1 := U.pop nw
    have stX1 := stX.but U.wl (But.upd (But.refl _ _) (.lst (wr.map V.ref)))
    generalize upd H5 pw (.lst (wr.map V.ref)) = H6 at U1 stX1
    have hH6 := hH.same U1.sm
    refine ⟨_, rfl, _, rfl, a, tx, ds, n, X, rfl, hH6, tree, by omega, stX1, oX, fun H7 qm l s7 nqm tr can => ?_⟩
    obtain ⟨ts, hqm, tl⟩ := tr
    have U2 := U1.same s7
    have stX2 := stX1.same s7
    refine ⟨qm, rfl, ⟨_, SqL.of hqm⟩, ?_⟩
    refine for_it (walk_list (K := K) (a := qm) (xs := ts.map V.ref)) (fun j σ H8 => ∃ xs R' W' ws' y5 y6, 2 * (1728 - R'.length) + W'.length < 2 * (1728 - R.length) + (Wr ++ [X]).length ∧ σ = [some (.ref a), some (.ref s), some (.ref pr), some (.ref pw), some (.ref tx), y5, y6] ∧ FS K P w H H8 pr pw ds S xs R' W' [X] ws' ∧ (∀ m ∈ l.take j, nxt ds X m ∈ R') ∧
        (∀ b o, b ≠ pr → b ≠ pw → H7 b = some o → H8 b = some o))
      ⟨xs, R, Wr, wr, _, _, by rw [List.length_append, List.length_singleton]; omega, rfl, U2, (fun _ h => by simp at h), fun _ _ _ _ e => e⟩ (fun j H8 _ _ ⟨_, _, _, _, _, _, _, _, U, _, kp⟩ => SqL.of (kp _ _ (ne_of hqm U2.r.at_ (by intro q; cases q)) (ne_of_none U1.wl nqm).symm hqm)) ?_ ?_
    · rintro j x σ H9 H8 hj ⟨xs, R', W', ws', y5, y6, hm, rfl, U3, got, kp⟩ ⟨rfl, ex⟩
      rw [List.length_map, tl.1] at hj
      obtain ⟨t, ht⟩ : ∃ t, ts[j]? = some t := get_of tl.1 hj
      obtain ⟨m, hm2⟩ : ∃ m, l[j]? = some m := get_of rfl hj
      rw [List.getElem?_map, ht] at ex
      cases ex
      have cm : Can ds X m := (can.mem m).mp (List.mem_of_getElem? hm2)
      have ht7 := tl.2 j t m ht hm2
      have ht8 := kp _ _ (ne_of ht7 U2.r.at_ (by intro q; cases q)) (ne_lt U2.wl ht7) ht7
      have stX3 : StateAt K H8 tx X := by
        obtain ⟨i, hi⟩ := List.mem_iff_getElem?.mp hX
        obtain ⟨rr, bb, g1, g2, g3⟩ := stX2
        have keep : ∀ {a : Addr} {ys : List V}, SqT K H7 a ys → SqT K H8 a ys := fun {a ys} h => by
          rcases h with (z | ⟨o, z⟩) | z
          · exact .inl (.inl (kp _ _ (ne_of z U2.r.at_ (by intro q; cases q)) (ne_lt U2.wl z) z))
          · exact .inl (.inr ⟨o, kp _ _ (ne_of z U2.r.at_ (by intro q; cases q)) (ne_of z U2.wl (by intro q; cases q)) z⟩)
          · exact .inr z
        exact ⟨rr, bb, keep g1, keep g2, keep g3⟩
      refine ⟨_, rfl, _, rfl, _, rfl, a, tx, t, n, ds, X, m, rfl, hH.same U3.sm, tree, by omega, stX3, oX, ht8, cm.vm, fun w hw => ?_, fun _ H10 qq s' s10 hq10 st10 => ?_⟩
      · rw [cm.why tree oX] at hw
        cases hw
      have U4 := U3.same s10
      refine ⟨qq, _, _, _, rfl, rfl, SqL.of hq10, atI_nat (j := 1) rfl, ?_⟩
      refine ⟨_, rfl, _, rfl, pr, s', xs, dS (nxt ds X m), rfl, rfl, U4.r.at_, dp_S st10, keyable_S _, kdepth_S _, U4.r.dp, _, rfl, _, rfl, ?_⟩
      rw [U4.r.is]
      have etake : l.take (j + 1) = l.take j ++ [m] := by rw [List.take_add_one, hm2]; rfl
      by_cases c : nxt ds X m ∈ R'
      · rw [decide_eq_true c]
        refine iteF ⟨xs, R', W', ws', _, _, hm, rfl, U4, fun m' h => ?_, fun b o n1 n2 e => s10 _ _ (kp b o n1 n2 e)⟩
        rw [etake] at h
        rcases List.mem_append.mp h with h | h
        · exact got m' h
        · rw [List.mem_singleton.mp h]
          exact c
      · rw [decide_eq_false c]
        have lR3 := bnd U4
        have xl := U4.r.len
        have rn : Rc ds S (nxt ds X m) := rX.step cm
        refine iteT ⟨_, rfl, _, rfl, pr, s', xs, dS (nxt ds X m), rfl, rfl, U4.r.at_, dp_S st10, keyable_S _, kdepth_S _, U4.r.dp, by rw [xl]; exact Nat.le_trans lR3 (by decide), fun z _ => ?_⟩
        rw [(U4.r.put (u := z) st10 c).1]
        have U5 := U4.reach npr nw (z := z) st10 c rn
        have nrw : pw ≠ pr := ne_of U4.wl U4.r.at_ (by intro q; cases q)
        have wl5 : (upd H10 pr (nD P w pr (xs ++ [(kS (nxt ds X m), s', z)]))) pw = some (.lst (ws'.map V.ref)) := by
          rw [upd_ne nrw]
          exact U4.wl
        have wsl := U4.st.1
        have Wl := U4.wle
        have lR5 := bnd U5
        rw [List.length_append, List.length_singleton] at lR5
        refine ⟨_, rfl, .inl ⟨rfl, _, SqL.of wl5⟩, _, rfl, pw, _, _, rfl, rfl, wl5, by rw [List.length_map, wsl]; exact Nat.lt_of_le_of_lt (Nat.le_trans Wl lR3) (by decide), ?_⟩
        refine ⟨_, _, _, _, _, _, ?_, rfl, U5, fun m' h => ?_, fun b o n1 n2 e => ?_⟩
        · rw [List.length_append, List.length_append]
          simp only [List.length_singleton]
          omega
        · rw [etake] at h
          rcases List.mem_append.mp h with h | h
          · exact List.mem_append_left _ (got m' h)
          · rw [List.mem_singleton.mp h]
            exact List.mem_append_right _ List.mem_cons_self
        · rw [upd_ne n2, upd_ne n1]
          exact s10 _ _ (kp b o n1 n2 e)
    · rintro σ H8 ⟨xs, R', W', ws', y5, y6, hm, rfl, U3, got, kp⟩
      rw [show l.take (ts.map V.ref).length = l by rw [List.length_map, tl.1, List.take_length]] at got
      refine ⟨xs, R', W', ws', _, _, _, hm, rfl, ⟨U3.sm, U3.r, U3.wl, U3.st, U3.rnd, U3.rc, U3.win, U3.wle, fun Y hY => ?_, U3.hS⟩⟩
      rcases U3.cl Y hY with c | c | c
      · exact .inl c
      · rw [List.mem_singleton.mp c]
        exact .inr (.inr fun m hm => got m ((can.mem m).mpr hm))
      · exact .inr (.inr c)
end
end K5

namespace K5
open PySem PySem.Spec PyProof.Rows L2
theorem sub_len : ∀ (A B : List Nat), A.Nodup → (∀ x ∈ A, x ∈ B) → A.length ≤ B.length
  | [], _, _, _ => Nat.zero_le _
  | a :: s, B, nd, h => by
    obtain ⟨m1, m2⟩ := List.nodup_cons.mp nd
    have ha := h a List.mem_cons_self
    have := sub_len s (B.erase a) m2 fun x hx => (List.mem_erase_of_ne (fun e : x = a => m1 (by rw [← e]; exact hx))).mpr (h x (List.mem_cons_of_mem _ hx))
    rw [List.length_erase_of_mem ha] at this
    have := List.length_pos_of_mem ha
    rw [List.length_cons]
    omega
theorem dMs_nil (l : List Mv) : PyData.eqv (dMs l) (dMs []) = decide (l = []) := by
  cases l with
  | nil => exact d_refl (dMs_shaped [])
  | cons m r =>
    rw [decide_eq_false (by simp)]
    simp only [dMs, List.map_cons, List.map_nil, PyData.eqv, PyData.eqvAll]
theorem runs_snoc {ds : List (Nat × Nat)} {m : Mv} : ∀ (l : List Mv) (i : Nat) (S S' : S2), runs ds i S l = .inr S' → why ds S' m = none → runs ds i S (l ++ [m]) = .inr (nxt ds S' m)
  | [], i, S, S', h, hw => by
    have e : S = S' := Sum.inr.inj h
    subst e
    show runs ds i S [m] = _
    rw [runs, hw]
    rfl
  | m0 :: r, i, S, S', h, hw => by
    rw [runs] at h
    show runs ds i S (m0 :: (r ++ [m])) = _
    rw [runs]
    split at h
    · cases h
    · exact runs_snoc r _ _ _ h hw
theorem eqv_nil (l : List Mv) : PyData.eqv (dMs l) (dMs []) = decide (l = []) := by
  cases l with
  | nil => exact d_refl (dMs_shaped [])
  | cons m r =>
    rw [decide_eq_false (by simp)]
    simp only [dMs, List.map_cons, List.map_nil, PyData.eqv, PyData.eqvAll]
theorem Canon.len {l P} (c : Canon l P) : l.length ≤ 262144 := by
  have h := nodup_le 262144 (l.map fun m : Mv => m.1 * 4096 + m.2.1 * 64 + m.2.2) (List.pairwise_map.mpr (c.asc.imp fun h => by
    rw [mcode_is, mcode_is] at h
    omega)) fun x hx => by
      obtain ⟨m, hm, rfl⟩ := List.mem_map.mp hx
      obtain ⟨h1, h2, h3⟩ := c.sm m hm
      omega
  rw [List.length_map] at h
  exact h
def spWalkR (K : PySem.W.Frag) : Sp := fun vs H Q _ => ∃ (g a s : Addr) (b n : Nat) (ds : List (Nat × Nat)) (S : S2), vs = [.ref g, .ref a, .ref s] ∧ GenAt H g b ∧ HouseAt K H a ds ∧ Tree n ds ∧ n ≤ 15 ∧ StateAt K H s S ∧ StOk n ds S ∧ Apt ds S ∧ b < 2 ^ 58 ∧
  ∀ H', But g H H' → GenAt H' g (b + 12) → Q (.bl true) H'
section
variable {P : Program} {w : World} {K : PySem.W.Frag}
      {mg : Str → Option Value} {base : Heap}
theorem ok_l_walk_right (T : Bl mg) (D : Def K mg "_law_walk_right" s_l_walk_right) (C_l_regions : Cal P w K mg base "_law_regions" ["_law_doors", "_law_position"] 4 (spRegsL K)) (C_count_following : Cal P w K mg base "count_following" ["house", "state"] 9 (spCountF K))
    (C_possible_moves : Cal P w K mg base "possible_moves" ["house", "state"] 8 (spPoss K)) (C_play : Cal P w K mg base "play" ["house", "state", "plan"] 8 (spPlayG K)) (C_l_random : Cal P w K mg base "_law_random" ["_law_generator_here", "_law_bound"] 2 spRand)
    (C_l_apart : Cal P w K mg base "_law_apart" ["_law_doors", "_law_position"] 5 (spApt K)) : Cal P w K mg base "_law_walk_right" ["_law_generator_here", "_law_doors", "_law_position"] 10 (spWalkR K) := by
  refine D.ok sc_l_walk_right (fun _ _ _ _ _ _ us hl => match us, hl with | [_, _, _], _ => rfl) (fun vs H Q E h => ?_) (fun f0 cdv A outer s0 H vs Q E hr h => ?_)
  · obtain ⟨g, a, s, b, n, ds, S, rfl, _⟩ := h
    rfl
  obtain ⟨g, a, s, b, n, ds, S, rfl, gen, hH, tree, hn, st, ok, apt, hb, qn⟩ := h
  obtain ⟨gx, hgx⟩ := gen.lst
  have few := ok.few
  have one := ok.one
  obtain ⟨f_l_regions, fd_l_regions, g_l_regions, k_l_regions, b_l_regions, G_l_regions⟩ := C_l_regions
  obtain ⟨f_count_following, fd_count_following, g_count_following, k_count_following, b_count_following, G_count_following⟩ := C_count_following
  obtain ⟨f_possible_moves, fd_possible_moves, g_possible_moves, k_possible_moves, b_possible_moves, G_possible_moves⟩ := C_possible_moves
  obtain ⟨f_play, fd_play, g_play, k_play, b_play, G_play⟩ := C_play
  obtain ⟨f_l_random, fd_l_random, g_l_random, k_l_random, b_l_random, G_l_random⟩ := C_l_random
  obtain ⟨f_l_apart, fd_l_apart, g_l_apart, k_l_apart, b_l_apart, G_l_apart⟩ := C_l_apart
  refine ⟨_, (pss_cons (ps_set (i := 3) sc_l_walk_right.nd rfl (.inl rfl) (pe_call G_l_regions (hr.mono (by decide)) (by rfl) g_l_regions k_l_regions b_l_regions .nil pass0 (pa_cons (pv 1) (pa_cons (pv 2) pa_nil))))
    (pss_cons (ps_set (i := 4) sc_l_walk_right.nd rfl (.inl rfl) (pe_call G_count_following (hr.mono (by decide)) (by rfl) g_count_following k_count_following b_count_following .nil pass0 (pa_cons (pv 1) (pa_cons (pv 2) pa_nil))))
    (pss_cons (ps_for PassesOwn.never rfl (pi_range1 rfl T.range (pa_cons pe_int pa_nil)) (pg_name (i := 5) sc_l_walk_right.nd rfl (.inl rfl))
    (pss_cons (ps_set (i := 6) sc_l_walk_right.nd rfl (.inl rfl) (pe_call G_possible_moves (hr.mono (by decide)) (by rfl) g_possible_moves k_possible_moves b_possible_moves .nil pass0 (pa_cons (pv 1) (pa_cons (pv 2) pa_nil))))
    (Evl.pss_cut (ps_if (pt_cmpR (op_neD hr.units) (pv 6) (pe_lst pa_nil) (nomark _)) (pss_one (ps_set (i := 2) sc_l_walk_right.nd rfl (.inl rfl) (pe_call G_play (hr.mono (by decide)) (by rfl) g_play k_play b_play .nil pass0 (pa_cons (pv 1) (pa_cons (pv 2) (pa_cons (pe_lst (pa_cons (pe_ix ix_list (pv 6) (pe_call G_l_random (hr.mono (by decide)) (by rfl) g_l_random k_l_random b_l_random .nil pass0 (pa_cons (pv 0) (pa_cons (pe_callB call_len_seq (by rfl) T.len PySem.boot_len (pa_cons (pv 6) pa_nil)) pa_nil))) (fun _ _ => rfl)) pa_nil)) pa_nil)))))) pss_nil)
    (pss_cons (ps_for PassesOwn.never rfl (pi_enumT (by rfl) T.enumerate (pa_cons (pe_ix ix_tup (pv 2) pe_int (fun _ _ => rfl)) pa_nil)) (pg_tup (n := 2) rfl (pgs_cons (pg_name (i := 7) sc_l_walk_right.nd rfl (.inl rfl)) (pgs_cons (pg_name (i := 8) sc_l_walk_right.nd rfl (.inl rfl)) pgs_nil)))
    (pss_one (ps_if (pt_cmpR op_notIn_seq (pv 8) (pe_ix ix_list (pv 3) (pv 7) (fun _ _ => rfl)) (by rfl)) (pss_one (ps_ret pe_bl)) pss_nil)))
    (pss_cons (ps_set (i := 9) sc_l_walk_right.nd rfl (.inl rfl) (pe_call G_count_following (hr.mono (by decide)) (by rfl) g_count_following k_count_following b_count_following .nil pass0 (pa_cons (pv 1) (pa_cons (pv 2) pa_nil))))
    (pss_cons (ps_if (PW.pt (pw_or (pt_not (pt_val (pe_call G_l_apart (hr.mono (by decide)) (by rfl) g_l_apart k_l_apart b_l_apart .nil pass0 (pa_cons (pv 1) (pa_cons (pv 2) pa_nil))))) (pw_or (pt_cmpR op_isN (pv 9) pe_non (nomark _)) (pw_or1 (pt_cmpR op_gt (pv 9) (pv 4) (nomark _)))))) (pss_one (ps_ret pe_bl)) pss_nil)
    (pss_one (ps_set (i := 4) sc_l_walk_right.nd rfl (.inl rfl) (pv 9)))))))))
    (pss_one (ps_ret pe_bl))))), ?_⟩
  refine ⟨_, rfl, _, rfl, a, s, n, ds, S, rfl, hH, tree, by omega, st, ok, fun H1 q Ls s1 nq la rl => ?_⟩
  have nqg : q ≠ g := (ne_of_none hgx nq).symm
  refine ⟨_, rfl, _, rfl, a, s, n, ds, S, rfl, hH.same s1, tree, by omega, st.same s1, ok, (fun z => absurd apt z), fun _ H2 Ks s2 rk => ?_⟩
  have s12 := s1.trans s2
  refine ⟨12, rfl, by decide, by decide, ?_⟩
  refine for_range (lo := 0) (n := 12) (fun i σ H3 => ∃ (s' : Addr) (S' : S2) (Ms : List (List Nat)) (y5 y6 y7 y8 y9 : Option V), σ = [some (.ref g), some (.ref a), some (.ref s'), some (.ref q), some (.int ((prodN Ms : Nat) : Int)), y5, y6, y7, y8, y9] ∧ But g H2 H3 ∧ GenAt H3 g (b + i) ∧ StateAt K H3 s' S' ∧ StOk n ds S' ∧ Apt ds S' ∧ S'.1.length = S.1.length ∧
      (∀ p x, Rg ds S' p x → Rg ds S p x) ∧ RegsL ds S' S'.1.length Ms)
    ⟨s, S, Ks, _, _, _, _, _, rfl, But.refl _ _, gen.same s12, st.same s12, ok, apt, rfl, fun _ _ h => h, rk⟩ ?_ ?_
  · rintro i σ H3 hi ⟨s', S', Ms, y5, y6, y7, y8, y9, rfl, bt, g3, st3, ok3, ap3, le3, sub3, rm⟩
    have bt03 := s12.but.trans bt
    have hH3 := hH.but hgx bt03
    refine ⟨_, rfl, _, rfl, a, s', ds, n, S', rfl, hH3, tree, hn, st3, ok3, fun H4 qm l s4 nqm tr can => ?_⟩
    refine ⟨fun σ H6 => ∃ (s'' : Addr) (S'' : S2) (y5 y6 y7 y8 y9 : Option V), σ = [some (.ref g), some (.ref a), some (.ref s''), some (.ref q), some (.int ((prodN Ms : Nat) : Int)), y5, y6, y7, y8, y9] ∧ But g H2 H6 ∧ GenAt H6 g (b + i + 1) ∧ StateAt K H6 s'' S'' ∧ StOk n ds S'' ∧ Apt ds S'' ∧ S''.1.length = S'.1.length ∧
      ∀ p x, Rg ds S'' p x → Rg ds S' p x, ?_, ?_⟩
    · refine ⟨_, rfl, Nat.zero_le _, fun pe npe => ?_⟩
      have sE := Same.upd (o := .lst []) npe
      have s4e := s4.trans sE
      have tr5 := tr.same sE
      have trE : TrisAt (upd H4 pe (.lst [])) pe [] := ⟨[], upd_same, TL.nil⟩
      refine ⟨dMs l, dMs [], dp_Tris tr5, dp_Tris trE, dMs_shaped _, dMs_shaped _, _, rfl, ?_⟩
      rw [dMs_nil]
      have g5 := g3.same s4e
      have hH5 := hH3.same s4e
      have st5 := st3.same s4e
      have bt5 := bt.trans s4e.but
      have nqmg : qm ≠ g := g3.ne nqm
      generalize upd H4 pe (.lst []) = H5 at s4e tr5 g5 hH5 st5 bt5
      clear trE sE
      by_cases c : l = []
      · rw [decide_eq_true c]
        exact iteF ⟨s', S', _, _, _, _, _, rfl, bt5, g5.mono (by omega), st5, ok3, ap3, rfl, fun _ _ h => h⟩
      rw [decide_eq_false c]
      have lpos : 0 < l.length := List.length_pos_iff.mpr c
      obtain ⟨ts, hq5, tl5⟩ := tr5
      have ll := can.len
      refine iteT ⟨_, rfl, _, rfl, _, rfl, _, rfl, _, rfl, qm, _, rfl, .inl (SqL.of hq5), g, b + i, l.length, congrArg (fun z : Nat => [V.ref g, V.int (z : Int)]) (by rw [List.length_map, tl5.1]), g5, lpos, by omega, by omega, fun H6 v bt6 g6 hv => ?_⟩
      obtain ⟨gy, hgy⟩ := g5.lst
      have hq6 := bt6 _ _ nqmg hq5
      have tl6 := tl5.but hgy bt6
      obtain ⟨t, ht⟩ : ∃ t, ts[v]? = some t := get_of tl5.1 hv
      obtain ⟨m, hm⟩ : ∃ m, l[v]? = some m := get_of rfl hv
      have cm : Can ds S' m := (can.mem m).mp (List.mem_of_getElem? hm)
      have ht6 := tl6.2 v t m ht hm
      refine ⟨qm, _, _, V.ref t, rfl, rfl, SqL.of hq6, atI_nat (v := V.ref t) (by rw [List.getElem?_map, ht]; rfl), by show 1 ≤ sizeLine; decide, fun pl npl => ?_⟩
      have s7 := Same.upd (o := .lst [.ref t]) npl
      have hpl := upd_same (H := H6) (a := pl) (o := .lst [.ref t])
      have ht7 := s7 _ _ ht6
      have g7 := g6.same s7
      have st7 := (st5.but hgy bt6).same s7
      have hH7 := (hH5.but hgy bt6).same s7
      have bt7 := (bt5.trans bt6).trans s7.but
      generalize upd H6 pl (.lst [.ref t]) = H7 at hpl ht7 g7 st7 hH7 bt7
      refine ⟨a, s', pl, n, ds, S', nxt ds S' m, [m], rfl, hH7, tree, by omega, st7, ok3, ⟨[t], hpl, rfl, fun k t' m' e1 e2 => ?_⟩, fun m' hm' => ?_, ?_, fun H8 q8 s8 st8 => ?_⟩
      · match k with
        | 0 =>
          cases e1
          cases e2
          exact ht7
        | k + 1 => simp at e1
      · rw [List.mem_singleton.mp hm']
        exact cm.vm
      · show (match why ds S' m with
          | some w => Sum.inl (0, w)
          | none => runs ds (0 + 1) (nxt ds S' m) []) = _
        rw [cm.why tree ok3]
        rfl
      · exact ⟨q8, nxt ds S' m, _, _, _, _, _, rfl, bt7.trans s8.but, g7.same s8, st8, ok3.nxt tree cm.vm, ap3.next tree ok3 cm, nxt_len, fun p x h => ap3.step tree ok3 cm h⟩
    · rintro σ H6 ⟨s6, S6, y5, y6, y7, y8, y9, rfl, bt6, g6, st6, ok6, ap6, le6, sub6⟩
      obtain ⟨r, bb, e1, e2, e3⟩ := id st6
      have bt06 := s12.but.trans bt6
      have hH6 := hH.but hgx bt06
      have la6 : ListsAt H H6 q Ls := (la.same s2).but nqg hgx bt6
      obtain ⟨rs6, f1, f2, f3⟩ := id la6
      refine ⟨_, rfl, s6, _, _, _, rfl, rfl, e1, atI_nat (j := 0) rfl, r, _, rfl, e2, ?_⟩
      refine for_it (walk_enumT (K := K) (a := r) (xs := nv S6.1)) (fun k σ H7 => ∃ (y7 y8 : Option V), σ = [some (.ref g), some (.ref a), some (.ref s6), some (.ref q), some (.int ((prodN Ms : Nat) : Int)), y5, y6, y7, y8, y9] ∧ Same H6 H7) ⟨_, _, rfl, Same.refl _⟩ (fun k σ H7 _ ⟨_, _, _, s7⟩ => s7.tup e2) ?_ ?_
      · rintro k x σ H7 H8 hk ⟨y7, y8, rfl, s7⟩ ⟨t, x1, x2, rfl, nt, rfl, ex1, ex2⟩
        cases ex1
        obtain ⟨v, hv, rfl⟩ := nv_some ex2
        have s8 := s7.trans (Same.upd (o := .tup [.int (k : Nat), .int (v : Int)]) nt)
        have lk : k < S.1.length := by have := get_lt hv; omega
        obtain ⟨L, hL⟩ : ∃ L, Ls[k]? = some L := get_of rfl (by rw [rl.len]; exact lk)
        obtain ⟨rr, hrr⟩ : ∃ rr, rs6[k]? = some rr := get_of f2 (get_lt hL)
        have vin : v ∈ L := (rl.rg hL v).mpr (sub3 _ _ (sub6 _ _ (Rg.here hv)))
        refine ⟨t, _, rfl, SqT.of upd_same, rfl, _, _, rfl, _, _, rfl, rfl, ?_⟩
        refine ⟨_, rfl, _, rfl, _, rfl, q, _, _, V.ref rr, rfl, rfl, SqL.of (s8 _ _ f1), atI_nat (v := V.ref rr) (by rw [List.getElem?_map, hrr]; rfl), rr, _, rfl, .inl (SqL.of (s8 _ _ (f3 k rr L hrr hL).2.2)), rfl, flat_nv _, _, rfl, ?_⟩
        show if (!inV (V.int (v : Int)) (nv L)) = true then _ else _
        rw [inV_nv, decide_eq_true vin]
        exact iteF ⟨_, _, rfl, s8⟩
      · rintro σ H7 ⟨y7, y8, rfl, s7⟩
        refine ⟨_, rfl, _, rfl, a, s6, n, ds, S6, rfl, hH6.same s7, tree, by omega, st6.same s7, ok6, (fun z => absurd ap6 z), fun _ H8 Ns s8 rN => ?_⟩
        have s68 := s7.trans s8
        refine ⟨_, rfl, _, rfl, a, s6, n, ds, S6, rfl, hH6.same s68, tree, by omega, st6.same s68, ok6, fun H9 bo s9 hbo => ?_⟩
        obtain rfl : bo = true := hbo.mpr ap6
        have s69 := s68.trans s9
        have le : prodN Ns ≤ prodN Ms := prodN_le Ns Ms (by rw [rN.len, rm.len, le6]) fun p L M h1 h2 => by
          have sub : ∀ x ∈ L, x ∈ M := fun x hx => (rm.rg h2 x).mpr (sub6 p x ((rN.rg h1 x).mp hx))
          have nd := (rN.at_ p L h1).nd
          exact sub_len L M nd sub
        refine ⟨_, rfl, iteF ⟨_, rfl, rfl, _, rfl, ?_⟩⟩
        rw [decide_eq_false (show ¬ V.int ((prodN Ns : Nat) : Int) = V.non from fun z => by cases z)]
        refine iteF ⟨_, rfl, _, rfl, _, _, rfl, rfl, _, rfl, ?_⟩
        rw [decide_eq_false (show ¬ ((prodN Ns : Nat) : Int) > ((prodN Ms : Nat) : Int) by omega)]
        refine iteF ⟨_, rfl, s6, S6, Ns, _, _, _, _, _, rfl, bt6.trans s69.but, (g6.same s69).mono (by omega), st6.same s69, ok6, ap6, le6.trans le3, fun p x h => sub3 p x (sub6 p x h), rN⟩
  · rintro σ H3 ⟨s', S', Ms, y5, y6, y7, y8, y9, rfl, bt, g3, st3, ok3, ap3, le3, sub3, rm⟩
    exact qn H3 (s12.but.trans bt) g3
end
end K5

namespace K5
open PySem PySem.Spec PyProof.Rows L2 PySem.W
/-- a tuple of whole numbers, as data -/
def dT (x : List Nat) : PyData := .tuple (dIs x)
theorem dT_eqv (l m : List Nat) : PyData.eqv (dT l) (dT m) = decide (l = m) := by
  simp only [dT, PyData.eqv, eqvAll_is]
theorem dT_toks {A B : List Nat} (h : keyToks (dT A) = keyToks (dT B)) : A = B := by
  simp only [dT, keyToks, List.cons.injEq, true_and] at h
  exact (toks_is A B [] [] (by simpa using h)).1
theorem dTs_lay : ∀ X : List (List Nat), PyData.canLayAll0 (X.map dT) = true
  | [] => by simp [PyData.canLayAll0]
  | x :: X => by simp only [List.map_cons, PyData.canLayAll0, dT, PyData.canLay0, dIs_lay, Bool.true_and]; exact dTs_lay X
theorem dTs_depth : ∀ X : List (List Nat), PyData.depthAll (X.map dT) ≤ 10
  | [] => by simp [PyData.depthAll]
  | x :: X => by
    have h1 := dTs_depth X
    have h2 := dIs_depth x
    simp only [List.map_cons, PyData.depthAll, dT, PyData.depth]
    omega
theorem dTs_shaped (X : List (List Nat)) : SeqAt.shaped (.list (X.map dT)) = true := by
  refine shaped_mk ?_ ?_
  · simp only [PyData.canLay0]
    exact dTs_lay X
  · have := dTs_depth X
    simp only [PyData.depth]
    omega
theorem dT_shaped (x : List Nat) : SeqAt.shaped (dT x) = true := by
  refine shaped_mk ?_ ?_
  · simp only [dT, PyData.canLay0]
    exact dIs_lay x
  · have := dIs_depth x
    simp only [dT, PyData.depth]
    omega
theorem dLs_shaped (x : List Nat) : SeqAt.shaped (.list (dIs x)) = true := by
  refine shaped_mk ?_ ?_
  · simp only [PyData.canLay0]
    exact dIs_lay x
  · have := dIs_depth x
    simp only [PyData.depth]
    omega
/-- tuples of whole numbers, one behind the other -/
def TupsAt (K : PySem.W.Frag) (H : Hp) (ts : List Addr) (X : List (List Nat)) : Prop := ts.length = X.length ∧ ∀ (i : Nat) (t : Addr) (x : List Nat), ts[i]? = some t → X[i]? = some x → SqT K H t (nv x)
theorem TupsAt.same {K : PySem.W.Frag} {H H' : Hp} {ts : List Addr} {X : List (List Nat)} (h : TupsAt K H ts X) (s : Same H H') : TupsAt K H' ts X := ⟨h.1, fun i t x a b => s.tup (h.2 i t x a b)⟩
theorem TupsAt.put {K : PySem.W.Frag} {H : Hp} {ts : List Addr} {X : List (List Nat)} {p : Addr} {xs : List V} {o : HO} (h : TupsAt K H ts X) (hp : H p = some (.lst xs)) : TupsAt K (upd H p o) ts X := ⟨h.1, fun i t x a b => (But.upd (But.refl _ _) o).tup hp (h.2 i t x a b)⟩
theorem TupsAt.join {K : PySem.W.Frag} {H : Hp} {ts ts' : List Addr} {X X' : List (List Nat)} (h : TupsAt K H ts X) (h' : TupsAt K H ts' X') : TupsAt K H (ts ++ ts') (X ++ X') := by
  refine ⟨by rw [List.length_append, List.length_append, h.1, h'.1], fun i a b e1 e2 => ?_⟩
  by_cases hi : i < ts.length
  · rw [List.getElem?_append_left hi] at e1
    rw [List.getElem?_append_left (by rw [← h.1]; exact hi)] at e2
    exact h.2 i a b e1 e2
  · rw [List.getElem?_append_right (by omega)] at e1
    rw [List.getElem?_append_right (by rw [← h.1]; omega), ← h.1] at e2
    exact h'.2 _ a b e1 e2
theorem TupsAt.one {K : PySem.W.Frag} {H : Hp} {t : Addr} {x : List Nat} (h : SqT K H t (nv x)) : TupsAt K H [t] [x] := ⟨rfl, fun i a b e1 e2 => by
  match i with
  | 0 =>
    cases e1
    cases e2
    exact h
  | i + 1 => simp at e1⟩
theorem dp_tups {K : PySem.W.Frag} {H : Hp} : ∀ (ts : List Addr) (X : List (List Nat)), TupsAt K H ts X → DpAll K H (ts.map V.ref) (X.map dT)
  | [], [], _ => .nil
  | [], _ :: _, h => by have := h.1; simp at this
  | _ :: _, [], h => by have := h.1; simp at this
  | t :: ts, x :: X, h => .cons (.tup (h.2 0 t x rfl rfl) (dp_is _)) (dp_tups ts X ⟨by have := h.1; simpa using this, fun i t' x' a b => h.2 (i + 1) t' x' a b⟩)
theorem sort_tups {K : PySem.W.Frag} {H : Hp} {Q : VK} {q : Addr} {ts : List Addr} {X : List (List Nat)} (hq : H q = some (.lst (ts.map V.ref))) (tp : TupsAt K H ts X) (ne : ∀ x ∈ X, x ≠ [])
    (qn : ∀ (H' : Hp) (p : Addr) (ts' : List Addr) (X' : List (List Nat)), Same H H' → H p = none → H' p = some (.lst (ts'.map V.ref)) → TupsAt K H' ts' X' → X'.Perm X → (X'.Pairwise fun x y => dataLe false dT x y = true) → Q (.ref p) H') : rSortedD K [.ref q] H Q := by
  refine ⟨q, ts.map V.ref, X.map dT, rfl, SqL.of hq, dp_tups ts X tp, ?_, .inl ?_, ?_, fun p np => ?_⟩
  · intro d hd d' hd'
    obtain ⟨x, _, rfl⟩ := List.mem_map.mp hd
    obtain ⟨y, _, rfl⟩ := List.mem_map.mp hd'
    simp only [dT, alike, alike_is]
  · intro d hd
    obtain ⟨x, hx, rfl⟩ := List.mem_map.mp hd
    cases x with
    | nil => exact absurd rfl (ne _ hx)
    | cons y r => exact ⟨_, _, rfl⟩
  · intro d hd
    obtain ⟨x, _, rfl⟩ := List.mem_map.mp hd
    have := dIs_depth x
    simp only [dT, PyData.depth]
    omega
  · rw [List.zip_map]
    obtain ⟨zl, ez, pz⟩ := perm_of_map _ _ _ (List.mergeSort_perm (List.map (Prod.map V.ref dT) (ts.zip X)) (dataLe false Prod.snd))
    have pw := sort_pairwise (sortLe_total (listOrd itemOrd) false fun b : V × PyData => keyToks b.2) (List.map (Prod.map V.ref dT) (ts.zip X))
    have pw2 : ((List.map (Prod.map V.ref dT) (ts.zip X)).mergeSort (dataLe false Prod.snd)).Pairwise fun a b => dataLe false Prod.snd a b = true := pw
    rw [ez] at pw2 ⊢
    rw [List.pairwise_map] at pw2
    have sp := Same.upd (o := .lst ((zl.map (Prod.map V.ref dT)).map Prod.fst)) np
    have lz := tp.1
    refine qn _ p (zl.map Prod.fst) (zl.map Prod.snd) sp np (by rw [upd_same, List.map_map, List.map_map]; rfl) ⟨by rw [List.length_map, List.length_map], fun i t x e1 e2 => ?_⟩ ?_ ?_
    · rw [List.getElem?_map] at e1 e2
      cases ei : zl[i]? with
      | none => rw [ei] at e1; cases e1
      | some z =>
        rw [ei] at e1 e2
        cases e1
        cases e2
        obtain ⟨j, hj⟩ := List.mem_iff_getElem?.mp (pz.mem_iff.mp (List.mem_of_getElem? ei))
        obtain ⟨j1, j2⟩ := List.getElem?_zip_eq_some.mp hj
        exact sp.tup (tp.2 j z.1 z.2 j1 j2)
    · have := pz.map Prod.snd
      rwa [List.map_snd_zip (by rw [lz]; exact Nat.le_refl _)] at this
    · rw [List.pairwise_map]
      exact pw2
theorem rep_flat (k x : Nat) : (List.replicate k [V.int (x : Int)]).flatten = nv (List.replicate k x) := by
  induction k with
  | zero => rfl
  | succ k ih => rw [List.replicate_succ, List.replicate_succ, List.flatten_cons, ih]; rfl
/-- apart: the rooms of what can come about are all choices out of the regions -/
theorem rooms_perm {n : Nat} {ds : List (Nat × Nat)} {S : S2} {l : List S2} {Ls : List (List Nat)} (T : Tree n ds) (o : StOk n ds S) (a : Apt ds S) (rl : RegsL ds S S.1.length Ls) (nd : l.Nodup) (mem : ∀ A, A ∈ l ↔ Rc ds S A) : (l.map Prod.fst).Perm (prodL Ls) := by
  refine (List.perm_ext_iff_of_nodup ?_ (prodL_nd Ls fun L hL => ?_)).mpr fun X => ?_
  · show List.Pairwise (· ≠ ·) _
    rw [List.pairwise_map]
    exact List.Pairwise.imp_of_mem (fun {A B} hA hB ne z => ne (apt_inj T o a ((mem A).mp hA) ((mem B).mp hB) z)) nd
  · obtain ⟨p, hp⟩ := List.mem_iff_getElem?.mp hL
    exact (rl.at_ p L hp).nd
  · rw [prodL_mem]
    constructor
    · intro h
      obtain ⟨A, hA, rfl⟩ := List.mem_map.mp h
      have rA := (mem A).mp hA
      refine ⟨by rw [rA.len, rl.len], fun p x hx => ?_⟩
      have lp : p < S.1.length := by rw [← rA.len]; exact get_lt hx
      obtain ⟨L, hL⟩ : ∃ L, Ls[p]? = some L := get_of rfl (by rw [rl.len]; exact lp)
      exact ⟨L, hL, (rl.rg hL x).mpr (apt_in T o a rA hx)⟩
    · rintro ⟨h1, h2⟩
      obtain ⟨A, rA, e⟩ := place T o (rooms := X) (by rw [h1, rl.len]) fun p x hx => by
        obtain ⟨L, hL, hxL⟩ := h2 p x hx
        exact (rl.rg hL x).mp hxL
      exact List.mem_map.mpr ⟨A, (mem A).mpr rA, e⟩
def spSmall (K : PySem.W.Frag) : Sp := fun vs H Q _ => ∃ (a s : Addr) (n : Nat) (ds : List (Nat × Nat)) (S : S2), vs = [.ref a, .ref s] ∧ HouseAt K H a ds ∧ Tree n ds ∧ n ≤ 4 ∧ StateAt K H s S ∧ StOk n ds S ∧ S.1.length ≤ 3 ∧ ∀ H', Same H H' → Q (.bl true) H'
section
variable {P : Program} {w : World} {K : PySem.W.Frag}
      {mg : Str → Option Value} {base : Heap}
theorem ok_l_small_right (T : Bl mg) (D : Def K mg "_law_small_right" s_l_small_right) (C_l_following : Cal P w K mg base "_law_following" ["_law_doors", "_law_position"] 3 (spFollow K)) (C_l_apart : Cal P w K mg base "_law_apart" ["_law_doors", "_law_position"] 5 (spApt K))
    (C_count_following : Cal P w K mg base "count_following" ["house", "state"] 9 (spCountF K)) (C_l_regions : Cal P w K mg base "_law_regions" ["_law_doors", "_law_position"] 4 (spRegsL K)) : Cal P w K mg base "_law_small_right" ["_law_doors", "_law_position"] 10 (spSmall K) := by
  refine D.ok sc_l_small_right (fun _ _ _ _ _ _ us hl => match us, hl with | [_, _], _ => rfl) (fun vs H Q E h => ?_) (fun f0 cdv A outer s0 H vs Q E hr h => ?_)
  · obtain ⟨a, s, n, ds, S, rfl, _⟩ := h
    rfl
  obtain ⟨a, s, n, ds, S, rfl, hH, tree, hn, st, ok, h3', qn⟩ := h
  obtain ⟨rs, hrs, hlen, hds⟩ := id hH
  obtain ⟨r, b, e1, e2, e3⟩ := id st
  have hdn := tree.len
  have one := ok.one
  obtain ⟨f_l_following, fd_l_following, g_l_following, k_l_following, b_l_following, G_l_following⟩ := C_l_following
  obtain ⟨f_l_apart, fd_l_apart, g_l_apart, k_l_apart, b_l_apart, G_l_apart⟩ := C_l_apart
  obtain ⟨f_count_following, fd_count_following, g_count_following, k_count_following, b_count_following, G_count_following⟩ := C_count_following
  obtain ⟨f_l_regions, fd_l_regions, g_l_regions, k_l_regions, b_l_regions, G_l_regions⟩ := C_l_regions
  refine ⟨_, (pss_cons (ps_set (i := 2) sc_l_small_right.nd rfl (.inr rfl) (pe_call G_l_following (hr.mono (by decide)) (by rfl) g_l_following k_l_following b_l_following .nil pass0 (pa_cons (pv 0) (pa_cons (pv 1) pa_nil))))
    (pss_cons (ps_set (i := 3) sc_l_small_right.nd rfl (.inl rfl) (pe_op op_add (pe_callB call_len_seq (by rfl) T.len PySem.boot_len (pa_cons (pv 0) pa_nil)) pe_int))
    (pss_cons (ps_set (i := 4) sc_l_small_right.nd rfl (.inr rfl) (pe_callB call_len_seq (by rfl) T.len PySem.boot_len (pa_cons (pe_ix ix_tup (pv 1) pe_int (fun _ _ => rfl)) pa_nil)))
    (pss_cons (ps_if (pt_not (pt_val (pe_call G_l_apart (hr.mono (by decide)) (by rfl) g_l_apart k_l_apart b_l_apart .nil pass0 (pa_cons (pv 0) (pa_cons (pv 1) pa_nil))))) (pss_cons (ps_setLc (i := 5) (own := [("_law_place", 6)]) (g := gName 6)  (tt := (tTest (tOp (rNeD K) (tLc (iList K (tVar 2)) (gName 7) (tTest (tOp (rEqD K) (tOp (rIxT K) (tVar 7) (tC (.int 0))) (tOp (rRepT K) (tTup (tCons (tVar 6) tNil)) (tVar 4)))) (tVar 7) [7]) (tLst tNil)))) rfl sc_l_small_right.nd rfl rfl (sw_true rfl rfl rfl (by decide +kernel)) (pi_range1 rfl T.range (pa_cons (pv 3) pa_nil)) (blkOk_by (N := N_l_small_right) (sc := defScope s_l_small_right) (own := [("_law_place", 6)]) (by decide +kernel)) (fun _ _ _ _ _ => (pg_name (i := 6) sc_l_small_right.nd rfl (.inr rfl) (.inl rfl))) (fun _ _ _ _ _ => (pts_one (pt_cmpR (op_neD hr.units) (pe_lc (own := [("_law_other", 7)]) (g := gName 7)  (tt := (tTest (tOp (rEqD K) (tOp (rIxT K) (tVar 7) (tC (.int 0))) (tOp (rRepT K) (tTup (tCons (tVar 6) tNil)) (tVar 4))))) rfl sc_l_small_right.nd (pi_list (pv 2)) (blkOk_by (N := N_l_small_right) (own := [("_law_other", 7)]) (by rfl)) (fun _ _ _ _ _ => (pg_name (i := 7) sc_l_small_right.nd rfl (.inl rfl) (.inr rfl))) (fun _ _ _ _ _ => (pts_one (pt_cmpR (op_eqD hr.units) (pe_ix ix_tup (pv 7) pe_int (fun _ _ => rfl)) (pe_op op_repT (pe_tup (pa_cons (pv 6) pa_nil)) (pv 4)) (nomark _)))) (fun _ _ _ _ _ => (pv 7))) (pe_lst pa_nil) (nomark _)))) (fun _ _ _ _ _ => (pv 6)))
    (pss_one (ps_ret (pe_and (pe_cmpR (op_eqD hr.units) (pv 5) (pe_listRg rfl (by rfl) T.list (prg_1 (by rfl) T.range (pv 3))) (nomark _)) (pe_one (pe_cmpR op_isN (pe_call G_count_following (hr.mono (by decide)) (by rfl) g_count_following k_count_following b_count_following .nil pass0 (pa_cons (pv 0) (pa_cons (pv 1) pa_nil))) pe_non (nomark _))))))) pss_nil)
    (pss_cons (ps_set (i := 8) sc_l_small_right.nd rfl (.inl rfl) (pe_call G_l_regions (hr.mono (by decide)) (by rfl) g_l_regions k_l_regions b_l_regions .nil pass0 (pa_cons (pv 0) (pa_cons (pv 1) pa_nil))))
    (pss_cons (ps_set (i := 9) sc_l_small_right.nd rfl (.inl rfl) (pe_lst (pa_cons (pe_tup pa_nil) pa_nil)))
    (pss_cons (ps_for PassesOwn.never rfl (pi_list (pv 8)) (pg_name (i := 10) sc_l_small_right.nd rfl (.inl rfl))
    (pss_cons (ps_set (i := 11) sc_l_small_right.nd rfl (.inl rfl) (pe_lst pa_nil))
    (pss_cons (ps_for PassesOwn.never rfl (pi_list (pv 9)) (pg_name (i := 12) sc_l_small_right.nd rfl (.inr rfl))
    (pss_one (ps_set (i := 11) sc_l_small_right.nd rfl (.inl rfl) (pe_op op_cat (pv 11) (pe_lc (own := [("_law_place", 6)]) (g := gName 6)  (te := (tOp (rCatA K) (tVar 12) (tTup (tCons (tVar 6) tNil)))) rfl sc_l_small_right.nd (pi_list (pv 10)) (blkOk_by (N := N_l_small_right) (sc := defScope s_l_small_right) (own := [("_law_place", 6)]) (by decide +kernel)) (fun _ _ _ _ _ => (pg_name (i := 6) sc_l_small_right.nd rfl (.inl rfl) (.inr rfl))) (fun _ _ _ _ _ => pts_nil) (fun _ _ _ _ _ => (pe_op op_catA (pv 12) (pe_tup (pa_cons (pv 6) pa_nil)))))))))
    (pss_one (ps_set (i := 9) sc_l_small_right.nd rfl (.inl rfl) (pv 11))))))
    (pss_cons (ps_set (i := 13) sc_l_small_right.nd rfl (.inl rfl) (pe_callB (cr_sortedD hr.units) (by rfl) T.sorted (by decide +kernel) (pa_cons (pe_lc (own := [("_law_other", 7)]) (g := gName 7)  (te := (tOp (rIxT K) (tVar 7) (tC (.int 0)))) rfl sc_l_small_right.nd (pi_list (pv 2)) (blkOk_by (N := N_l_small_right) (sc := defScope s_l_small_right) (own := [("_law_other", 7)]) (by decide +kernel)) (fun _ _ _ _ _ => (pg_name (i := 7) sc_l_small_right.nd rfl (.inl rfl) (.inr rfl))) (fun _ _ _ _ _ => pts_nil) (fun _ _ _ _ _ => (pe_ix ix_tup (pv 7) pe_int (fun _ _ => rfl)))) pa_nil)))
    (pss_one (ps_ret (pe_and (pe_cmpR (op_eqD hr.units) (pv 13) (pe_callB (cr_sortedD hr.units) (by rfl) T.sorted (by decide +kernel) (pa_cons (pv 9) pa_nil)) (nomark _)) (pe_one (pe_cmpR op_eq (pe_call G_count_following (hr.mono (by decide)) (by rfl) g_count_following k_count_following b_count_following .nil pass0 (pa_cons (pv 0) (pa_cons (pv 1) pa_nil))) (pe_callB call_len_seq (by rfl) T.len PySem.boot_len (pa_cons (pv 2) pa_nil)) (nomark _)))))))))))))), ?_⟩
  refine ⟨_, rfl, _, rfl, a, s, n, ds, S, rfl, hH, tree, hn, st, ok, h3', fun H1 q ts l s1 nq hq sts nd mem ll => ?_⟩
  refine ⟨_, rfl, a, _, rfl, .inr (s1.tup hrs), _, _, rfl, rfl, ?_⟩
  refine ⟨_, rfl, s, _, _, _, rfl, rfl, s1.tup e1, atI_nat (j := 0) rfl, r, _, rfl, .inr (s1.tup e2), ?_⟩
  refine ⟨_, rfl, _, rfl, a, s, n, ds, S, rfl, hH.same s1, tree, by omega, st.same s1, ok, fun H2 bo s2 hbo => ⟨_, rfl, ?_⟩⟩
  have s12 := s1.trans s2
  have stl := sts.1
  cases bo with
  | false =>
    refine iteT ?_
    have nap : ¬ Apt ds S := fun z => by cases hbo.mpr z
    obtain ⟨p, q', z, hp, hq', npq⟩ : ∃ p q' z, Rg ds S p z ∧ Rg ds S q' z ∧ p ≠ q' := by
      refine Classical.byContradiction fun c => nap fun p q x h1 h2 => Classical.byContradiction fun ne => c ⟨p, q, x, h1, h2, ne⟩
    have two : 2 ≤ S.1.length := by
      have l1 : p < S.1.length := by obtain ⟨u, w, h, _⟩ := hp; exact get_lt h
      have l2 : q' < S.1.length := by obtain ⟨u, w, h, _⟩ := hq'; exact get_lt h
      omega
    refine ⟨_, rfl, (n : Int), congrArg (fun z : Int => [V.int z]) (show (((rs.map V.ref).length : Nat) : Int) + 1 = (n : Int) by rw [List.length_map, hlen]; omega), by omega, by omega, fun pd npd => ?_⟩
    refine lc_range (lo := 0) (n := n) (fun k H3 => Same H2 H3 ∧ H3 pd = some (.lst (nv (List.range k)))) ⟨Same.upd npd, upd_same⟩ ?_ ?_
    · rintro k H3 hk ⟨s3, hp3⟩
      rw [Int.zero_add]
      have s13 := s2.trans s3
      have hq3 := s13 _ _ hq
      obtain ⟨A0, rA0, eA0⟩ := gather tree ok npq hp hq' hk
      have hA0 : A0 ∈ l := (mem A0).mpr rA0
      refine ⟨rfl, _, rfl, q, rfl, ⟨_, SqL.of hq3⟩, fun pi npi => ?_⟩
      refine lc_it (walk_list (K := K) (a := q) (xs := ts.map V.ref)) (fun j H4 => ∃ us : List Addr, Same H3 H4 ∧ H4 pi = some (.lst (us.map V.ref)) ∧ StsAt K H4 us ((l.take j).filter fun A => decide (A.1 = List.replicate S.1.length k))) ⟨[], Same.upd npi, upd_same, rfl, fun _ _ _ h => by simp at h⟩ (fun j H4 _ ⟨_, s4, _⟩ => SqL.of (s4 _ _ hq3)) ?_ ?_
      · rintro j x H5 H4 hj ⟨us, s4, hp4, st4⟩ ⟨rfl, ex⟩
        rw [List.getElem?_map] at ex
        obtain ⟨t, ht, rfl⟩ := Option.map_eq_some_iff.mp ex
        obtain ⟨A, hA⟩ : ∃ A, l[j]? = some A := get_of stl.symm (get_lt ht)
        obtain ⟨ra, ba, g1, g2, g3⟩ := (sts.2 j t A ht hA).same (s13.trans s4)
        refine ⟨rfl, ?_⟩
        refine ⟨_, rfl, t, _, _, _, rfl, rfl, g1, atI_nat (j := 0) rfl, _, rfl, by show 1 ≤ sizeLine; decide, fun p6 np6 => ?_⟩
        have s6 := Same.upd (o := .tup [.int (k : Int)]) np6
        refine ⟨_, rfl, p6, (S.1.length : Int), [.int (k : Int)], rfl, congrArg (fun z : Nat => V.int (z : Int)) (nv_len _), SqT.of upd_same, by simp, by omega, by omega, by simp, fun p7 np7 => ?_⟩
        have s7 := Same.upd (o := .tup (List.replicate (S.1.length : Int).toNat [V.int (k : Int)]).flatten) np7
        have h7 := upd_same (H := upd H4 p6 (.tup [.int (k : Int)])) (a := p7) (o := .tup (List.replicate (S.1.length : Int).toNat [V.int (k : Int)]).flatten)
        have s47 := s6.trans s7
        rw [Int.toNat_natCast, rep_flat] at h7 s47 ⊢
        generalize upd (upd H4 p6 (.tup [.int (k : Int)])) p7 (.tup (nv (List.replicate S.1.length k))) = H7 at h7 s47 ⊢
        refine ⟨dT A.1, dT (List.replicate S.1.length k), .tup (s47.tup g2) (dp_is _), .tup (SqT.of h7) (dp_is _), dT_shaped _, dT_shaped _, _, rfl, ?_⟩
        rw [dT_eqv]
        have etake : (l.take (j + 1)).filter (fun A => decide (A.1 = List.replicate S.1.length k)) = (l.take j).filter (fun A => decide (A.1 = List.replicate S.1.length k)) ++ if A.1 = List.replicate S.1.length k then [A] else [] := by
          rw [List.take_add_one, hA, List.filter_append]
          by_cases c : A.1 = List.replicate S.1.length k <;> simp [c]
        have hp7 := s47 _ _ hp4
        by_cases c : A.1 = List.replicate S.1.length k
        · rw [decide_eq_true c]
          rw [if_pos c] at etake
          have fl : ((l.take j).filter fun A => decide (A.1 = List.replicate S.1.length k)).length ≤ 1728 := Nat.le_trans (List.length_filter_le _ _) (by rw [List.length_take]; omega)
          refine iteT ⟨_, rfl, us.map V.ref, hp7, by rw [List.length_map, st4.1]; exact Nat.lt_of_le_of_lt fl (by decide), us ++ [t], (s4.trans s47).at npi, by rw [upd_same, List.map_append]; rfl, ?_⟩
          rw [etake]
          exact ((st4.same s47).app (X := A) ⟨ra, ba, s47.tup g1, s47.tup g2, s47.tup g3⟩).put hp7
        · rw [decide_eq_false c]
          rw [if_neg c, List.append_nil] at etake
          exact iteF ⟨us, s4.trans s47, hp7, by rw [etake]; exact st4.same s47⟩
      · rintro H4 ⟨us, s4, hp4, st4⟩
        rw [show l.take (ts.map V.ref).length = l by rw [List.length_map, stl, List.take_length]] at st4
        refine ⟨Nat.zero_le _, fun pe npe => ?_⟩
        have sE := Same.upd (o := .lst []) npe
        refine ⟨.list ((l.filter fun A => decide (A.1 = List.replicate S.1.length k)).map dS), .list [], dp_addrs (sE _ _ hp4) (st4.same sE), .lst (SqL.of upd_same) .nil, dSs_shaped _, dSs_shaped [], _, rfl, ?_⟩
        rw [dSs_nil, decide_eq_false (fun z => by
          have : A0 ∈ l.filter fun A => decide (A.1 = List.replicate S.1.length k) := List.mem_filter.mpr ⟨hA0, decide_eq_true eA0⟩
          rw [z] at this
          cases this)]
        have s3E := s4.trans sE
        have hp3E := s3E _ _ hp3
        refine iteT ⟨_, rfl, nv (List.range k), hp3E, by rw [nv_len, List.length_range]; exact small1000 (by omega), (s3.trans s3E).at npd, ?_⟩
        rw [upd_same, List.range_succ, nv_snoc]
    · rintro H3 ⟨s3, hp3⟩
      have s13 := s2.trans s3
      have esz : (((rs.map V.ref).length : Nat) : Int) + 1 = (n : Int) := by rw [List.length_map, hlen]; omega
      refine ⟨_, rfl, _, rfl, (n : Int), congrArg V.int esz, ⟨by omega, by omega⟩, fun pl npl => ?_⟩
      rw [rgV_nat]
      have sl := Same.upd (o := .lst (nv (List.range n))) npl
      refine ⟨.list (dIs (List.range n)), .list (dIs (List.range n)), .lst (SqL.of (sl _ _ hp3)) (dp_is _), .lst (SqL.of upd_same) (dp_is _), dLs_shaped _, dLs_shaped _, ?_⟩
      rw [d_refl (dLs_shaped _)]
      have s1l := s1.trans (s13.trans sl)
      refine ⟨true, rfl, iteT ⟨_, rfl, _, rfl, a, s, n, ds, S, rfl, hH.same s1l, tree, by omega, st.same s1l, ok, (fun _ H5 s5 => ⟨rfl, ?_⟩), fun z => absurd z nap⟩⟩
      rw [decide_eq_true rfl]
      exact qn H5 (s1l.trans s5)
  | true =>
    refine iteF ?_
    have apt := hbo.mp rfl
    refine ⟨_, rfl, _, rfl, a, s, n, ds, S, rfl, hH.same s12, tree, by omega, st.same s12, ok, fun H3 qr Ls s3 nqr la rl => ?_⟩
    have s13 := s12.trans s3
    have ln := (regs_small tree ok rl (Nat.le_refl _)).2
    have lsl := rl.len
    obtain ⟨rws, f1, f2, f3⟩ := id la
    have z0 : 0 ≤ sizeLine := Nat.zero_le _
    refine ⟨z0, fun p1 np1 => ⟨by show 1 ≤ sizeLine; decide, fun p2 np2 => ?_⟩⟩
    have sa := Same.upd (o := .tup []) np1
    have sb := Same.upd (o := .lst [.ref p1]) np2
    have t0 : TupsAt K (upd (upd H3 p1 (.tup [])) p2 (.lst [.ref p1])) [p1] [[]] := .one (sb.tup (SqT.of upd_same))
    have hp2 := upd_same (H := upd H3 p1 (.tup [])) (a := p2) (o := .lst [.ref p1])
    have s3b := sa.trans sb
    generalize upd (upd H3 p1 (.tup [])) p2 (.lst [.ref p1]) = H4 at t0 hp2 s3b
    refine ⟨_, rfl, qr, rfl, ⟨_, SqL.of (s3b _ _ f1)⟩, ?_⟩
    have rgs4 : ∀ (k : Nat) (rr : Addr) (L : List Nat), rws[k]? = some rr → Ls[k]? = some L → H4 rr = some (.lst (nv L)) := fun k rr L h1 h2 => s3b _ _ (f3 k rr L h1 h2).2.2
    have hq4 := s3b _ _ (s3 _ _ (s2 _ _ hq))
    have hr4 := s3b _ _ f1
    have s14 := s13.trans s3b
    refine for_it (walk_list (K := K) (a := qr) (xs := rws.map V.ref)) (fun k σ H5 => ∃ (q5 : Addr) (t5 : List Addr) (y5 y6 y7 y10 y11 y12 y13 : Option V) (v3 v4 : V), σ = [some (.ref a), some (.ref s), some (.ref q), some v3, some v4, y5, y6, y7, some (.ref qr), some (.ref q5), y10, y11, y12, y13] ∧ Same H4 H5 ∧ H5 q5 = some (.lst (t5.map V.ref)) ∧ TupsAt K H5 t5 (prodL (Ls.take k)) ∧ (prodL (Ls.take k)).length ≤ 4 ^ k)
      ⟨p2, [p1], _, _, _, _, _, _, _, _, _, rfl, Same.refl _, hp2, t0, Nat.le_refl _⟩ (fun k H5 _ _ ⟨_, _, _, _, _, _, _, _, _, _, _, _, s5, _⟩ => SqL.of (s5 _ _ hr4)) ?_ ?_
    · rintro k x σ H6 H5 hk ⟨q5, t5, y5, y6, y7, y10, y11, y12, y13, v3, v4, rfl, s5, hq5, tp5, l5⟩ ⟨rfl, ex⟩
      rw [List.getElem?_map] at ex
      obtain ⟨rr, hrr, rfl⟩ := Option.map_eq_some_iff.mp ex
      obtain ⟨L, hL⟩ : ∃ L, Ls[k]? = some L := get_of f2.symm (get_lt hrr)
      have kl := get_lt hL
      have Ll := ln L (List.mem_of_getElem? hL)
      have hr5 := s5 _ _ (rgs4 k rr L hrr hL)
      have p16 : 4 ^ k ≤ 16 := Nat.le_trans (Nat.pow_le_pow_right (by decide) (show k ≤ 2 by omega)) (by decide)
      have etake : Ls.take (k + 1) = Ls.take k ++ [L] := by rw [List.take_add_one, hL]; rfl
      refine ⟨z0, fun p6 np6 => ?_⟩
      have s6 := Same.upd (o := .lst []) np6
      have hp6 := upd_same (H := H5) (a := p6) (o := .lst [])
      have hq6 := s6 _ _ hq5
      have tp6 := tp5.same s6
      have hr6 := s6 _ _ hr5
      have s46 := s5.trans s6
      generalize upd H5 p6 (.lst []) = H6 at s6 hp6 hq6 tp6 hr6 s46
      refine ⟨_, rfl, q5, rfl, ⟨_, SqL.of hq6⟩, ?_⟩
      refine for_it (walk_list (K := K) (a := q5) (xs := t5.map V.ref)) (fun j σ H7 => ∃ (q7 : Addr) (t7 : List Addr) (y6 y12 : Option V), σ = [some (.ref a), some (.ref s), some (.ref q), some v3, some v4, y5, y6, y7, some (.ref qr), some (.ref q5), some (.ref rr), some (.ref q7), y12, y13] ∧ Same H6 H7 ∧ H7 q7 = some (.lst (t7.map V.ref)) ∧ TupsAt K H7 t7 (((prodL (Ls.take k)).take j).flatMap fun pre => L.map fun x => pre ++ [x]))
        ⟨p6, [], _, _, rfl, Same.refl _, hp6, rfl, fun _ _ _ h => by simp at h⟩ (fun j H7 _ _ ⟨_, _, _, _, _, s7, _⟩ => SqL.of (s7 _ _ hq6)) ?_ ?_
      · rintro j x σ H8 H7 hj ⟨q7, t7, y6, y12, rfl, s7, hq7, tp7⟩ ⟨rfl, ex⟩
        rw [List.getElem?_map] at ex
        obtain ⟨t, ht, rfl⟩ := Option.map_eq_some_iff.mp ex
        obtain ⟨pre, hpre⟩ : ∃ pre, (prodL (Ls.take k))[j]? = some pre := get_of tp5.1.symm (get_lt ht)
        have tpre := s7.tup (tp6.2 j t pre ht hpre)
        have lpre : pre.length ≤ 3 := by
          have := ((prodL_mem _ _).mp (List.mem_of_getElem? hpre)).1
          rw [this, List.length_take]
          omega
        have jl := get_lt hpre
        have hr7 := s7 _ _ hr6
        refine ⟨_, rfl, _, rfl, rr, rfl, ⟨_, SqL.of hr7⟩, fun pd npd => ?_⟩
        have spd := Same.upd (o := .lst []) npd
        refine lc_it (walk_list (K := K) (a := rr) (xs := nv L)) (fun i H8 => ∃ us : List Addr, Same H7 H8 ∧ H8 pd = some (.lst (us.map V.ref)) ∧ TupsAt K H8 us ((L.take i).map fun x => pre ++ [x])) ⟨[], spd, upd_same, rfl, fun _ _ _ h => by simp at h⟩ (fun i H8 _ ⟨_, s8, _⟩ => SqL.of (s8 _ _ hr7)) ?_ ?_
        · rintro i x H9 H8 hi ⟨us, s8, hp8, tp8⟩ ⟨rfl, ex⟩
          obtain ⟨v, hv, rfl⟩ := nv_some ex
          have il := get_lt hv
          refine ⟨rfl, lcYes ?_⟩
          refine ⟨_, rfl, _, rfl, by show 1 ≤ sizeLine; decide, fun p9 np9 => ?_⟩
          have s9 := Same.upd (o := .tup [.int (v : Int)]) np9
          refine catA_of (xs := nv pre) (ys := nv [v]) (s9.tup (s8.tup tpre)) (SqT.of upd_same) (by rw [nv_len, nv_len, List.length_singleton]; exact Nat.le_trans (Nat.add_le_add_right lpre 1) (by decide)) fun H10 p10 s10 h10 => ?_
          rw [nv_app] at h10
          have s810 := s9.trans s10
          have hp10 := s810 _ _ hp8
          refine ⟨us.map V.ref, hp10, by rw [List.length_map, tp8.1, List.length_map, List.length_take]; exact Nat.lt_of_le_of_lt (show min i L.length ≤ 4 by omega) (by decide), us ++ [p10], (s8.trans s810).at npd, by rw [upd_same, List.map_append]; rfl, ?_⟩
          rw [List.take_add_one, hv, List.map_append]
          exact ((tp8.same s810).join (.one h10)).put hp10
        · rintro H8 ⟨us, s8, hp8, tp8⟩
          rw [show L.take (nv L).length = L by rw [nv_len, List.take_length]] at tp8
          have ll7 : (((prodL (Ls.take k)).take j).flatMap fun pre => L.map fun x => pre ++ [x]).length ≤ 64 := by
            rw [len_flatMap _ L.length _ (fun x _ => by rw [List.length_map]), List.length_take]
            exact Nat.le_trans (Nat.mul_le_mul (show min j (prodL (Ls.take k)).length ≤ 16 by omega) (show L.length ≤ 4 by omega)) (by decide)
          have ul := tp8.1
          rw [List.length_map] at ul
          refine ⟨q7, pd, t7.map V.ref, us.map V.ref, rfl, rfl, s8 _ _ hq7, hp8, by rw [List.length_map, List.length_map, tp7.1, ul]; exact Nat.le_trans (Nat.add_le_add ll7 (show L.length ≤ 4 by omega)) (by decide), fun p12 np12 => ?_⟩
          have s12' := Same.upd (o := .lst (t7.map V.ref ++ us.map V.ref)) np12
          have s812 := s8.trans s12'
          refine ⟨p12, t7 ++ us, _, _, rfl, s7.trans s812, by rw [upd_same, List.map_append], ?_⟩
          rw [List.take_add_one, hpre, List.flatMap_append]
          refine (tp7.same s812).join ?_
          simpa using tp8.same s12'
      · rintro σ H7 ⟨q7, t7, y6, y12, rfl, s7, hq7, tp7⟩
        rw [show (prodL (Ls.take k)).take (t5.map V.ref).length = prodL (Ls.take k) by rw [List.length_map, tp5.1, List.take_length]] at tp7
        refine ⟨_, rfl, q7, t7, _, _, _, _, _, _, _, _, _, rfl, s46.trans s7, hq7, ?_, ?_⟩
        · rw [etake, prodL_snoc]
          exact tp7
        · rw [etake, prodL_snoc, len_flatMap _ L.length _ (fun x _ => by rw [List.length_map]), Nat.pow_succ]
          exact Nat.mul_le_mul l5 (by omega)
    · rintro σ H5 ⟨q5, t5, y5, y6, y7, y10, y11, y12, y13, v3, v4, rfl, s5, hq5, tp5, l5⟩
      rw [show Ls.take (rws.map V.ref).length = Ls by rw [List.length_map, f2, List.take_length]] at tp5 l5
      have s15 := s14.trans s5
      have hqx := s5 _ _ hq4
      have pm := rooms_perm tree ok apt rl nd mem
      have nonE : ∀ x ∈ prodL Ls, x ≠ [] := fun x hx z => by
        have := ((prodL_mem Ls x).mp hx).1
        rw [z, lsl] at this
        simp at this
        omega
      refine ⟨_, rfl, q, rfl, ⟨_, SqL.of hqx⟩, fun pd npd => ?_⟩
      refine lc_it (walk_list (K := K) (a := q) (xs := ts.map V.ref)) (fun j H6 => ∃ us : List Addr, Same H5 H6 ∧ H6 pd = some (.lst (us.map V.ref)) ∧ TupsAt K H6 us ((l.take j).map Prod.fst)) ⟨[], Same.upd npd, upd_same, rfl, fun _ _ _ h => by simp at h⟩ (fun j H6 _ ⟨_, s6, _⟩ => SqL.of (s6 _ _ hqx)) ?_ ?_
      · rintro j x H7 H6 hj ⟨us, s6, hp6, tp6⟩ ⟨rfl, ex⟩
        rw [List.getElem?_map] at ex
        obtain ⟨t, ht, rfl⟩ := Option.map_eq_some_iff.mp ex
        obtain ⟨A, hA⟩ : ∃ A, l[j]? = some A := get_of stl.symm (get_lt ht)
        have jl := get_lt hA
        obtain ⟨ra, ba, g1, g2, g3⟩ := (sts.2 j t A ht hA).same ((s2.trans (s3.trans (s3b.trans s5))).trans s6)
        refine ⟨rfl, lcYes ⟨_, rfl, t, _, _, _, rfl, rfl, g1, atI_nat (j := 0) rfl, us.map V.ref, hp6, by rw [List.length_map, tp6.1, List.length_map, List.length_take]; exact Nat.lt_of_le_of_lt (show min j l.length ≤ 1728 by omega) (by decide), us ++ [ra], s6.at npd, by rw [upd_same, List.map_append]; rfl, ?_⟩⟩
        rw [List.take_add_one, hA, List.map_append]
        exact (tp6.join (.one g2)).put hp6
      rintro H6 ⟨us, s6, hp6, tp6⟩
      rw [show l.take (ts.map V.ref).length = l by rw [List.length_map, stl, List.take_length]] at tp6
      unfold tNil
      refine sort_tups hp6 tp6 (fun x hx => nonE x (pm.mem_iff.mp hx)) fun H7 p7 t7 X7 s7 np7 hp7 tp7 pm7 so7 => ?_
      have s57 := s6.trans s7
      refine ⟨_, rfl, _, rfl, sort_tups (s57 _ _ hq5) (tp5.same s57) nonE fun H8 p8 t8 X8 s8 np8 hp8 tp8 pm8 so8 => ?_⟩
      have eX : X7 = X8 := sorted_unique dT (fun _ _ h => dT_toks h) ((pm7.trans pm).trans pm8.symm) so7 so8
      subst eX
      have s18 := s15.trans (s57.trans s8)
      refine ⟨.list (X7.map dT), .list (X7.map dT), .lst (SqL.of (s8 _ _ hp7)) (dp_tups t7 X7 (tp7.same s8)), .lst (SqL.of hp8) (dp_tups t8 X7 tp8), dTs_shaped _, dTs_shaped _, ?_⟩
      rw [d_refl (dTs_shaped X7)]
      refine ⟨true, rfl, iteT ⟨_, rfl, _, rfl, a, s, n, ds, S, rfl, hH.same s18, tree, by omega, st.same s18, ok, (fun z => absurd apt z), fun _ H9 Ks s9 rk => ?_⟩⟩
      have hq9 : H9 q = some (.lst (ts.map V.ref)) := s9 _ _ (s8 _ _ (s57 _ _ hqx))
      refine ⟨_, rfl, q, _, rfl, .inl (SqL.of hq9), rfl, ?_⟩
      show Q (.bl (decide (V.int ((prodN Ks : Nat) : Int) = V.int (((ts.map V.ref).length : Nat) : Int)))) H9
      have el : prodN Ks = (ts.map V.ref).length := by
        have := pm.length_eq
        rw [List.length_map, prodL_len] at this
        rw [List.length_map, stl, this]
        exact rk.prod rl
      rw [decide_eq_true (by rw [el])]
      exact qn H9 (s18.trans s9)
end
end K5

namespace K5
open PySem PySem.Spec PyProof.Rows L2
def spLaw (K : PySem.W.Frag) : Sp := fun vs H Q _ => ∃ (a : Addr) (ns : List Int), vs = [.ref a] ∧ SqL K H a (ns.map V.int) ∧ ns.length ≤ 63 ∧ ∀ H', Q (.bl true) H'
section
variable {P : Program} {w : World} {K : PySem.W.Frag}
      {mg : Str → Option Value} {base : Heap}
theorem ok_law {f0 : Addr} {fd0 : FuncData} (T : Bl mg) (F : Fun K "law" "law" s_law f0 fd0) (C_l_generator : Cal P w K mg base "_law_generator" ["_law_script", "_law_index"] 2 (spGen K)) (C_l_random : Cal P w K mg base "_law_random" ["_law_generator_here", "_law_bound"] 2 spRand)
    (C_l_random_house : Cal P w K mg base "_law_random_house" ["_law_generator_here", "_law_most"] 4 (spHouse K)) (C_l_random_state : Cal P w K mg base "_law_random_state" ["_law_generator_here", "_law_doors", "_law_people"] 3 (spRState K))
    (C_l_apart : Cal P w K mg base "_law_apart" ["_law_doors", "_law_position"] 5 (spApt K)) (C_l_walk_right : Cal P w K mg base "_law_walk_right" ["_law_generator_here", "_law_doors", "_law_position"] 10 (spWalkR K)) (C_l_small_right : Cal P w K mg base "_law_small_right" ["_law_doors", "_law_position"] 10 (spSmall K)) :
    FnOk P w K mg base CX0 11 f0 fd0 ["_law_script"] (spLaw K) := by
  refine F.ok sc_law (fun vs H Q E h => ?_) (fun cdv A outer s0 H vs Q E hr h => ?_)
  · obtain ⟨a, ns, rfl, _⟩ := h
    rfl
  obtain ⟨a, ns, rfl, hs, hns, qn⟩ := h
  obtain ⟨f_l_generator, fd_l_generator, g_l_generator, k_l_generator, b_l_generator, G_l_generator⟩ := C_l_generator
  obtain ⟨f_l_random_house, fd_l_random_house, g_l_random_house, k_l_random_house, b_l_random_house, G_l_random_house⟩ := C_l_random_house
  obtain ⟨f_l_random_state, fd_l_random_state, g_l_random_state, k_l_random_state, b_l_random_state, G_l_random_state⟩ := C_l_random_state
  obtain ⟨f_l_random, fd_l_random, g_l_random, k_l_random, b_l_random, G_l_random⟩ := C_l_random
  obtain ⟨f_l_walk_right, fd_l_walk_right, g_l_walk_right, k_l_walk_right, b_l_walk_right, G_l_walk_right⟩ := C_l_walk_right
  obtain ⟨f_l_apart, fd_l_apart, g_l_apart, k_l_apart, b_l_apart, G_l_apart⟩ := C_l_apart
  obtain ⟨f_l_small_right, fd_l_small_right, g_l_small_right, k_l_small_right, b_l_small_right, G_l_small_right⟩ := C_l_small_right
  refine ⟨_, (pss_cons (ps_for PassesOwn.never rfl (pi_range1 rfl T.range (pa_cons pe_int pa_nil)) (pg_name (i := 1) sc_law.nd rfl (.inl rfl))
    (pss_cons (ps_set (i := 2) sc_law.nd rfl (.inl rfl) (pe_call G_l_generator (hr.mono (by decide)) (by rfl) g_l_generator k_l_generator b_l_generator .nil pass0 (pa_cons (pv 0) (pa_cons (pv 1) pa_nil))))
    (pss_one (ps_for PassesOwn.never rfl (pi_range1 rfl T.range (pa_cons pe_int pa_nil)) (pg_name (i := 3) sc_law.nd rfl (.inl rfl))
    (pss_cons (ps_set (i := 4) sc_law.nd rfl (.inl rfl) (pe_call G_l_random_house (hr.mono (by decide)) (by rfl) g_l_random_house k_l_random_house b_l_random_house .nil pass0 (pa_cons (pv 2) (pa_cons pe_int pa_nil))))
    (pss_cons (ps_set (i := 5) sc_law.nd rfl (.inl rfl) (pe_call G_l_random_state (hr.mono (by decide)) (by rfl) g_l_random_state k_l_random_state b_l_random_state .nil pass0 (pa_cons (pv 2) (pa_cons (pv 4) (pa_cons (pe_op op_add pe_int (pe_call G_l_random (hr.mono (by decide)) (by rfl) g_l_random k_l_random b_l_random .nil pass0 (pa_cons (pv 2) (pa_cons pe_int pa_nil)))) pa_nil)))))
    (Evl.pss_cut (ps_if (PW.pt (pw_and (pt_val (pe_call G_l_apart (hr.mono (by decide)) (by rfl) g_l_apart k_l_apart b_l_apart .nil pass0 (pa_cons (pv 4) (pa_cons (pv 5) pa_nil)))) (pw_and1 (pt_not (pt_val (pe_call G_l_walk_right (hr.mono (by decide)) (by rfl) g_l_walk_right k_l_walk_right b_l_walk_right .nil pass0 (pa_cons (pv 2) (pa_cons (pv 4) (pa_cons (pv 5) pa_nil))))))))) (pss_one (ps_ret pe_bl)) pss_nil)
    (pss_cons (ps_set (i := 4) sc_law.nd rfl (.inl rfl) (pe_call G_l_random_house (hr.mono (by decide)) (by rfl) g_l_random_house k_l_random_house b_l_random_house .nil pass0 (pa_cons (pv 2) (pa_cons pe_int pa_nil))))
    (pss_cons (ps_set (i := 6) sc_law.nd rfl (.inl rfl) (pe_op op_add pe_int (pe_call G_l_random (hr.mono (by decide)) (by rfl) g_l_random k_l_random b_l_random .nil pass0 (pa_cons (pv 2) (pa_cons pe_int pa_nil)))))
    (pss_one (ps_if (pt_not (pt_val (pe_call G_l_small_right (hr.mono (by decide)) (by rfl) g_l_small_right k_l_small_right b_l_small_right .nil pass0 (pa_cons (pv 4) (pa_cons (pe_call G_l_random_state (hr.mono (by decide)) (by rfl) g_l_random_state k_l_random_state b_l_random_state .nil pass0 (pa_cons (pv 2) (pa_cons (pv 4) (pa_cons (pv 6) pa_nil)))) pa_nil))))) (pss_one (ps_ret pe_bl)) pss_nil)))))))))))
    (pss_one (ps_ret pe_bl))), ?_⟩
  refine ⟨3, rfl, by decide, by decide, ?_⟩
  refine for_range (lo := 0) (n := 3) (fun i σ H1 => ∃ y1 y2 y3 y4 y5 y6, σ = [some (.ref a), y1, y2, y3, y4, y5, y6] ∧ Same H H1) ⟨_, _, _, _, _, _, rfl, Same.refl _⟩ ?_ ?_
  · rintro i σ H1 hi ⟨y1, y2, y3, y4, y5, y6, rfl, s1⟩
    rw [Int.zero_add]
    refine ⟨_, rfl, _, rfl, a, ns, i, rfl, s1.seq hs, by omega, fun H2 g s2 ng gen => ?_⟩
    refine ⟨6, rfl, by decide, by decide, ?_⟩
    refine for_range (lo := 0) (n := 6) (fun j σ H3 => ∃ y3 y4 y5 y6, σ = [some (.ref a), some (.int (i : Int)), some (.ref g), y3, y4, y5, y6] ∧ But g H2 H3 ∧ GenAt H3 g (1000000 + 100000 * j)) ⟨_, _, _, _, rfl, But.refl _ _, gen⟩ ?_ ?_
    · rintro j σ H3 hj ⟨y3, y4, y5, y6, rfl, bt3, g3⟩
      refine ⟨_, rfl, g, 1000000 + 100000 * j, 7, rfl, g3, by decide, by decide, by omega, ?_⟩
      refine fun H4 a4 ds n bt4 g4 nag hH tree hn => ?_
      obtain ⟨gx, hgx⟩ := g4.lst
      refine ⟨_, rfl, _, rfl, _, rfl, g, _, 4, rfl, g4, by decide, by decide, by omega, fun H5 u bt5 g5 hu => ⟨_, _, rfl, rfl, ?_⟩⟩
      have hH5 := hH.but hgx bt5
      refine ⟨g, a4, _, 1 + u, n, ds, congrArg (fun z : Int => [V.ref g, V.ref a4, V.int z]) (show (1 : Int) + (u : Int) = ((1 + u : Nat) : Int) by omega), g5, hH5, tree, by omega, by omega, by omega, by omega, fun H6 s6 S bt6 g6 st ok lenS => ?_⟩
      obtain ⟨gy, hgy⟩ := g5.lst
      have hH6 := hH5.but hgy bt6
      have bt26 := ((bt3.trans bt4).trans bt5).trans bt6
      refine ⟨fun σ H7 => ∃ (y5 y6 : Option V), σ = [some (.ref a), some (.int (i : Int)), some (.ref g), some (.int (0 + (j : Int))), some (.ref a4), y5, y6] ∧ But g H2 H7 ∧ GenAt H7 g (1000000 + 100000 * j + 1200), ?_, ?_⟩
      · refine ⟨_, rfl, _, rfl, a4, s6, n, ds, S, rfl, hH6, tree, by omega, st, ok, fun H7 bo s7 hbo => ⟨_, rfl, ?_⟩⟩
        cases bo with
        | false => exact iteF (iteF ⟨_, _, rfl, bt26.trans s7.but, (g6.same s7).mono (by omega)⟩)
        | true =>
          refine iteT ⟨_, rfl, _, rfl, _, rfl, g, a4, s6, _, n, ds, S, rfl, g6.same s7, hH6.same s7, tree, by omega, st.same s7, ok, hbo.mp rfl, by omega, fun H8 bt8 g8 => ⟨_, rfl, ?_⟩⟩
          exact iteF ⟨_, _, rfl, (bt26.trans s7.but).trans bt8, g8.mono (by omega)⟩
      · rintro σ H7 ⟨y5, y6, rfl, bt7, g7⟩
        refine ⟨_, rfl, g, _, 4, rfl, g7, by decide, by decide, by omega, fun H8 a8 ds8 n8 bt8 g8 nag8 hH8 tree8 hn8 => ?_⟩
        obtain ⟨gz, hgz⟩ := g8.lst
        refine ⟨_, rfl, g, _, 3, rfl, g8, by decide, by decide, by omega, fun H9 v bt9 g9 hv => ⟨_, _, rfl, rfl, ?_⟩⟩
        have hH9 := hH8.but hgz bt9
        refine ⟨_, rfl, _, rfl, _, rfl, _, rfl, g, a8, _, 1 + v, n8, ds8, congrArg (fun z : Int => [V.ref g, V.ref a8, V.int z]) (show (1 : Int) + (v : Int) = ((1 + v : Nat) : Int) by omega), g9, hH9, tree8, by omega, by omega, by omega, by omega, fun H10 s10 S10 bt10 g10 st10 ok10 len10 => ?_⟩
        obtain ⟨gw, hgw⟩ := g9.lst
        refine ⟨a8, s10, n8, ds8, S10, rfl, hH9.but hgw bt10, tree8, hn8, st10, ok10, by omega, fun H11 s11 => ⟨_, rfl, iteF ?_⟩⟩
        exact ⟨_, _, _, _, rfl, (((bt7.trans bt8).trans bt9).trans bt10).trans s11.but, (g10.same s11).mono (by omega)⟩
    · rintro σ H3 ⟨y3, y4, y5, y6, rfl, bt3, g3⟩
      exact ⟨_, _, _, _, _, _, rfl, But.same (s1.trans s2) (s1.free ng) bt3⟩
  · rintro σ H1 ⟨y1, y2, y3, y4, y5, y6, rfl, s1⟩
    exact qn H1
end
end K5

namespace K5
open PySem PySem.Spec PyProof.Rows L2
theorem def_mk {K : PySem.W.Frag} {h : Heap} {mg : Str → Option Value} {x : Str} {st : Stmt} (X : K.In h) (G : h.Ns mainGlobals mg) {f : Addr} {oc : Value} {od an : Option Addr} {osl : Array (Option Value)} {kV doc pm cdv ct : Value} (a : PySem.W.nsIn K mainGlobals x = some (some (.ref f)))
    (l : K.lookup f = some ⟨oc, od, .func (PySem.W.fnOf x x (defArgs st) (defBody st) (defScope st) .none kV doc pm an cdv ct), osl⟩) (c : PySem.W.codeIn K cdv x = true) (k : PySem.W.keepIn K (.ref f) = true) : Def K mg x st :=
  ⟨f, _, fun_mk l c k, PySem.W.mg_of X G a⟩
theorem all_mk {l : PySem.W.OpenLaw} {w : World} {K : PySem.W.Frag} {h : Heap} {mg : Str → Option Value} {fa : Addr} (X : K.In h) (G : h.Ns mainGlobals mg) (hfa : mg "law" = some (.ref fa))
    {f0 : Addr} {od0 an0 : Option Addr} {sl0 : Array (Option Value)} {oc0 kV0 dc0 pm0 cd0 ct0 : Value}
    (a0 : PySem.W.nsIn K mainGlobals "is_whole" = some (some (.ref f0))) (l0 : K.lookup f0 = some ⟨oc0, od0, .func (PySem.W.fnOf "is_whole" "is_whole" (defArgs s_is_whole) (defBody s_is_whole) (defScope s_is_whole) .none kV0 dc0 pm0 an0 cd0 ct0), sl0⟩) (c0 : PySem.W.codeIn K cd0 "is_whole" = true) (k0 : PySem.W.keepIn K (.ref f0) = true)
    {f1 : Addr} {od1 an1 : Option Addr} {sl1 : Array (Option Value)} {oc1 kV1 dc1 pm1 cd1 ct1 : Value}
    (a1 : PySem.W.nsIn K mainGlobals "is_index" = some (some (.ref f1))) (l1 : K.lookup f1 = some ⟨oc1, od1, .func (PySem.W.fnOf "is_index" "is_index" (defArgs s_is_index) (defBody s_is_index) (defScope s_is_index) .none kV1 dc1 pm1 an1 cd1 ct1), sl1⟩) (c1 : PySem.W.codeIn K cd1 "is_index" = true) (k1 : PySem.W.keepIn K (.ref f1) = true)
    {f2 : Addr} {od2 an2 : Option Addr} {sl2 : Array (Option Value)} {oc2 kV2 dc2 pm2 cd2 ct2 : Value}
    (a2 : PySem.W.nsIn K mainGlobals "is_door" = some (some (.ref f2))) (l2 : K.lookup f2 = some ⟨oc2, od2, .func (PySem.W.fnOf "is_door" "is_door" (defArgs s_is_door) (defBody s_is_door) (defScope s_is_door) .none kV2 dc2 pm2 an2 cd2 ct2), sl2⟩) (c2 : PySem.W.codeIn K cd2 "is_door" = true) (k2 : PySem.W.keepIn K (.ref f2) = true)
    {f3 : Addr} {od3 an3 : Option Addr} {sl3 : Array (Option Value)} {oc3 kV3 dc3 pm3 cd3 ct3 : Value}
    (a3 : PySem.W.nsIn K mainGlobals "check_house" = some (some (.ref f3))) (l3 : K.lookup f3 = some ⟨oc3, od3, .func (PySem.W.fnOf "check_house" "check_house" (defArgs s_check_house) (defBody s_check_house) (defScope s_check_house) .none kV3 dc3 pm3 an3 cd3 ct3), sl3⟩) (c3 : PySem.W.codeIn K cd3 "check_house" = true) (k3 : PySem.W.keepIn K (.ref f3) = true)
    {f4 : Addr} {od4 an4 : Option Addr} {sl4 : Array (Option Value)} {oc4 kV4 dc4 pm4 cd4 ct4 : Value}
    (a4 : PySem.W.nsIn K mainGlobals "first_ring" = some (some (.ref f4))) (l4 : K.lookup f4 = some ⟨oc4, od4, .func (PySem.W.fnOf "first_ring" "first_ring" (defArgs s_first_ring) (defBody s_first_ring) (defScope s_first_ring) .none kV4 dc4 pm4 an4 cd4 ct4), sl4⟩) (c4 : PySem.W.codeIn K cd4 "first_ring" = true) (k4 : PySem.W.keepIn K (.ref f4) = true)
    {f5 : Addr} {od5 an5 : Option Addr} {sl5 : Array (Option Value)} {oc5 kV5 dc5 pm5 cd5 ct5 : Value}
    (a5 : PySem.W.nsIn K mainGlobals "find_root" = some (some (.ref f5))) (l5 : K.lookup f5 = some ⟨oc5, od5, .func (PySem.W.fnOf "find_root" "find_root" (defArgs s_find_root) (defBody s_find_root) (defScope s_find_root) .none kV5 dc5 pm5 an5 cd5 ct5), sl5⟩) (c5 : PySem.W.codeIn K cd5 "find_root" = true) (k5 : PySem.W.keepIn K (.ref f5) = true)
    {f6 : Addr} {od6 an6 : Option Addr} {sl6 : Array (Option Value)} {oc6 kV6 dc6 pm6 cd6 ct6 : Value}
    (a6 : PySem.W.nsIn K mainGlobals "need_house" = some (some (.ref f6))) (l6 : K.lookup f6 = some ⟨oc6, od6, .func (PySem.W.fnOf "need_house" "need_house" (defArgs s_need_house) (defBody s_need_house) (defScope s_need_house) .none kV6 dc6 pm6 an6 cd6 ct6), sl6⟩) (c6 : PySem.W.codeIn K cd6 "need_house" = true) (k6 : PySem.W.keepIn K (.ref f6) = true)
    {f7 : Addr} {od7 an7 : Option Addr} {sl7 : Array (Option Value)} {oc7 kV7 dc7 pm7 cd7 ct7 : Value}
    (a7 : PySem.W.nsIn K mainGlobals "exits_of" = some (some (.ref f7))) (l7 : K.lookup f7 = some ⟨oc7, od7, .func (PySem.W.fnOf "exits_of" "exits_of" (defArgs s_exits_of) (defBody s_exits_of) (defScope s_exits_of) .none kV7 dc7 pm7 an7 cd7 ct7), sl7⟩) (c7 : PySem.W.codeIn K cd7 "exits_of" = true) (k7 : PySem.W.keepIn K (.ref f7) = true)
    {f8 : Addr} {od8 an8 : Option Addr} {sl8 : Array (Option Value)} {oc8 kV8 dc8 pm8 cd8 ct8 : Value}
    (a8 : PySem.W.nsIn K mainGlobals "doors_by_ends" = some (some (.ref f8))) (l8 : K.lookup f8 = some ⟨oc8, od8, .func (PySem.W.fnOf "doors_by_ends" "doors_by_ends" (defArgs s_doors_by_ends) (defBody s_doors_by_ends) (defScope s_doors_by_ends) .none kV8 dc8 pm8 an8 cd8 ct8), sl8⟩) (c8 : PySem.W.codeIn K cd8 "doors_by_ends" = true) (k8 : PySem.W.keepIn K (.ref f8) = true)
    {f9 : Addr} {od9 an9 : Option Addr} {sl9 : Array (Option Value)} {oc9 kV9 dc9 pm9 cd9 ct9 : Value}
    (a9 : PySem.W.nsIn K mainGlobals "ways_from" = some (some (.ref f9))) (l9 : K.lookup f9 = some ⟨oc9, od9, .func (PySem.W.fnOf "ways_from" "ways_from" (defArgs s_ways_from) (defBody s_ways_from) (defScope s_ways_from) .none kV9 dc9 pm9 an9 cd9 ct9), sl9⟩) (c9 : PySem.W.codeIn K cd9 "ways_from" = true) (k9 : PySem.W.keepIn K (.ref f9) = true)
    {f10 : Addr} {od10 an10 : Option Addr} {sl10 : Array (Option Value)} {oc10 kV10 dc10 pm10 cd10 ct10 : Value}
    (a10 : PySem.W.nsIn K mainGlobals "has_state_shape" = some (some (.ref f10))) (l10 : K.lookup f10 = some ⟨oc10, od10, .func (PySem.W.fnOf "has_state_shape" "has_state_shape" (defArgs s_has_state_shape) (defBody s_has_state_shape) (defScope s_has_state_shape) .none kV10 dc10 pm10 an10 cd10 ct10), sl10⟩) (c10 : PySem.W.codeIn K cd10 "has_state_shape" = true) (k10 : PySem.W.keepIn K (.ref f10) = true)
    {f11 : Addr} {od11 an11 : Option Addr} {sl11 : Array (Option Value)} {oc11 kV11 dc11 pm11 cd11 ct11 : Value}
    (a11 : PySem.W.nsIn K mainGlobals "check_state" = some (some (.ref f11))) (l11 : K.lookup f11 = some ⟨oc11, od11, .func (PySem.W.fnOf "check_state" "check_state" (defArgs s_check_state) (defBody s_check_state) (defScope s_check_state) .none kV11 dc11 pm11 an11 cd11 ct11), sl11⟩) (c11 : PySem.W.codeIn K cd11 "check_state" = true) (k11 : PySem.W.keepIn K (.ref f11) = true)
    {f12 : Addr} {od12 an12 : Option Addr} {sl12 : Array (Option Value)} {oc12 kV12 dc12 pm12 cd12 ct12 : Value}
    (a12 : PySem.W.nsIn K mainGlobals "is_move" = some (some (.ref f12))) (l12 : K.lookup f12 = some ⟨oc12, od12, .func (PySem.W.fnOf "is_move" "is_move" (defArgs s_is_move) (defBody s_is_move) (defScope s_is_move) .none kV12 dc12 pm12 an12 cd12 ct12), sl12⟩) (c12 : PySem.W.codeIn K cd12 "is_move" = true) (k12 : PySem.W.keepIn K (.ref f12) = true)
    {f13 : Addr} {od13 an13 : Option Addr} {sl13 : Array (Option Value)} {oc13 kV13 dc13 pm13 cd13 ct13 : Value}
    (a13 : PySem.W.nsIn K mainGlobals "check_plan" = some (some (.ref f13))) (l13 : K.lookup f13 = some ⟨oc13, od13, .func (PySem.W.fnOf "check_plan" "check_plan" (defArgs s_check_plan) (defBody s_check_plan) (defScope s_check_plan) .none kV13 dc13 pm13 an13 cd13 ct13), sl13⟩) (c13 : PySem.W.codeIn K cd13 "check_plan" = true) (k13 : PySem.W.keepIn K (.ref f13) = true)
    {f14 : Addr} {od14 an14 : Option Addr} {sl14 : Array (Option Value)} {oc14 kV14 dc14 pm14 cd14 ct14 : Value}
    (a14 : PySem.W.nsIn K mainGlobals "need_people" = some (some (.ref f14))) (l14 : K.lookup f14 = some ⟨oc14, od14, .func (PySem.W.fnOf "need_people" "need_people" (defArgs s_need_people) (defBody s_need_people) (defScope s_need_people) .none kV14 dc14 pm14 an14 cd14 ct14), sl14⟩) (c14 : PySem.W.codeIn K cd14 "need_people" = true) (k14 : PySem.W.keepIn K (.ref f14) = true)
    {f15 : Addr} {od15 an15 : Option Addr} {sl15 : Array (Option Value)} {oc15 kV15 dc15 pm15 cd15 ct15 : Value}
    (a15 : PySem.W.nsIn K mainGlobals "need_state" = some (some (.ref f15))) (l15 : K.lookup f15 = some ⟨oc15, od15, .func (PySem.W.fnOf "need_state" "need_state" (defArgs s_need_state) (defBody s_need_state) (defScope s_need_state) .none kV15 dc15 pm15 an15 cd15 ct15), sl15⟩) (c15 : PySem.W.codeIn K cd15 "need_state" = true) (k15 : PySem.W.keepIn K (.ref f15) = true)
    {f16 : Addr} {od16 an16 : Option Addr} {sl16 : Array (Option Value)} {oc16 kV16 dc16 pm16 cd16 ct16 : Value}
    (a16 : PySem.W.nsIn K mainGlobals "need_plan" = some (some (.ref f16))) (l16 : K.lookup f16 = some ⟨oc16, od16, .func (PySem.W.fnOf "need_plan" "need_plan" (defArgs s_need_plan) (defBody s_need_plan) (defScope s_need_plan) .none kV16 dc16 pm16 an16 cd16 ct16), sl16⟩) (c16 : PySem.W.codeIn K cd16 "need_plan" = true) (k16 : PySem.W.keepIn K (.ref f16) = true)
    {f17 : Addr} {od17 an17 : Option Addr} {sl17 : Array (Option Value)} {oc17 kV17 dc17 pm17 cd17 ct17 : Value}
    (a17 : PySem.W.nsIn K mainGlobals "possible_moves" = some (some (.ref f17))) (l17 : K.lookup f17 = some ⟨oc17, od17, .func (PySem.W.fnOf "possible_moves" "possible_moves" (defArgs s_possible_moves) (defBody s_possible_moves) (defScope s_possible_moves) .none kV17 dc17 pm17 an17 cd17 ct17), sl17⟩) (c17 : PySem.W.codeIn K cd17 "possible_moves" = true) (k17 : PySem.W.keepIn K (.ref f17) = true)
    {f18 : Addr} {od18 an18 : Option Addr} {sl18 : Array (Option Value)} {oc18 kV18 dc18 pm18 cd18 ct18 : Value}
    (a18 : PySem.W.nsIn K mainGlobals "played" = some (some (.ref f18))) (l18 : K.lookup f18 = some ⟨oc18, od18, .func (PySem.W.fnOf "played" "played" (defArgs s_played) (defBody s_played) (defScope s_played) .none kV18 dc18 pm18 an18 cd18 ct18), sl18⟩) (c18 : PySem.W.codeIn K cd18 "played" = true) (k18 : PySem.W.keepIn K (.ref f18) = true)
    {f19 : Addr} {od19 an19 : Option Addr} {sl19 : Array (Option Value)} {oc19 kV19 dc19 pm19 cd19 ct19 : Value}
    (a19 : PySem.W.nsIn K mainGlobals "play" = some (some (.ref f19))) (l19 : K.lookup f19 = some ⟨oc19, od19, .func (PySem.W.fnOf "play" "play" (defArgs s_play) (defBody s_play) (defScope s_play) .none kV19 dc19 pm19 an19 cd19 ct19), sl19⟩) (c19 : PySem.W.codeIn K cd19 "play" = true) (k19 : PySem.W.keepIn K (.ref f19) = true)
    {f20 : Addr} {od20 an20 : Option Addr} {sl20 : Array (Option Value)} {oc20 kV20 dc20 pm20 cd20 ct20 : Value}
    (a20 : PySem.W.nsIn K mainGlobals "doors_barring" = some (some (.ref f20))) (l20 : K.lookup f20 = some ⟨oc20, od20, .func (PySem.W.fnOf "doors_barring" "doors_barring" (defArgs s_doors_barring) (defBody s_doors_barring) (defScope s_doors_barring) .none kV20 dc20 pm20 an20 cd20 ct20), sl20⟩) (c20 : PySem.W.codeIn K cd20 "doors_barring" = true) (k20 : PySem.W.keepIn K (.ref f20) = true)
    {f21 : Addr} {od21 an21 : Option Addr} {sl21 : Array (Option Value)} {oc21 kV21 dc21 pm21 cd21 ct21 : Value}
    (a21 : PySem.W.nsIn K mainGlobals "region_ways" = some (some (.ref f21))) (l21 : K.lookup f21 = some ⟨oc21, od21, .func (PySem.W.fnOf "region_ways" "region_ways" (defArgs s_region_ways) (defBody s_region_ways) (defScope s_region_ways) .none kV21 dc21 pm21 an21 cd21 ct21), sl21⟩) (c21 : PySem.W.codeIn K cd21 "region_ways" = true) (k21 : PySem.W.keepIn K (.ref f21) = true)
    {f22 : Addr} {od22 an22 : Option Addr} {sl22 : Array (Option Value)} {oc22 kV22 dc22 pm22 cd22 ct22 : Value}
    (a22 : PySem.W.nsIn K mainGlobals "is_apart" = some (some (.ref f22))) (l22 : K.lookup f22 = some ⟨oc22, od22, .func (PySem.W.fnOf "is_apart" "is_apart" (defArgs s_is_apart) (defBody s_is_apart) (defScope s_is_apart) .none kV22 dc22 pm22 an22 cd22 ct22), sl22⟩) (c22 : PySem.W.codeIn K cd22 "is_apart" = true) (k22 : PySem.W.keepIn K (.ref f22) = true)
    {f23 : Addr} {od23 an23 : Option Addr} {sl23 : Array (Option Value)} {oc23 kV23 dc23 pm23 cd23 ct23 : Value}
    (a23 : PySem.W.nsIn K mainGlobals "count_following" = some (some (.ref f23))) (l23 : K.lookup f23 = some ⟨oc23, od23, .func (PySem.W.fnOf "count_following" "count_following" (defArgs s_count_following) (defBody s_count_following) (defScope s_count_following) .none kV23 dc23 pm23 an23 cd23 ct23), sl23⟩) (c23 : PySem.W.codeIn K cd23 "count_following" = true) (k23 : PySem.W.keepIn K (.ref f23) = true)
    {f24 : Addr} {od24 an24 : Option Addr} {sl24 : Array (Option Value)} {oc24 kV24 dc24 pm24 cd24 ct24 : Value}
    (a24 : PySem.W.nsIn K mainGlobals "_law_cell" = some (some (.ref f24))) (l24 : K.lookup f24 = some ⟨oc24, od24, .func (PySem.W.fnOf "_law_cell" "_law_cell" (defArgs s_l_cell) (defBody s_l_cell) (defScope s_l_cell) .none kV24 dc24 pm24 an24 cd24 ct24), sl24⟩) (c24 : PySem.W.codeIn K cd24 "_law_cell" = true) (k24 : PySem.W.keepIn K (.ref f24) = true)
    {f25 : Addr} {od25 an25 : Option Addr} {sl25 : Array (Option Value)} {oc25 kV25 dc25 pm25 cd25 ct25 : Value}
    (a25 : PySem.W.nsIn K mainGlobals "_law_hash" = some (some (.ref f25))) (l25 : K.lookup f25 = some ⟨oc25, od25, .func (PySem.W.fnOf "_law_hash" "_law_hash" (defArgs s_l_hash) (defBody s_l_hash) (defScope s_l_hash) .none kV25 dc25 pm25 an25 cd25 ct25), sl25⟩) (c25 : PySem.W.codeIn K cd25 "_law_hash" = true) (k25 : PySem.W.keepIn K (.ref f25) = true)
    {f26 : Addr} {od26 an26 : Option Addr} {sl26 : Array (Option Value)} {oc26 kV26 dc26 pm26 cd26 ct26 : Value}
    (a26 : PySem.W.nsIn K mainGlobals "_law_generator" = some (some (.ref f26))) (l26 : K.lookup f26 = some ⟨oc26, od26, .func (PySem.W.fnOf "_law_generator" "_law_generator" (defArgs s_l_generator) (defBody s_l_generator) (defScope s_l_generator) .none kV26 dc26 pm26 an26 cd26 ct26), sl26⟩) (c26 : PySem.W.codeIn K cd26 "_law_generator" = true) (k26 : PySem.W.keepIn K (.ref f26) = true)
    {f27 : Addr} {od27 an27 : Option Addr} {sl27 : Array (Option Value)} {oc27 kV27 dc27 pm27 cd27 ct27 : Value}
    (a27 : PySem.W.nsIn K mainGlobals "_law_random" = some (some (.ref f27))) (l27 : K.lookup f27 = some ⟨oc27, od27, .func (PySem.W.fnOf "_law_random" "_law_random" (defArgs s_l_random) (defBody s_l_random) (defScope s_l_random) .none kV27 dc27 pm27 an27 cd27 ct27), sl27⟩) (c27 : PySem.W.codeIn K cd27 "_law_random" = true) (k27 : PySem.W.keepIn K (.ref f27) = true)
    {f28 : Addr} {od28 an28 : Option Addr} {sl28 : Array (Option Value)} {oc28 kV28 dc28 pm28 cd28 ct28 : Value}
    (a28 : PySem.W.nsIn K mainGlobals "_law_shuffled" = some (some (.ref f28))) (l28 : K.lookup f28 = some ⟨oc28, od28, .func (PySem.W.fnOf "_law_shuffled" "_law_shuffled" (defArgs s_l_shuffled) (defBody s_l_shuffled) (defScope s_l_shuffled) .none kV28 dc28 pm28 an28 cd28 ct28), sl28⟩) (c28 : PySem.W.codeIn K cd28 "_law_shuffled" = true) (k28 : PySem.W.keepIn K (.ref f28) = true)
    {f29 : Addr} {od29 an29 : Option Addr} {sl29 : Array (Option Value)} {oc29 kV29 dc29 pm29 cd29 ct29 : Value}
    (a29 : PySem.W.nsIn K mainGlobals "_law_random_house" = some (some (.ref f29))) (l29 : K.lookup f29 = some ⟨oc29, od29, .func (PySem.W.fnOf "_law_random_house" "_law_random_house" (defArgs s_l_random_house) (defBody s_l_random_house) (defScope s_l_random_house) .none kV29 dc29 pm29 an29 cd29 ct29), sl29⟩) (c29 : PySem.W.codeIn K cd29 "_law_random_house" = true) (k29 : PySem.W.keepIn K (.ref f29) = true)
    {f30 : Addr} {od30 an30 : Option Addr} {sl30 : Array (Option Value)} {oc30 kV30 dc30 pm30 cd30 ct30 : Value}
    (a30 : PySem.W.nsIn K mainGlobals "_law_random_state" = some (some (.ref f30))) (l30 : K.lookup f30 = some ⟨oc30, od30, .func (PySem.W.fnOf "_law_random_state" "_law_random_state" (defArgs s_l_random_state) (defBody s_l_random_state) (defScope s_l_random_state) .none kV30 dc30 pm30 an30 cd30 ct30), sl30⟩) (c30 : PySem.W.codeIn K cd30 "_law_random_state" = true) (k30 : PySem.W.keepIn K (.ref f30) = true)
    {f31 : Addr} {od31 an31 : Option Addr} {sl31 : Array (Option Value)} {oc31 kV31 dc31 pm31 cd31 ct31 : Value}
    (a31 : PySem.W.nsIn K mainGlobals "_law_neighbours" = some (some (.ref f31))) (l31 : K.lookup f31 = some ⟨oc31, od31, .func (PySem.W.fnOf "_law_neighbours" "_law_neighbours" (defArgs s_l_neighbours) (defBody s_l_neighbours) (defScope s_l_neighbours) .none kV31 dc31 pm31 an31 cd31 ct31), sl31⟩) (c31 : PySem.W.codeIn K cd31 "_law_neighbours" = true) (k31 : PySem.W.keepIn K (.ref f31) = true)
    {f32 : Addr} {od32 an32 : Option Addr} {sl32 : Array (Option Value)} {oc32 kV32 dc32 pm32 cd32 ct32 : Value}
    (a32 : PySem.W.nsIn K mainGlobals "_law_grown" = some (some (.ref f32))) (l32 : K.lookup f32 = some ⟨oc32, od32, .func (PySem.W.fnOf "_law_grown" "_law_grown" (defArgs s_l_grown) (defBody s_l_grown) (defScope s_l_grown) .none kV32 dc32 pm32 an32 cd32 ct32), sl32⟩) (c32 : PySem.W.codeIn K cd32 "_law_grown" = true) (k32 : PySem.W.keepIn K (.ref f32) = true)
    {f33 : Addr} {od33 an33 : Option Addr} {sl33 : Array (Option Value)} {oc33 kV33 dc33 pm33 cd33 ct33 : Value}
    (a33 : PySem.W.nsIn K mainGlobals "_law_region" = some (some (.ref f33))) (l33 : K.lookup f33 = some ⟨oc33, od33, .func (PySem.W.fnOf "_law_region" "_law_region" (defArgs s_l_region) (defBody s_l_region) (defScope s_l_region) .none kV33 dc33 pm33 an33 cd33 ct33), sl33⟩) (c33 : PySem.W.codeIn K cd33 "_law_region" = true) (k33 : PySem.W.keepIn K (.ref f33) = true)
    {f34 : Addr} {od34 an34 : Option Addr} {sl34 : Array (Option Value)} {oc34 kV34 dc34 pm34 cd34 ct34 : Value}
    (a34 : PySem.W.nsIn K mainGlobals "_law_regions" = some (some (.ref f34))) (l34 : K.lookup f34 = some ⟨oc34, od34, .func (PySem.W.fnOf "_law_regions" "_law_regions" (defArgs s_l_regions) (defBody s_l_regions) (defScope s_l_regions) .none kV34 dc34 pm34 an34 cd34 ct34), sl34⟩) (c34 : PySem.W.codeIn K cd34 "_law_regions" = true) (k34 : PySem.W.keepIn K (.ref f34) = true)
    {f35 : Addr} {od35 an35 : Option Addr} {sl35 : Array (Option Value)} {oc35 kV35 dc35 pm35 cd35 ct35 : Value}
    (a35 : PySem.W.nsIn K mainGlobals "_law_apart" = some (some (.ref f35))) (l35 : K.lookup f35 = some ⟨oc35, od35, .func (PySem.W.fnOf "_law_apart" "_law_apart" (defArgs s_l_apart) (defBody s_l_apart) (defScope s_l_apart) .none kV35 dc35 pm35 an35 cd35 ct35), sl35⟩) (c35 : PySem.W.codeIn K cd35 "_law_apart" = true) (k35 : PySem.W.keepIn K (.ref f35) = true)
    {f36 : Addr} {od36 an36 : Option Addr} {sl36 : Array (Option Value)} {oc36 kV36 dc36 pm36 cd36 ct36 : Value}
    (a36 : PySem.W.nsIn K mainGlobals "_law_moved" = some (some (.ref f36))) (l36 : K.lookup f36 = some ⟨oc36, od36, .func (PySem.W.fnOf "_law_moved" "_law_moved" (defArgs s_l_moved) (defBody s_l_moved) (defScope s_l_moved) .none kV36 dc36 pm36 an36 cd36 ct36), sl36⟩) (c36 : PySem.W.codeIn K cd36 "_law_moved" = true) (k36 : PySem.W.keepIn K (.ref f36) = true)
    {f37 : Addr} {od37 an37 : Option Addr} {sl37 : Array (Option Value)} {oc37 kV37 dc37 pm37 cd37 ct37 : Value}
    (a37 : PySem.W.nsIn K mainGlobals "_law_steps" = some (some (.ref f37))) (l37 : K.lookup f37 = some ⟨oc37, od37, .func (PySem.W.fnOf "_law_steps" "_law_steps" (defArgs s_l_steps) (defBody s_l_steps) (defScope s_l_steps) .none kV37 dc37 pm37 an37 cd37 ct37), sl37⟩) (c37 : PySem.W.codeIn K cd37 "_law_steps" = true) (k37 : PySem.W.keepIn K (.ref f37) = true)
    {f38 : Addr} {od38 an38 : Option Addr} {sl38 : Array (Option Value)} {oc38 kV38 dc38 pm38 cd38 ct38 : Value}
    (a38 : PySem.W.nsIn K mainGlobals "_law_following" = some (some (.ref f38))) (l38 : K.lookup f38 = some ⟨oc38, od38, .func (PySem.W.fnOf "_law_following" "_law_following" (defArgs s_l_following) (defBody s_l_following) (defScope s_l_following) .none kV38 dc38 pm38 an38 cd38 ct38), sl38⟩) (c38 : PySem.W.codeIn K cd38 "_law_following" = true) (k38 : PySem.W.keepIn K (.ref f38) = true)
    {f39 : Addr} {od39 an39 : Option Addr} {sl39 : Array (Option Value)} {oc39 kV39 dc39 pm39 cd39 ct39 : Value}
    (a39 : PySem.W.nsIn K mainGlobals "_law_walk_right" = some (some (.ref f39))) (l39 : K.lookup f39 = some ⟨oc39, od39, .func (PySem.W.fnOf "_law_walk_right" "_law_walk_right" (defArgs s_l_walk_right) (defBody s_l_walk_right) (defScope s_l_walk_right) .none kV39 dc39 pm39 an39 cd39 ct39), sl39⟩) (c39 : PySem.W.codeIn K cd39 "_law_walk_right" = true) (k39 : PySem.W.keepIn K (.ref f39) = true)
    {f40 : Addr} {od40 an40 : Option Addr} {sl40 : Array (Option Value)} {oc40 kV40 dc40 pm40 cd40 ct40 : Value}
    (a40 : PySem.W.nsIn K mainGlobals "_law_small_right" = some (some (.ref f40))) (l40 : K.lookup f40 = some ⟨oc40, od40, .func (PySem.W.fnOf "_law_small_right" "_law_small_right" (defArgs s_l_small_right) (defBody s_l_small_right) (defScope s_l_small_right) .none kV40 dc40 pm40 an40 cd40 ct40), sl40⟩) (c40 : PySem.W.codeIn K cd40 "_law_small_right" = true) (k40 : PySem.W.keepIn K (.ref f40) = true)
    {f41 : Addr} {od41 an41 : Option Addr} {sl41 : Array (Option Value)} {oc41 kV41 dc41 pm41 cd41 ct41 : Value}
    (a41 : PySem.W.nsIn K mainGlobals "law" = some (some (.ref f41))) (l41 : K.lookup f41 = some ⟨oc41, od41, .func (PySem.W.fnOf "law" "law" (defArgs s_law) (defBody s_law) (defScope s_law) .none kV41 dc41 pm41 an41 cd41 ct41), sl41⟩) (c41 : PySem.W.codeIn K cd41 "law" = true) (k41 : PySem.W.keepIn K (.ref f41) = true)
    (z0 : PySem.W.nsIn K mainGlobals "len" = some none)
    (z1 : PySem.W.nsIn K mainGlobals "isinstance" = some none)
    (z2 : PySem.W.nsIn K mainGlobals "enumerate" = some none)
    (z3 : PySem.W.nsIn K mainGlobals "range" = some none)
    (z4 : PySem.W.nsIn K mainGlobals "list" = some none)
    (z5 : PySem.W.nsIn K mainGlobals "set" = some none)
    (z6 : PySem.W.nsIn K mainGlobals "sorted" = some none)
    (z7 : PySem.W.nsIn K mainGlobals "max" = some none)
    (z8 : PySem.W.nsIn K mainGlobals "min" = some none)
    (z9 : PySem.W.nsIn K mainGlobals "tuple" = some none)
    (z10 : PySem.W.nsIn K mainGlobals "int" = some none)
    (z11 : PySem.W.nsIn K mainGlobals "bool" = some none)
    (z12 : PySem.W.nsIn K mainGlobals "all" = some none)
    (z13 : PySem.W.nsIn K mainGlobals "sum" = some none)
    : ∃ fd : FuncData, (∀ (s : Shared) (v : Value), BindsTo s fd ⟨[v], []⟩ [("_law_script", v)]) ∧ ∀ base : Heap, K.In base → base.Ns mainGlobals mg → FnOk l.prog w K mg base CX0 11 fa fd ["_law_script"] (spLaw K) := by
  have e := hfa.symm.trans (PySem.W.mg_of X G a41)
  cases e
  have T : Bl mg := ⟨PySem.W.mg_none_of X G z0, PySem.W.mg_none_of X G z1, PySem.W.mg_none_of X G z2, PySem.W.mg_none_of X G z3, PySem.W.mg_none_of X G z4, PySem.W.mg_none_of X G z5, PySem.W.mg_none_of X G z6, PySem.W.mg_none_of X G z7, PySem.W.mg_none_of X G z8, PySem.W.mg_none_of X G z9, PySem.W.mg_none_of X G z10, PySem.W.mg_none_of X G z11, PySem.W.mg_none_of X G z12, PySem.W.mg_none_of X G z13⟩
  have D_is_whole : Def K mg "is_whole" s_is_whole := def_mk X G a0 l0 c0 k0
  have D_is_index : Def K mg "is_index" s_is_index := def_mk X G a1 l1 c1 k1
  have D_is_door : Def K mg "is_door" s_is_door := def_mk X G a2 l2 c2 k2
  have D_check_house : Def K mg "check_house" s_check_house := def_mk X G a3 l3 c3 k3
  have D_first_ring : Def K mg "first_ring" s_first_ring := def_mk X G a4 l4 c4 k4
  have D_find_root : Def K mg "find_root" s_find_root := def_mk X G a5 l5 c5 k5
  have D_need_house : Def K mg "need_house" s_need_house := def_mk X G a6 l6 c6 k6
  have D_exits_of : Def K mg "exits_of" s_exits_of := def_mk X G a7 l7 c7 k7
  have D_doors_by_ends : Def K mg "doors_by_ends" s_doors_by_ends := def_mk X G a8 l8 c8 k8
  have D_ways_from : Def K mg "ways_from" s_ways_from := def_mk X G a9 l9 c9 k9
  have D_has_state_shape : Def K mg "has_state_shape" s_has_state_shape := def_mk X G a10 l10 c10 k10
  have D_check_state : Def K mg "check_state" s_check_state := def_mk X G a11 l11 c11 k11
  have D_is_move : Def K mg "is_move" s_is_move := def_mk X G a12 l12 c12 k12
  have D_check_plan : Def K mg "check_plan" s_check_plan := def_mk X G a13 l13 c13 k13
  have D_need_people : Def K mg "need_people" s_need_people := def_mk X G a14 l14 c14 k14
  have D_need_state : Def K mg "need_state" s_need_state := def_mk X G a15 l15 c15 k15
  have D_need_plan : Def K mg "need_plan" s_need_plan := def_mk X G a16 l16 c16 k16
  have D_possible_moves : Def K mg "possible_moves" s_possible_moves := def_mk X G a17 l17 c17 k17
  have D_played : Def K mg "played" s_played := def_mk X G a18 l18 c18 k18
  have D_play : Def K mg "play" s_play := def_mk X G a19 l19 c19 k19
  have D_doors_barring : Def K mg "doors_barring" s_doors_barring := def_mk X G a20 l20 c20 k20
  have D_region_ways : Def K mg "region_ways" s_region_ways := def_mk X G a21 l21 c21 k21
  have D_is_apart : Def K mg "is_apart" s_is_apart := def_mk X G a22 l22 c22 k22
  have D_count_following : Def K mg "count_following" s_count_following := def_mk X G a23 l23 c23 k23
  have D_l_cell : Def K mg "_law_cell" s_l_cell := def_mk X G a24 l24 c24 k24
  have D_l_hash : Def K mg "_law_hash" s_l_hash := def_mk X G a25 l25 c25 k25
  have D_l_generator : Def K mg "_law_generator" s_l_generator := def_mk X G a26 l26 c26 k26
  have D_l_random : Def K mg "_law_random" s_l_random := def_mk X G a27 l27 c27 k27
  have D_l_shuffled : Def K mg "_law_shuffled" s_l_shuffled := def_mk X G a28 l28 c28 k28
  have D_l_random_house : Def K mg "_law_random_house" s_l_random_house := def_mk X G a29 l29 c29 k29
  have D_l_random_state : Def K mg "_law_random_state" s_l_random_state := def_mk X G a30 l30 c30 k30
  have D_l_neighbours : Def K mg "_law_neighbours" s_l_neighbours := def_mk X G a31 l31 c31 k31
  have D_l_grown : Def K mg "_law_grown" s_l_grown := def_mk X G a32 l32 c32 k32
  have D_l_region : Def K mg "_law_region" s_l_region := def_mk X G a33 l33 c33 k33
  have D_l_regions : Def K mg "_law_regions" s_l_regions := def_mk X G a34 l34 c34 k34
  have D_l_apart : Def K mg "_law_apart" s_l_apart := def_mk X G a35 l35 c35 k35
  have D_l_moved : Def K mg "_law_moved" s_l_moved := def_mk X G a36 l36 c36 k36
  have D_l_steps : Def K mg "_law_steps" s_l_steps := def_mk X G a37 l37 c37 k37
  have D_l_following : Def K mg "_law_following" s_l_following := def_mk X G a38 l38 c38 k38
  have D_l_walk_right : Def K mg "_law_walk_right" s_l_walk_right := def_mk X G a39 l39 c39 k39
  have D_l_small_right : Def K mg "_law_small_right" s_l_small_right := def_mk X G a40 l40 c40 k40
  refine ⟨PySem.W.fnOf "law" "law" (defArgs s_law) (defBody s_law) (defScope s_law) .none kV41 dc41 pm41 an41 cd41 ct41, fun s v => .of_eq rfl, fun base _ _ => ?_⟩
  have H_cell : Cal l.prog w K mg base "_law_cell" ["_law_script", "_law_index"] 1 (spCell K) := ok_cell T D_l_cell
  have H_generator : Cal l.prog w K mg base "_law_generator" ["_law_script", "_law_index"] 2 (spGen K) := ok_generator T D_l_generator H_cell
  have H_hash : Cal l.prog w K mg base "_law_hash" ["_law_seed", "_law_index"] 1 spHash := ok_hash T D_l_hash
  have H_random : Cal l.prog w K mg base "_law_random" ["_law_generator_here", "_law_bound"] 2 spRand := ok_random T D_l_random H_hash
  have H_shuffled : Cal l.prog w K mg base "_law_shuffled" ["_law_generator_here", "_law_items"] 3 (spShuf K) := ok_shuffled T D_l_shuffled H_random
  have H_random_house : Cal l.prog w K mg base "_law_random_house" ["_law_generator_here", "_law_most"] 4 (spHouse K) := ok_random_house T D_l_random_house H_random H_shuffled
  have H_random_state : Cal l.prog w K mg base "_law_random_state" ["_law_generator_here", "_law_doors", "_law_people"] 3 (spRState K) := ok_random_state T D_l_random_state H_random
  have H_neighbours : Cal l.prog w K mg base "_law_neighbours" ["_law_doors", "_law_place"] 1 (spNeigh K) := ok_neighbours T D_l_neighbours
  have H_l_grown : Cal l.prog w K mg base "_law_grown" ["_law_doors", "_law_position", "_law_person", "_law_found"] 2 (spGrown K) := ok_l_grown T D_l_grown H_neighbours
  have H_l_region : Cal l.prog w K mg base "_law_region" ["_law_doors", "_law_position", "_law_person"] 3 (spRegL K) := ok_l_region T D_l_region H_l_grown
  have H_l_regions : Cal l.prog w K mg base "_law_regions" ["_law_doors", "_law_position"] 4 (spRegsL K) := ok_l_regions T D_l_regions H_l_region
  have H_l_apart : Cal l.prog w K mg base "_law_apart" ["_law_doors", "_law_position"] 5 (spApt K) := ok_l_apart T D_l_apart H_l_regions
  have H_is_whole : Cal l.prog w K mg base "is_whole" ["value"] 1 spWhole := ok_is_whole T D_is_whole
  have H_is_index : Cal l.prog w K mg base "is_index" ["value", "count"] 2 spIndex := ok_is_index T D_is_index H_is_whole
  have H_is_door : Cal l.prog w K mg base "is_door" ["value", "count"] 3 (spDoor K) := ok_is_door T D_is_door H_is_index
  have H_find_root : Cal l.prog w K mg base "find_root" ["links", "room"] 1 spFind := ok_find_root T D_find_root
  have H_first_ring : Cal l.prog w K mg base "first_ring" ["doors"] 2 (spRing K) := ok_first_ring T D_first_ring H_find_root
  have H_check_house : Cal l.prog w K mg base "check_house" ["value"] 4 (spRing K) := ok_check_house T D_check_house H_is_door H_first_ring
  have H_need_house : Cal l.prog w K mg base "need_house" ["house"] 5 (spRing K) := ok_need_house T D_need_house H_check_house
  have H_has_state_shape : Cal l.prog w K mg base "has_state_shape" ["house", "value"] 1 (spShape K) := ok_has_state_shape T D_has_state_shape
  have H_check_state : Cal l.prog w K mg base "check_state" ["house", "value"] 6 (spSt K) := ok_check_state T D_check_state H_need_house H_has_state_shape H_is_index
  have H_need_state : Cal l.prog w K mg base "need_state" ["house", "state"] 7 (spSt K) := ok_need_state T D_need_state H_check_state
  have H_exits_of : Cal l.prog w K mg base "exits_of" ["house"] 1 (spExits K) := ok_exits_of T D_exits_of
  have H_ways_from : Cal l.prog w K mg base "ways_from" ["house", "room", "shut"] 2 (spWays K) := ok_ways_from T D_ways_from H_exits_of
  have H_doors_barring : Cal l.prog w K mg base "doors_barring" ["state", "person"] 1 (spBarring K) := ok_doors_barring T D_doors_barring
  have H_region_ways : Cal l.prog w K mg base "region_ways" ["house", "state", "person"] 3 (spRegWays K) := ok_region_ways T D_region_ways H_ways_from H_doors_barring
  have H_is_apart : CalK l.prog w K mg base "is_apart" ["house", "state"] 8 (spApart K) ["state", "house"] rev2 rev2 := ok_is_apart T D_is_apart H_need_state H_region_ways
  have H_count_following : Cal l.prog w K mg base "count_following" ["house", "state"] 9 (spCountF K) := ok_count_following T D_count_following H_is_apart.cal H_region_ways
  have H_possible_moves : Cal l.prog w K mg base "possible_moves" ["house", "state"] 8 (spPoss K) := ok_possible_moves T D_possible_moves H_need_state
  have H_need_people : Cal l.prog w K mg base "need_people" ["people"] 2 spPeople := ok_need_people T D_need_people H_is_whole
  have H_doors_by_ends : Cal l.prog w K mg base "doors_by_ends" ["house"] 1 (spDoors K) := ok_doors_by_ends T D_doors_by_ends
  have H_is_move : Cal l.prog w K mg base "is_move" ["doors", "people", "value"] 3 spMove := ok_is_move T D_is_move H_is_whole H_is_index
  have H_check_plan : Cal l.prog w K mg base "check_plan" ["house", "people", "value"] 6 (spPlan K) := ok_check_plan T D_check_plan H_need_house H_need_people H_doors_by_ends H_is_move
  have H_need_plan : Cal l.prog w K mg base "need_plan" ["house", "people", "plan"] 7 (spNP K) := ok_need_plan T D_need_plan H_check_plan
  have H_played : Cal l.prog w K mg base "played" ["doors", "state", "plan"] 1 (spPlayedG K) := ok_played T D_played
  have H_play : Cal l.prog w K mg base "play" ["house", "state", "plan"] 8 (spPlayG K) := ok_play T D_play H_need_state H_need_plan H_doors_by_ends H_played
  have H_l_walk_right : Cal l.prog w K mg base "_law_walk_right" ["_law_generator_here", "_law_doors", "_law_position"] 10 (spWalkR K) := ok_l_walk_right T D_l_walk_right H_l_regions H_count_following H_possible_moves H_play H_random H_l_apart
  have H_steps : Cal l.prog w K mg base "_law_steps" ["_law_doors", "_law_position"] 2 (spPoss K) := ok_steps T D_l_steps H_neighbours
  have H_moved : Cal l.prog w K mg base "_law_moved" ["_law_doors", "_law_position", "_law_step"] 2 (spMoved K) := ok_moved T D_l_moved H_neighbours
  have H_l_following : Cal l.prog w K mg base "_law_following" ["_law_doors", "_law_position"] 3 (spFollow K) := ok_l_following T D_l_following H_steps H_moved
  have H_l_small_right : Cal l.prog w K mg base "_law_small_right" ["_law_doors", "_law_position"] 10 (spSmall K) := ok_l_small_right T D_l_small_right H_l_following H_l_apart H_count_following H_l_regions
  exact ok_law T (fun_mk (st := s_law) l41 c41 k41) H_generator H_random H_random_house H_random_state H_l_apart H_l_walk_right H_l_small_right
end K5

open PySem PySem.W PyProof.Rows
set_option maxHeartbeats 0 in
theorem PySem.Challenge.cw_lastthrough_k80_whole_apart_states_stay_holds : PySem.Challenge.rw_lastthrough_k80_whole_apart_states_stay.Holds := by
  w_on; o_law; k_head; (case hw => w_witness2)
  k_fill
  refine L2.walk_of (l := PySem.Challenge.rw_lastthrough_k80_whole_apart_states_stay) (n := 63) (k := 11) (x := "_law_script") (CX := fun _ => L2.CX0) (sp := fun w => K5.spLaw _) rfl (by decide) rfl ⟨rfl, by decide, by decide⟩ (fun w h Y => PySem.W.kIn_of Y) ?F (fun _ _ a ns hl _ hS => ⟨a, ns, rfl, hS, hl, fun _ => rfl⟩) (fun _ _ _ _ _ h => h)
  case F =>
    intro w mg fa h KX G hmg
    refine' K5.all_mk KX G hmg ?a0 ?l0 ?c0 ?k0 ?a1 ?l1 ?c1 ?k1 ?a2 ?l2 ?c2 ?k2 ?a3 ?l3 ?c3 ?k3 ?a4 ?l4 ?c4 ?k4 ?a5 ?l5 ?c5 ?k5 ?a6 ?l6 ?c6 ?k6 ?a7 ?l7 ?c7 ?k7 ?a8 ?l8 ?c8 ?k8 ?a9 ?l9 ?c9 ?k9 ?a10 ?l10 ?c10 ?k10 ?a11 ?l11 ?c11 ?k11 ?a12 ?l12 ?c12 ?k12 ?a13 ?l13 ?c13 ?k13 ?a14 ?l14 ?c14 ?k14 ?a15 ?l15 ?c15 ?k15 ?a16 ?l16 ?c16 ?k16 ?a17 ?l17 ?c17 ?k17 ?a18 ?l18 ?c18 ?k18 ?a19 ?l19 ?c19 ?k19 ?a20 ?l20 ?c20 ?k20 ?a21 ?l21 ?c21 ?k21 ?a22 ?l22 ?c22 ?k22 ?a23 ?l23 ?c23 ?k23 ?a24 ?l24 ?c24 ?k24 ?a25 ?l25 ?c25 ?k25 ?a26 ?l26 ?c26 ?k26 ?a27 ?l27 ?c27 ?k27 ?a28 ?l28 ?c28 ?k28 ?a29 ?l29 ?c29 ?k29 ?a30 ?l30 ?c30 ?k30 ?a31 ?l31 ?c31 ?k31 ?a32 ?l32 ?c32 ?k32 ?a33 ?l33 ?c33 ?k33 ?a34 ?l34 ?c34 ?k34 ?a35 ?l35 ?c35 ?k35 ?a36 ?l36 ?c36 ?k36 ?a37 ?l37 ?c37 ?k37 ?a38 ?l38 ?c38 ?k38 ?a39 ?l39 ?c39 ?k39 ?a40 ?l40 ?c40 ?k40 ?a41 ?l41 ?c41 ?k41 ?z0 ?z1 ?z2 ?z3 ?z4 ?z5 ?z6 ?z7 ?z8 ?z9 ?z10 ?z11 ?z12 ?z13
    (case a0 => k_is)
    (case l0 => k_is)
    (case c0 => k_is)
    (case k0 => k_is)
    (case a1 => k_is)
    (case l1 => k_is)
    (case c1 => k_is)
    (case k1 => k_is)
    (case a2 => k_is)
    (case l2 => k_is)
    (case c2 => k_is)
    (case k2 => k_is)
    (case a3 => k_is)
    (case l3 => k_is)
    (case c3 => k_is)
    (case k3 => k_is)
    (case a4 => k_is)
    (case l4 => k_is)
    (case c4 => k_is)
    (case k4 => k_is)
    (case a5 => k_is)
    (case l5 => k_is)
    (case c5 => k_is)
    (case k5 => k_is)
    (case a6 => k_is)
    (case l6 => k_is)
    (case c6 => k_is)
    (case k6 => k_is)
    (case a7 => k_is)
    (case l7 => k_is)
    (case c7 => k_is)
    (case k7 => k_is)
    (case a8 => k_is)
    (case l8 => k_is)
    (case c8 => k_is)
    (case k8 => k_is)
    (case a9 => k_is)
    (case l9 => k_is)
    (case c9 => k_is)
    (case k9 => k_is)
    (case a10 => k_is)
    (case l10 => k_is)
    (case c10 => k_is)
    (case k10 => k_is)
    (case a11 => k_is)
    (case l11 => k_is)
    (case c11 => k_is)
    (case k11 => k_is)
    (case a12 => k_is)
    (case l12 => k_is)
    (case c12 => k_is)
    (case k12 => k_is)
    (case a13 => k_is)
    (case l13 => k_is)
    (case c13 => k_is)
    (case k13 => k_is)
    (case a14 => k_is)
    (case l14 => k_is)
    (case c14 => k_is)
    (case k14 => k_is)
    (case a15 => k_is)
    (case l15 => k_is)
    (case c15 => k_is)
    (case k15 => k_is)
    (case a16 => k_is)
    (case l16 => k_is)
    (case c16 => k_is)
    (case k16 => k_is)
    (case a17 => k_is)
    (case l17 => k_is)
    (case c17 => k_is)
    (case k17 => k_is)
    (case a18 => k_is)
    (case l18 => k_is)
    (case c18 => k_is)
    (case k18 => k_is)
    (case a19 => k_is)
    (case l19 => k_is)
    (case c19 => k_is)
    (case k19 => k_is)
    (case a20 => k_is)
    (case l20 => k_is)
    (case c20 => k_is)
    (case k20 => k_is)
    (case a21 => k_is)
    (case l21 => k_is)
    (case c21 => k_is)
    (case k21 => k_is)
    (case a22 => k_is)
    (case l22 => k_is)
    (case c22 => k_is)
    (case k22 => k_is)
    (case a23 => k_is)
    (case l23 => k_is)
    (case c23 => k_is)
    (case k23 => k_is)
    (case a24 => k_is)
    (case l24 => k_is)
    (case c24 => k_is)
    (case k24 => k_is)
    (case a25 => k_is)
    (case l25 => k_is)
    (case c25 => k_is)
    (case k25 => k_is)
    (case a26 => k_is)
    (case l26 => k_is)
    (case c26 => k_is)
    (case k26 => k_is)
    (case a27 => k_is)
    (case l27 => k_is)
    (case c27 => k_is)
    (case k27 => k_is)
    (case a28 => k_is)
    (case l28 => k_is)
    (case c28 => k_is)
    (case k28 => k_is)
    (case a29 => k_is)
    (case l29 => k_is)
    (case c29 => k_is)
    (case k29 => k_is)
    (case a30 => k_is)
    (case l30 => k_is)
    (case c30 => k_is)
    (case k30 => k_is)
    (case a31 => k_is)
    (case l31 => k_is)
    (case c31 => k_is)
    (case k31 => k_is)
    (case a32 => k_is)
    (case l32 => k_is)
    (case c32 => k_is)
    (case k32 => k_is)
    (case a33 => k_is)
    (case l33 => k_is)
    (case c33 => k_is)
    (case k33 => k_is)
    (case a34 => k_is)
    (case l34 => k_is)
    (case c34 => k_is)
    (case k34 => k_is)
    (case a35 => k_is)
    (case l35 => k_is)
    (case c35 => k_is)
    (case k35 => k_is)
    (case a36 => k_is)
    (case l36 => k_is)
    (case c36 => k_is)
    (case k36 => k_is)
    (case a37 => k_is)
    (case l37 => k_is)
    (case c37 => k_is)
    (case k37 => k_is)
    (case a38 => k_is)
    (case l38 => k_is)
    (case c38 => k_is)
    (case k38 => k_is)
    (case a39 => k_is)
    (case l39 => k_is)
    (case c39 => k_is)
    (case k39 => k_is)
    (case a40 => k_is)
    (case l40 => k_is)
    (case c40 => k_is)
    (case k40 => k_is)
    (case a41 => k_is)
    (case l41 => k_is)
    (case c41 => k_is)
    (case k41 => k_is)
    (case z0 => k_is)
    (case z1 => k_is)
    (case z2 => k_is)
    (case z3 => k_is)
    (case z4 => k_is)
    (case z5 => k_is)
    (case z6 => k_is)
    (case z7 => k_is)
    (case z8 => k_is)
    (case z9 => k_is)
    (case z10 => k_is)
    (case z11 => k_is)
    (case z12 => k_is)
    (case z13 => k_is)

