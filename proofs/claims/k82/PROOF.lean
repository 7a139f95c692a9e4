import PyProof.Rows.All
import Wide.All
import OpenK.AllK
import Wide.FinOn
import HandS.ForMost
import HandS.Walk
import HandS.IsInst
import HandS.Conv
import HandS.Strs
import HandS.Style
import HandS.Sort
import HandS.SortRule
import HandS.Wide
import HandS.WideBits
import HandS.TupAny
import KE.GoesMore
import KE.GoesEnum
import KE.GoesNew
import HandS.ForExc
import HandS.ExcInit
import HandS.ExcField
import HandS.ExcIs
import HandS.TupSets
import HandS.Evl
import HandS.Ends
import HandS.RaiseMore
import PyProof.ReprReads
import HandS.Codes
import HandS.SlotsOwn
import PyProof.InstNe
import HandS.NoneIn
import PySem.Challenge.RW_lastthrough_k82_whole_plans_joined_and_e
set_option Elab.async false
set_option linter.all false
set_option maxRecDepth 100000
set_option maxHeartbeats 4000000
/-! rules of our own: powers of any size, enumerate of a tuple, a pair turned by its step, a set made of a list of numbers -/
namespace L2
open PySem PySem.Spec PyProof.Rows
theorem op_powX {X : Cx} : OpR X (binaryOp .Pow) (rI (fun i j => 0 ≤ j ∧ (Builtin.Int.intBits i : Int) * j ≤ 2 ^ 27) fun i j => .int (i ^ j.toNat)) := opI fun _ _ _ _ _ _ _ hc q => pow_int hc.1 hc.2 q

/-! ### enumerate of a tuple: by what its iterator draws (GoesN) -/
def IteT (K : PySem.W.Frag) (a : Addr) : It where
  go i H := ∃ (xs : List V) (x : V), SqT K H a xs ∧ xs[i]? = some x
  yld i H v H' := ∃ T x, v = .ref T ∧ H T = none ∧ H' = upd H T (.tup [.int (i : Nat), x]) ∧ ∀ xs, SqT K H a xs → xs[i]? = some x
  stop i H := ∃ xs : List V, SqT K H a xs ∧ xs.length = i
/-- the three objects differ: their classes do -/
theorem enum_apart {h : Heap} {e it t : Addr} {i : Int} {old : Value} {j : Nat} {items : Array Value} (he : IsEnum h e it i old) (hi : h.IsTupleIter it t j) (ht : h.IsTuple t items) : e ∉ [it, t] ∧ t ≠ it := by
  obtain ⟨o, ho, hc, _⟩ := ht
  obtain ⟨oi, hoi, hci, _⟩ := hi
  have he' : h.get? e = some _ := he
  have n1 : e ≠ t := fun z => by
    rw [z, ho] at he'
    rw [← Option.some.inj he'.symm] at hc
    exact absurd (Value.type.inj hc) (by decide)
  have n2 : t ≠ it := fun z => by
    rw [z, hoi] at ho
    rw [← Option.some.inj ho, hci] at hc
    exact absurd (Value.type.inj hc) (by decide)
  have n3 : e ≠ it := fun z => by
    rw [z, hoi] at he'
    rw [← Option.some.inj he'.symm] at hci
    exact absurd (Value.type.inj hci) (by decide)
  exact ⟨by simp [n1, n3], n2⟩
/-- where the walk stands at its i-th turn -/
def EnT (a e it : Addr) (i : Nat) (h : Heap) : Prop := (∃ old, IsEnum h e it (0 + (i : Int)) old) ∧ h.IsTupleIter it a i ∧ e ≠ it
theorem EnT.lts {a e it : Addr} {i : Nat} {h : Heap} (st : EnT a e it i h) : ∀ b ∈ [e, it], b < h.objs.size := fun b hb => by
  obtain ⟨⟨old, he⟩, ⟨u, hu, _⟩, _⟩ := st
  rcases (List.mem_cons.mp hb : b = e ∨ b ∈ [it]) with z | z
  · exact z ▸ Heap.lt_size he
  · exact (List.mem_singleton.mp z) ▸ Heap.lt_size hu
theorem goesT {prog : Program} {w : World} {A : Around} {elts : List Expr} {kk : Nat} {tpos : Pos} (hh : A.handled = none) {a e it : Addr} {items : Array Value} (ne : e ≠ it) (ap : e ∉ [it, a] ∧ a ≠ it) :
    GoesN prog w A (.Tuple elts kk tpos) e [e, it, a] [e, it] items.size (fun i h0 v h => ∃ T t x, v = .ref T ∧ h0.objs.size ≤ T ∧ items[i]? = some x ∧ h.IsTuple T #[.int (0 + (i : Int)) t, x])
      (fun i h => (∃ old, IsEnum h e it (0 + (i : Int)) old) ∧ h.IsTupleIter it a i ∧ h.IsTuple a items) :=
  GoesN.enumFrom 0 (Draws.tuple (A := A.in1) hh it a ap.2 items) e ne ap.1 (by simp)
theorem turn_enumT {P : Program} {w : World} {K : PySem.W.Frag} {elts : List Expr} {kk : Nat} {tpos : Pos} (a e it : Addr) : Turn P w K (.Tuple elts kk tpos) (IteT K a) [e, it] e (EnT a e it) where
  mem := List.mem_cons_self
  obj := by
    rintro i h ⟨⟨old, he⟩, ⟨u, hu, _, hd⟩, _⟩ b hb
    rcases (List.mem_cons.mp hb : b = e ∨ b ∈ [it]) with rfl | m
    · exact ⟨_, he, by intro v z; cases z⟩
    · rw [List.mem_singleton.mp m]
      exact ⟨u, hu, by intro v z; rw [hd] at z; cases z⟩
  keep := by
    rintro i h h' ⟨⟨old, he⟩, ht, hn⟩ k
    exact ⟨⟨old, k _ List.mem_cons_self _ he⟩, ht.at (k it (List.mem_cons_of_mem _ (List.mem_singleton.mpr rfl))), hn⟩
  item := by
    rintro X rfl rfl rfl calm i pins s σ H E I hf st ⟨xs, x, hq, hx⟩
    have lts := st.lts
    obtain ⟨⟨old, he⟩, ht, hn⟩ := st
    obtain ⟨its, vals, tup, _⟩ := I.tuple hq
    obtain ⟨u, hu, ru⟩ := vals.get hx
    have hu' : its.toArray[i]? = some u := by
      rw [List.getElem?_toArray]
      exact hu
    have len : i < its.toArray.size := (Array.getElem?_eq_some_iff.mp hu').1
    refine (goesT (I.ok.hd calm) hn (enum_apart he ht tup)).goes i s _ _ len ⟨⟨old, he⟩, ht, tup⟩ fun v h' tk hY st' keep _ => ?_
    obtain ⟨T, t, y, rfl, nT, hy, hT⟩ := hY
    cases hu'.symm.trans hy
    have ok : ObjOk X.prog X.w (upd H T (.tup [.int (i : Nat), x])) h' T (.tup [.int (i : Nat), x]) :=
      ⟨by show 2 ≤ sizeLine; decide, [.int (0 + (i : Int)) t, u], .cons ⟨t, by rw [Int.zero_add]⟩ (.cons ru .nil), hT⟩
    refine ⟨.ref T, _, I.turnedNew keep hf nT ok, rfl, ⟨T, x, rfl, I.hok.fresh nT, rfl, fun ys hy => ?_⟩, ⟨st'.1, st'.2.1, hn⟩, fun b hb => ?_⟩
    · rw [I.tuple_inj hy hq]
      exact hx
    · rw [upd_ne (Nat.ne_of_lt (Nat.lt_of_lt_of_le (lts b hb) nT))]
      exact (hf b hb).1
  done := by
    rintro X rfl rfl rfl calm i pins s σ H E I hf ⟨⟨old, he⟩, ht, hn⟩ ⟨xs, hq, rfl⟩
    obtain ⟨its, vals, tup, _⟩ := I.tuple hq
    have sz : its.toArray.size = xs.length := by rw [List.size_toArray, vals.length]
    have g := goesT (prog := X.prog) (w := X.w) (elts := elts) (kk := kk) (tpos := tpos) (items := its.toArray) (I.ok.hd calm) hn (enum_apart he ht tup)
    refine g.stops s _ _ ⟨⟨old, by rw [sz]; exact he⟩, by rw [sz]; exact ht, tup⟩ fun h' tk keep _ => I.turnedL keep hf
  self := by
    rintro A i s Q E ⟨⟨old, he⟩, _⟩ q
    exact wpAny_pyIter_enum he q
/-- the object that enumerate makes over the iterator at i -/
abbrev enumOver (i : Addr) : Obj := { cls := .type "enumerate", data := .fields #[.none, .bool false, .ref i, rawInt 0, .none, .none] }
set_option maxHeartbeats 1200000 in
theorem enum_made {v : Value} {o : Obj} {C : Heap → Prop} (B : Begins v o C) : Meets (Builtin.«enumerate.__new__» ⟨[.type "enumerate", v], []⟩) (fun _ R s =>
    C s.heap ∧ R (.ok (.ret (.ref (s.heap.push o).objs.size))) { s with heap := (s.heap.push o).push (enumOver s.heap.objs.size) }) := by
  refine .of_wp fun prog w A R s ⟨c, h⟩ => ?_
  obtain ⟨hp, gs, dr, tk, os⟩ := s
  have sub := sub_enumerate
  have begun : ∀ {A' : Around} {E Q : Value → Shared → Prop}, Q (.ref hp.objs.size) ⟨hp.push o, gs, dr, tk, os⟩ → wpAny (model prog w) A' (pyIter v) Q E ⟨hp, gs, dr, tk, os⟩ := fun q => B.iter prog w _ _ _ _ c q
  wp_walk using begun
  refine wpAny_stack_any fun _ => ?_
  refine wpAny_pure ?_
  split
  · rename_i k _ _ _ _ _
    cases (k == Value.type "enumerate") <;> (wp_walk using begun; exact ⟨_, rfl, h⟩)
  · wp_walk using begun
    exact ⟨_, rfl, h⟩
theorem enum_call {prog : Program} {w : World} {A : Around} {E : Value → Shared → Prop} {s : Shared} {v : Value} {o : Obj} {C : Heap → Prop} (B : Begins v o C) (c : C s.heap) {Q : Value → Shared → Prop}
    (h : Q (.ref (s.heap.objs.size + 1)) { s with heap := (s.heap.push o).push (enumOver s.heap.objs.size) }) : wpAny (model prog w) A (call (.type "enumerate") [v]) Q E s := by
  have sz : (s.heap.push o).objs.size = s.heap.objs.size + 1 := Heap.size_push ..
  refine callType_new F.called_enumerate (by decide) (F.typeCall_enumerate_1 _) (F.newCall_enumerate_1 _)
    (fun obj => F.args_object_init_2 obj _) F.entry_enumerate_new (enum_made B) ⟨c, ?_⟩
  rw [← sz] at h
  refine ⟨?_, h⟩
  exact ⟨_, Heap.get?_push_size _ rfl, rfl⟩
def iEnumT (K : PySem.W.Frag) (ta : TA) : TI := fun σ H R => ta σ H fun vs H1 => ∃ a xs, vs = [.ref a] ∧ SqT K H1 a xs ∧ R (IteT K a) H1
theorem pi_enumT {X : Cx} {e : Expr} {ta : TA} {p pos tpos : Pos} {elts : List Expr} {kk : Nat} (hg : Gl X "enumerate") (hm : X.mg "enumerate" = none) (ha : PA X [e] ta) (one : starEach [e] X.env = [(false, eval e X.env)] := by rfl) :
    PI X (.Tuple elts kk tpos) (.Call (.Name "enumerate" p) [e] [] pos) (iEnumT X.K ta) := by
  constructor
  intro pins s σ H R I h
  refine Call_ (ld_blt I hg hm boot_enumerate (callWith_type1 (thn (ha.run pos pins s σ H _ I h) ?_) one rfl))
  rintro us s1 ⟨vs, H1, I1, r1, a, xs, rfl, hq, q⟩
  obtain ⟨u, rfl, (ru : u = .ref a)⟩ := vals1 r1
  subst ru
  obtain ⟨its, vals, tup, _⟩ := I1.tuple hq
  refine enum_call (begins_tuple a its.toArray) tup (wpAny_pyIter_enum (i := 0) (old := .none) (it := s1.heap.objs.size) ?_ ?_)
  all_goals have sz : (s1.heap.push { cls := .type "tuple_iterator", data := .fields #[.ref a, .int 0 0] }).objs.size = s1.heap.objs.size + 1 := Heap.size_push ..
  all_goals have get := Heap.get?_push_size (s1.heap.push { cls := .type "tuple_iterator", data := .fields #[.ref a, .int 0 0] }) (o := enumOver s1.heap.objs.size) rfl
  all_goals rw [sz] at get
  · exact get
  · have I2 : Inv X pins σ H1 { s1 with heap := (s1.heap.push { cls := .type "tuple_iterator", data := .fields #[.ref a, .int 0 0] }).push (enumOver s1.heap.objs.size) } :=
      I1.kept (t' := s1.toks) fun b ob k => Heap.get?_push_of_some _ (Heap.get?_push_of_some _ k)
    refine ⟨s1.heap.objs.size + 1, [s1.heap.objs.size + 1, s1.heap.objs.size], _, _, H1, rfl, I2, turn_enumT a _ s1.heap.objs.size, ⟨⟨.none, get⟩, ⟨_, Heap.get?_push_of_some _ (Heap.get?_push_size _ rfl), rfl, rfl⟩, Nat.succ_ne_self _⟩, fun b hb => ?_, q⟩
    have above : s1.heap.objs.size ≤ b := by
      rcases (List.mem_cons.mp hb : b = s1.heap.objs.size + 1 ∨ _) with rfl | m
      · exact Nat.le_succ _
      · exact Nat.le_of_eq (List.mem_singleton.mp m).symm
    exact I1.fpOk above (I1.hok.fresh above)
theorem walk_enumT {K : PySem.W.Frag} {a : Addr} {xs : List V} : Walk (IteT K a) xs.length (fun H => SqT K H a xs) (YPair (fun i => some (.int (i : Nat))) (fun i => xs[i]?)) where
  goes := fun i _ hi q => ⟨xs, _, q, List.getElem?_eq_getElem hi⟩
  stops := fun _ q => ⟨xs, q, rfl⟩
  yields := by
    rintro i H v H' _ q ⟨T, x, e1, e2, e3, e4⟩
    exact ⟨T, _, x, e1, e2, e3, rfl, e4 xs q⟩

/-! ### a pair turned by its step: t[::k], k one or minus one -/
section
variable {prog : Program} {w : World} {A : Around} {s : Shared} {E : Value → Shared → Prop}
/-- the slice object [::k] applied to n items -/
theorem applied_stp {sl : Addr} {vs : Value} {k : Int} {n : Nat} {Q : Int × Int × Nat → Shared → Prop} (hs : s.heap.IsSliceOf sl .none .none vs) (ps : IsPart vs (some k)) (h0 : ¬ (k == 0) = true)
    (h : Q ((Builtin.Slice.sliceAdjust none none k (n : Int)).1, k, Builtin.Slice.slicePlaces (Builtin.Slice.sliceAdjust none none k (n : Int)).1 (Builtin.Slice.sliceAdjust none none k (n : Int)).2 k) s) : wpAny (model prog w) A (Builtin.Slice.sliceApplied (.ref sl) (pure (n : Int))) Q E s := by
  obtain ⟨so, hso, _, dso⟩ := id hs
  delta Builtin.Slice.sliceApplied Builtin.Slice.sliceFields
  have read : ∀ {j : Nat} {y : Value} {α : Type} {f : Value → Sem α} {R : α → Shared → Prop}, #[Value.none, Value.none, vs][j]? = some y → wpAny (model prog w) A (f y) R E s → wpAny (model prog w) A (field (.ref sl) j >>= f) R E s := fun e q => wpAny_bind (wpAny_field hso dso e q)
  refine wpAny_bind (read rfl (read rfl (read rfl (wpAny_pure ?_))))
  refine wpAny_bind (HT.slicePart_ ps ?_)
  show wpAny _ _ (if (k == 0) = true then _ else _) _ _ s
  rw [if_neg h0]
  exact wpAny_bind (HT.slicePart_ .none (wpAny_bind (HT.slicePart_ .none (wpAny_bind (wpAny_pure (wpAny_pure h))))))
theorem pair_stp {t sl : Addr} {x y : Value} {vs : Value} {k : Int} {Q : Value → Shared → Prop} (ht : IsTup s.heap t #[x, y]) (hs : s.heap.IsSliceOf sl .none .none vs) (ps : IsPart vs (some k))
    (h : (k = 1 ∧ Q (.ref t) s) ∨ (k = -1 ∧ Q (.ref s.heap.objs.size) { s with heap := s.heap.push { cls := .type "tuple", data := .seq #[y, x] } })) : wpAny (model prog w) A (getItem (.ref t) (.ref sl)) Q E s := by
  have isS : s.TypeIs (.ref sl) "slice" := let ⟨so, a, b, _⟩ := id hs; ⟨so, a, b⟩
  unfold getItem
  refine wpAny_holding (wpAny_bind (wpAny_sequenceKey ht.typeIs (by decide) (wpAny_bind ?_)))
  refine wpAny_callSpecial?_slot (name := Str.ofString "__getitem__") ht.typeIs slot_tuple_getitem ?_
  refine wpAny_call_entry slot_tuple_getitem ht.typeIs entry_tuple_getitem ?_ (args_tuple_getitem _ _)
  show wpAny _ _ (Builtin.Tuple.tupleItemsOf _ >>= _) _ _ s
  refine wpAny_bind (tupleItemsOf_ ht (wpAny_bind (wpAny_typeOf isS ?_)))
  rw [if_pos (by decide)]
  rcases h with ⟨rfl, h⟩ | ⟨rfl, h⟩ <;> refine wpAny_bind (applied_stp (n := 2) hs ps (by decide) ?_)
  · show wpAny _ _ (if (((0 : Int) == 0 && (1 : Int) == 1 && (2 : Nat) == 2) = true) then _ else _) _ _ s
    rw [if_pos (by decide)]
    have whole : wpAny (model prog w) A.in1 (Builtin.Tuple.tupleIsExact (.ref t)) (fun b s' => b = true ∧ s' = s) (fun _ _ => False) s := by
      show wpAny _ _ (typeOf (.ref t) >>= _) _ _ s
      exact wpAny_bind (wpAny_typeOf ht.typeIs (wpAny_pure ⟨by decide, rfl⟩))
    refine wpAny_bind (wpAny_mono whole ?_ fun _ _ z => z.elim)
    rintro b s' ⟨rfl, rfl⟩
    rw [if_pos rfl]
    first | exact wpAny_bind (wpAny_rule (wpAny_pure ⟨_, rfl, wpAny_pure h⟩)) | exact wpAny_bind (wpAny_rule (wpAny_bind (wpAny_pure (wpAny_pure ⟨_, rfl, wpAny_pure h⟩))))
  · show wpAny _ _ (if (((1 : Int) == 0 && (-1 : Int) == 1 && (2 : Nat) == 2) = true) then _ else _) _ _ s
    rw [if_neg (by decide)]
    have sz : sizeOk (.seq #[y, x]) := by show 2 ≤ sizeLine; decide
    first
      | exact wpAny_bind (m := Builtin.Tuple.tupleExact #[y, x]) (wpAny_newObj_type (wpAny_pure ⟨_, rfl, wpAny_pure h⟩) sz)
      | exact wpAny_bind (m := Builtin.Tuple.tupleExact #[y, x]) (wpAny_newObj_type (wpAny_bind (wpAny_pure (wpAny_pure ⟨_, rfl, wpAny_pure h⟩))) sz)
      | exact wpAny_bind (wpAny_bind (m := Builtin.Tuple.tupleExact #[y, x]) (wpAny_newObj_type (wpAny_pure (wpAny_pure ⟨_, rfl, wpAny_pure h⟩)) sz))
      | exact wpAny_bind (wpAny_bind (m := Builtin.Tuple.tupleExact #[y, x]) (wpAny_newObj_type (wpAny_pure ⟨_, rfl, wpAny_pure h⟩) sz))
end
def tStp (K : PySem.W.Frag) (te tk : TE) : TE := fun σ H Q => te σ H fun x H1 => tk σ H1 fun z H2 => ∃ a u v, x = .ref a ∧ SqT K H2 a [u, v] ∧ ((z = .int 1 ∧ Q (.ref a) H2) ∨ (z = .int (-1) ∧ ∀ p, H2 p = none → Q (.ref p) (upd H2 p (.tup [v, u]))))
theorem no_part {X : Cx} {pins : List (Addr × Obj)} {σ : St} {H : Hp} {s : Shared} {Q : Value → Shared → Prop} (I : Inv X pins σ H s) (h : Q .none s) : wpAny (model X.prog X.w) X.A (evalPart none X.env) Q X.xe s := by
  rw [evalPart_none]
  exact wpAny_pure h
theorem pe_stp {X : Cx} {e st : Expr} {te tk : TE} {p3 pos : Pos} (he : PE X e te) (hk : PE X st tk) (hp : ∀ o i, subscripted (.Slice none none (some st) p3) false o i = operate [o, i] (getItem o i) := by intro _ _; rfl) : PE X (.Subscript e (.Slice none none (some st) p3) pos) (tStp X.K te tk) := by
  constructor
  intro pins s σ H Q I h
  refine Subscript_ (thn (he.run pins s σ H _ I h) ?_)
  rintro v s1 ⟨x, H1, I1, r1, q1⟩
  refine wpAny_Slice (no_part I1 (no_part I1 ?_))
  rw [evalPart_some]
  refine thn (hk.run pins s1 σ H1 _ I1 q1) ?_
  rintro vs s2 ⟨z, H2, I2, rz, a, y1, y2, rfl, hx, q⟩
  obtain rfl : v = .ref a := r1
  have I3 : Inv X pins σ H2 { s2 with heap := s2.heap.push { cls := .type "slice", data := .fields #[.none, .none, vs] } } := I2.kept (t' := s2.toks) fun b ob k => Heap.get?_push_of_some _ k
  obtain ⟨its, r, ht, _⟩ := I3.tuple hx
  obtain ⟨w1, w2, rfl, rw1, rw2⟩ := vals2 r
  have isS := Heap.IsSliceOf.new s2.heap .none .none vs
  have isT : Shared.TypeIs { s2 with heap := s2.heap.push { cls := .type "slice", data := .fields #[.none, .none, vs] } } (.ref a) "tuple" := ht.typeIs
  rcases q with ⟨rfl, q⟩ | ⟨rfl, q⟩ <;> obtain ⟨t, rfl⟩ := rz
  · exact tail_any isT slot_tuple_getitem.lookup (pair_stp ht isS (.int 1 t) (.inl ⟨rfl, .ref a, H2, I3, rfl, q⟩)) (hp _ _)
  · have laid := I3.laid (t' := s2.toks) (o := .tup [y2, y1]) (fun b ob k => Heap.get?_push_of_some { cls := .type "tuple", data := .seq #[w2, w1] } k) (Nat.le_refl _) ⟨by show 2 ≤ sizeLine; decide, [w2, w1], .cons rw2 (.cons rw1 .nil), IsTup.new _ _⟩
    exact tail_any isT slot_tuple_getitem.lookup (pair_stp ht isS (.int (-1) t) (.inr ⟨rfl, .ref _, _, laid, rfl, q _ (I3.hok.fresh (Nat.le_refl _))⟩)) (hp _ _)

/-! ### set(list of ints), k not in it -/
def rSetI (K : PySem.W.Frag) : List V → Hp → VK → Prop := fun xs H Q => ∃ (a : Addr) (ns : List Int), xs = [.ref a] ∧ SqL K H a (ns.map V.int) ∧ ns.length + 1 < scanBound ∧ ∀ p S n, H p = none → (∀ k, S k = decide (k ∈ ns)) → Q (.ref p) (upd H p (.set S n))
theorem getD_any (k : Int) : ∀ ns : List Int, (((List.range ns.length).map fun i => ns.getD i 0).any (· == k)) = decide (k ∈ ns) := by
  intro ns
  have e : ((List.range ns.length).map fun i => ns.getD i 0) = ns := by
    apply List.ext_getElem?
    intro i
    rw [List.getElem?_map]
    by_cases h : i < ns.length
    · rw [List.getElem?_range h, List.getElem?_eq_getElem h]
      simp [List.getD_eq_getElem?_getD, List.getElem?_eq_getElem h]
    · rw [List.getElem?_eq_none (by simpa using Nat.le_of_not_lt h), List.getElem?_eq_none (Nat.le_of_not_lt h)]
      rfl
  rw [e]
  by_cases h : k ∈ ns
  · rw [decide_eq_true h]
    exact List.any_eq_true.mpr ⟨k, h, beq_self_eq_true k⟩
  · rw [decide_eq_false h]
    refine List.any_eq_false.mpr fun x hx hb => h ?_
    rw [← eq_of_beq hb]
    exact hx
theorem cr_setI {X : Cx} (hc : X.calm = true) : CallR X (.type "set") (rSetI X.K) := by
  rintro pins s σ H xs us Q I r ⟨a, ns, rfl, hs, hn, q⟩
  obtain ⟨u, rfl, (ru : u = .ref a)⟩ := vals1 r
  subst ru
  obtain ⟨its, rv, hl, few⟩ := I.list hs
  have len : its.length = ns.length := by rw [← rv.length, List.length_map]
  refine call_set_list (I.ok.hd hc) hl.isList (intsAre_of rv) (by rw [List.size_toArray, len]; exact hn) fun h' tk hS hk => ?_
  have laid := I.laid (t' := tk) (o := .set _ _) (fun b o e => hk b o (Heap.lt_size e) e) (Nat.le_refl _) hS
  refine ⟨.ref _, _, laid, rfl, q _ _ _ (I.hok.fresh (Nat.le_refl _)) fun k => ?_⟩
  rw [firstMet_any, List.size_toArray, len]
  exact getD_any k ns
def rSNotI : V → V → Hp → VK → Prop := fun x y H Q => ∃ k a S n, x = V.int k ∧ y = V.ref a ∧ H a = some (.set S n) ∧ Q (.bl (!S k)) H
theorem op_notset {X : Cx} : OpR X (compareOp .NotIn) rSNotI := by
  rintro pins s σ H x y v u Q I rx ry ⟨k, a, S, n, rfl, rfl, ha, q⟩
  obtain ⟨tk, rfl⟩ := rx
  obtain rfl : u = .ref a := ry
  have at_a : s.heap.SetOf (intKind X.prog X.w) a S n := I.hok a _ ha
  exact wpAny_notInSet_of (intKind_is _ _ _ _) rfl at_a ⟨.bl (!S k), H, I.tok _, rfl, q⟩

/-! a def that the top holds; what a caller uses of it -/
def Def (K : PySem.W.Frag) (mg : Str → Option Value) (x : Str) (st : Stmt) : Prop := ∃ (f : Addr) (fd : FuncData), Fun K x x st f fd ∧ mg x = some (.ref f)
def Cal (P : Program) (w : World) (K : PySem.W.Frag) (mg : Str → Option Value) (base : Heap) (x : Str) (ps : List Str) (k : Nat) (sp : Sp) : Prop :=
  ∃ (f : Addr) (fd : FuncData), mg x = some (.ref f) ∧ PySem.W.keepIn K (.ref f) = true ∧ Binds K fd ps [] ∧ FnOk P w K mg base CX0 k f fd ps sp
theorem Def.ok {P : Program} {w : World} {K : PySem.W.Frag} {mg : Str → Option Value} {base : Heap} {x : Str} {st : Stmt} {N ps : List Str} {k : Nat} {sp : Sp} (D : Def K mg x st) (S : FnScope N ps (defScope st))
    (hb : ∀ (kV doc pm : Value) (an : Option Addr) (cdv ct : Value) (us : List Value), us.length = ps.length → bindArgs (PySem.W.fnOf x x (defArgs st) (defBody st) (defScope st) .none kV doc pm an cdv ct) ⟨us, []⟩ = pure (ps.zip us))
    (ar : ∀ vs H Q E, sp vs H Q E → vs.length = ps.length)
    (hbody : ∀ (f : Addr) (cdv : Value) (A : Around) (outer : List Env) (s : Shared) (H : Hp) (vs : List V) (Q : VK) (E : XK), Room k (A.deeper (envOfC x (defScope st) s.heap.objs.size f cdv)) → sp vs H Q E →
      ∃ t, PSs (cxOf CX0 P w K mg base N x (defScope st) f cdv A outer s H E).nox (defBody st) t ∧ t { nx := fun _ H' => Q .non H', rt := Q } (start N vs) H) : Cal P w K mg base x ps (k + 1) sp := by
  obtain ⟨f, fd, F, m⟩ := D
  exact ⟨f, fd, m, F.kp, F.binds hb, F.ok S ar fun cdv A outer s H vs Q E hr h => hbody f cdv A outer s H vs Q E hr h⟩

/-! heaps -/
/-- all but what stands at a is as it was -/
def But (a : Addr) (H H' : Hp) : Prop := ∀ b o, b ≠ a → H b = some o → H' b = some o
theorem Same.but {a : Addr} {H H' : Hp} (s : Same H H') : But a H H' := fun b o _ e => s b o e
theorem But.trans {a : Addr} {H H1 H2 : Hp} (x : But a H H1) (y : But a H1 H2) : But a H H2 := fun b o n e => y b o n (x b o n e)
theorem Same.upd {H : Hp} {p : Addr} {o : HO} (h : H p = none) : Same H (upd H p o) := fun b x e => by
  rw [upd_ne (ne_of_none e h)]
  exact e
theorem But.upd {a : Addr} {H H' : Hp} (x : But a H H') (o : HO) : But a H (upd H' a o) := fun b u n e => by
  rw [upd_ne n]
  exact x b u n e
/-- what is new at p may change: all that stood in H stands -/
theorem Same.at {H H' : Hp} {p : Addr} {o : HO} (s : Same H H') (h : H p = none) : Same H (L2.upd H' p o) := fun b x e => by
  rw [upd_ne (ne_of_none e h)]
  exact s b x e
theorem But.same {a : Addr} {H0 H H' : Hp} (s : Same H0 H) (n : H0 a = none) (b : But a H H') : Same H0 H' := fun c o e => b c o (ne_of_none e n) (s c o e)
theorem Same.tup {K : PySem.W.Frag} {H H' : Hp} {a : Addr} {xs : List V} (e : Same H H') (h : SqT K H a xs) : SqT K H' a xs := by
  rcases h with (z | ⟨o, z⟩) | z
  · exact .inl (.inl (e _ _ z))
  · exact .inl (.inr ⟨o, e a _ z⟩)
  · exact .inr z
theorem But.tup {K : PySem.W.Frag} {H H' : Hp} {g a : Addr} {xs ys : List V} (e : But g H H') (hg : H g = some (.lst ys)) (h : SqT K H a xs) : SqT K H' a xs := by
  rcases h with (z | ⟨o, z⟩) | z
  · exact .inl (.inl (e _ _ (ne_of z hg (by intro q; cases q)) z))
  · exact .inl (.inr ⟨o, e _ _ (ne_of z hg (by intro q; cases q)) z⟩)
  · exact .inr z
theorem ref_same {H H' : Hp} {a : Addr} {o : HO} (s : Same H H') (h : H a = some o) : H' a = some o := s _ _ h
end L2

/-! own rules: an error that a clause has caught and a local keeps behind the clause; its fields, isinstance of it by its own class -/
namespace L2
open PySem PySem.Spec PyProof.Rows
/-- a caught error, kept: its class, its own dict's address -/
def exk (a : Addr) (cls : Value) (d : Option Addr) : HO :=
  .ext fun g => ∃ ob fs, g.get? a = some ob ∧ Zc cls d ob ∧ ob.data = Data.fields fs
theorem exk_ok {P : Program} {w : World} {H : Hp} {g : Heap} {a : Addr} {cls : Value} {d : Option Addr} {ob : Obj} {fs : Array Value} (e : g.get? a = some ob) (z : Zc cls d ob) (f : ob.data = Data.fields fs) : ObjOk P w H g a (exk a cls d) := by
  refine ⟨⟨ob, fs, e, z, f⟩, ⟨ob, e⟩, ?_⟩
  rintro g1 g2 ⟨ob1, fs1, e1, z1, f1⟩ st
  exact ⟨ob1, fs1, st ob1 e1, z1, f1⟩
theorem exk_at {P : Program} {w : World} {H : Hp} {g : Heap} {a : Addr} {cls : Value} {d : Option Addr} (ok : HOk P w H g) (e : H a = some (exk a cls d)) : ∃ ob fs, g.get? a = some ob ∧ Zc cls d ob ∧ ob.data = Data.fields fs := by
  have z : ObjOk P w H g a (.ext _) := ok a _ e
  exact z.1
section
variable {X : Cx} {H : Hp} {s : Shared} {pins : List (Addr × Obj)} {σ : St}
/-- behind the clause the error is an object of the heap as any other -/
theorem Inv.regain {a : Addr} {cls : Value} {d : Option Addr} {ob : Obj} {fs : Array Value} (I : Inv X pins σ H s) (e : s.heap.get? a = some ob) (z : Zc cls d ob) (f : ob.data = Data.fields fs) (n0 : X.s_0.heap.get? a = none)
    (nl : a ≠ X.env.locals) (np : ∀ p ∈ X.pn ++ pins, p.1 ≠ a) (na : H a = none) : Inv X pins σ (upd H a (exk a cls d)) s where
  ok := I.ok
  os := I.os
  bare := I.bare
  base :=
    { keep := I.base.keep
      slot := I.base.slot
      free := fun b o q n x => by
        have ne : b ≠ a := fun y => by rw [y, n0] at q; cases q
        rw [upd_ne ne]
        exact I.base.free b o q n x
      there := I.base.there
      tups := fun b xs q => by
        have q1 := I.base.tups b xs q
        rw [upd_ne (ne_of_none q1 na)]
        exact q1
      frzs := fun b o u q => by
        have q1 := I.base.frzs b o u q
        rw [upd_ne (ne_of_none q1 na)]
        exact q1
      tbls := fun b ps q => by
        obtain ⟨m, q1⟩ := I.base.tbls b ps q
        rw [upd_ne (ne_of_none q1 na)]
        exact ⟨m, q1⟩ }
  loc := I.loc
  cell := I.cell
  free := by
    rw [upd_ne (Ne.symm nl)]
    exact I.free
  freeC := fun x c q => by
    have ne : c ≠ a := fun y => by
      obtain ⟨v, o, q1, q2⟩ := I.cell x c q
      rw [y, e] at q1
      cases q1
      rw [f] at q2
      exact nomatch q2
    rw [upd_ne ne]
    exact I.freeC x c q
  pin := fun p hp => by
    obtain ⟨q1, q2, q3⟩ := I.pin p hp
    rw [upd_ne (np p hp)]
    exact ⟨q1, q2, q3⟩
  hok := fun b o q => by
    by_cases y : b = a
    · subst y
      rw [upd_same] at q
      cases q
      exact exk_ok e z f
    · rw [upd_ne y] at q
      refine (I.hok b o q).stay (fun _ _ _ r => r) (fun c r => ?_) fun c xs r => ?_
      · rw [upd_ne (ne_of_none r na)]
        exact r
      · rw [upd_ne (ne_of_none r na)]
        exact r
  len := I.len
/-- the wish of the clause 'except x as n', the error kept -/
def wKeep (K : PySem.W.Frag) (c : Value) (i : Nat) (ts : Addr → Value → Option Addr → TS) (Wout : WX) (D : Ends) : WX := fun cls d σ H =>
  ∃ y, PySem.W.exmOne K cls c = some y ∧ (y = false → Wout cls d σ H) ∧ (y = true → ∀ a, H a = none →
    ts a cls d ⟨fun σ1 H1 => D.nx (σ1.set i none) (upd H1 a (exk a cls d)), fun v H1 => D.rt v (upd H1 a (exk a cls d)), fun σ1 H1 => D.bk (σ1.set i none) (upd H1 a (exk a cls d)), fun σ1 H1 => D.ct (σ1.set i none) (upd H1 a (exk a cls d))⟩ (σ.set i (some (.ref a))) H)

variable {x n : Str} {c : Value} {i : Nat} {work suite : List Stmt} {st0 : Stmt} {np q1 q2 : Pos} {tw : WX → TS} {ts : Addr → Value → Option Addr → TS} {Wout : WX}
/-- try: work / except x as n: suite, the error kept behind it -/
theorem ps_try_keep (e1 : X.stack = X.env :: X.outer) (e2 : X.env.frame = some X.env.locals) (e3 : X.ex = []) (nd : X.N.Nodup) (ni : X.N[i]? = some n) (nk : X.env.kindOf n = some .local) (nm : Names X x c) (tk : Takes X Wout)
    (W1 : ∀ (W : WX) (pn : List (Addr × Obj)) (xe : Value → Shared → Prop), Takes (X.tr pn xe) W → PassesOwn (model X.prog X.w) X.A X.env xe → PSs (X.tr pn xe) work (tw W))
    (W2 : ∀ (a : Addr) (ob : Obj) (cls : Value) (d : Option Addr) (pn : List (Addr × Obj)), Zc cls d ob → (∃ fs, ob.data = .fields fs) → PSs (X.suite a ((a, ob) :: pn)) (st0 :: suite) (ts a cls d)) :
    PS X (.Try work [.ExceptHandler (some (.Name x np)) (some n) (st0 :: suite) q1] [] [] q2) (fun D σ H => tw (wKeep X.K c i ts Wout D) D σ H) := by
  constructor
  intro pins s σ H D I h
  have ok := I.ok
  have frm : X.A.frames = some (X.env :: X.outer) := ok.frames.trans (congrArg some e1)
  apply wpAny_Try_except
  have caught : ∀ (xe0 : Value → Shared → Prop) (er : Value) (s9 : Shared), XE (X.tr (X.pn ++ pins) xe0) (wKeep X.K c i ts Wout D) er s9 →
      wpAny (model X.prog X.w) X.A (noteFrame er X.env) (fun _ s₂ => wpAny (model X.prog X.w) X.A (setFlight er none) (fun _ s₃ =>
        wpAny (model X.prog X.w) X.A (handleBy er X.env [.ExceptHandler (some (.Name x np)) (some n) (st0 :: suite) q1]) (SP X pins D) X.xe s₃) X.xe s₂) X.xe s9 := by
    rintro xe0 er s9 ⟨a, B, sI, pins1, σ1, H1, cls, d, rfl, J0, nb, up, sky, na, os, ag, y, ey, no, yes⟩
    have J1 : Inv X pins σ1 H1 sI := J0.ofTry ok
    have sky1 : Sky B (X.env :: X.outer) a (Zc cls d) X.env.locals s9.heap := e1 ▸ sky
    refine Sky.land Zc.steady frm e2 sky1 fun g3 fl3 up3 => ?_
    have J3 : Inv X pins σ1 H1 { s9 with heap := g3 } := J1.landed nb fl3.1 (up.trans up3) os ag
    obtain ⟨ob3, fs3, at3, z3, d3⟩ := fl3.there
    have off : ∀ {g : Heap} {ob : Obj} {fs : Array Value}, g.FunFrames B (X.env :: X.outer) → g.get? a = some ob → ob.data = Data.fields fs → a ∉ frs (X.env :: X.outer) := by
      intro g ob fs ff q r m
      obtain ⟨_, o1, r1, r2⟩ := ff.mem m
      rw [q] at r1
      cases r1
      exact r2 _ r
    have n1 := off fl3.2.2.1 at3 d3
    have nL : a ≠ X.env.locals := by
      intro y
      refine n1 (List.mem_filterMap.mpr ⟨X.env, List.mem_cons_self, ?_⟩)
      rw [e2, y]
    have nF : a ∉ X.fs := by
      intro m
      obtain ⟨v, m1, m2⟩ := List.mem_filterMap.mp m
      exact n1 (List.mem_filterMap.mpr ⟨v, List.mem_cons_of_mem _ m1, m2⟩)
    -- the error is new: it stood neither in the state at the raise nor at the def's start
    have nI : sI.heap.get? a = none := by
      cases q : sI.heap.get? a with
      | none => rfl
      | some o =>
        have r := nb a o q (by rw [e1]; exact n1)
        rw [fl3.2.1] at r
        cases r
    have unborn : X.s_0.heap.get? a = none := by
      cases q : X.s_0.heap.get? a with
      | none => rfl
      | some o =>
        obtain ⟨o1, r⟩ := J1.base.there a o q (by rw [e3]; simp)
        rw [nI] at r
        cases r
    have nP : ∀ p ∈ X.pn ++ pins, p.1 ≠ a := by
      intro p m y
      obtain ⟨r, _⟩ := J1.pin p m
      rw [y, nI] at r
      cases r
    have S3 := J3.suite at3 d3 na nL nF
    refine wpAny_handleBy_cons (codeAny_handlers_test ?_) (fun q => by cases q)
    have lt : PySem.W.Looks (model X.prog X.w) g3 (typeOf (.ref a)) cls := by
      intro A Q E sx k q
      refine wpAny_typeOf_ref (k _ _ at3) ?_
      rw [z3.1]
      exact q
    have lm := PySem.W.exm_one (M := model X.prog X.w) J3.kIn lt ey
    have named : ∀ {Q : Value → Shared → Prop} {E : Value → Shared → Prop}, Q c { s9 with heap := g3 } → wpAny (model X.prog X.w) (X.A.mark (some (.ref a))) (eval (.Name x np) X.env) Q E { s9 with heap := g3 } := by
      intro Q E q
      obtain ⟨m1, m2, m3⟩ := nm
      rcases m3 with m3 | ⟨m3, m4, m5⟩
      · exact ld_glob (X := X.suite a ((a, ob3) :: (X.pn ++ pins))) S3 m1 m3 q m2
      · exact ld_blt (X := X.suite a ((a, ob3) :: (X.pn ++ pins))) S3 m1 m3 m4 q m5 m2
    apply named
    apply lm.here
    cases y with
    | true =>
      apply codeAny_handlers_suite_as
      refine HandSPX.lands_againZ fl3 fun g4 fl4 up4 => ?_
      have J4 : Inv X pins σ1 H1 { s9 with heap := g4 } := J1.landed nb fl4.1 ((up.trans up3).trans up4) os ag
      obtain ⟨ob4, fs4, at4, z4, d4⟩ := fl4.there
      have S4 := J4.suite at4 d4 na nL nF
      refine store_ok (X := X.suite a ((a, ob4) :: (X.pn ++ pins))) (v := .ref a) S4 nd ni (.inl nk) rfl (fun s5 S5 => ?_) (.inr nk)
      refine wpAny_mono ((W2 a ob4 cls d (X.pn ++ pins) z4 ⟨_, d4⟩).run [] s5 _ H1 _ S5 (yes rfl a na)) (fun f s6 sp6 => ?_) (fun _ _ z => z.elim)
      have past : ∀ {σ6 : St} {H6 : Hp} {G : Shared → Prop}, Inv (X.suite a ((a, ob4) :: (X.pn ++ pins))) [] σ6 H6 s6 → (∀ s7, Inv X pins (σ6.set i none) (upd H6 a (exk a cls d)) s7 → G s7) →
          wpAny (model X.prog X.w) X.A (do bindName X.env n .none; unbindBehindTheSuite X.env n q1) (fun _ s7 => G s7) X.xe s6 := by
        intro σ6 H6 G S6 g
        obtain ⟨p1, p2, _⟩ := S6.pin (a, ob4) (List.mem_append_left _ List.mem_cons_self)
        exact gone_ok ((S6.unsuite ok).regain p1 z4 d4 unborn nL nP p2) nd ni nk g
      cases f with
      | next =>
        obtain ⟨σ6, H6, S6, r⟩ := sp6
        exact past S6 fun s7 J7 => ⟨_, _, J7, r⟩
      | brk =>
        obtain ⟨σ6, H6, S6, r⟩ := sp6
        exact past S6 fun s7 J7 => ⟨_, _, J7, r⟩
      | cont =>
        obtain ⟨σ6, H6, S6, r⟩ := sp6
        exact past S6 fun s7 J7 => ⟨_, _, J7, r⟩
      | ret u =>
        obtain ⟨v6, σ6, H6, S6, rr, r⟩ := sp6
        exact past S6 fun s7 J7 => ⟨_, _, _, J7, rr, r⟩
    | false =>
      change wpAny _ X.A (handleBy (.ref a) X.env []) _ _ _
      apply wpAny_handleBy_nil
      obtain ⟨_, _, _, ob, fs, T, oT, ts', at_e, z_e, d_e, f_e, r_e⟩ := id fl3
      unfold PySem.passOn
      refine wpAny_bind (wpAny_field at_e d_e f_e ?_)
      rw [if_neg (by simp)]
      have onward : wpAny (model X.prog X.w) X.A (setFlight (.ref a) X.env.frame) (fun _ s4 => wpAny (model X.prog X.w) X.A (throw (.ref a) : Sem Flow) (SP X pins D) X.xe s4) X.xe { s9 with heap := g3 } := by
        rw [e2]
        refine HandSPX.setFlight_upZ fl3 fun g4 hh4 up4 => wpAny_throw (tk _ _ ⟨a, B, sI, pins, σ1, H1, cls, d, rfl, J1, nb, (up.trans up3).trans up4, .inr (.inr ?_), na, os, ag, no rfl⟩)
        rw [e1]
        exact hh4
      first
        | exact wpAny_bind (wpAny_pure (wpAny_bind onward))
        | exact wpAny_bind onward
  refine wpAny_mono ((W1 (wKeep X.K c i ts Wout D) (X.pn ++ pins) _ (fun u s9 xx => caught _ u s9 xx) PassesOwn.looking).run [] s σ H D (I.toTry _) h) (fun f s9 sp => ?_) (fun e s9 he => he)
  cases f with
  | next =>
    obtain ⟨σ1, H1, J1, q⟩ := sp
    exact wpAny_execs_nil ⟨σ1, H1, J1.ofTry ok, q⟩
  | brk =>
    obtain ⟨σ1, H1, J1, q⟩ := sp
    exact ⟨σ1, H1, J1.ofTry ok, q⟩
  | cont =>
    obtain ⟨σ1, H1, J1, q⟩ := sp
    exact ⟨σ1, H1, J1.ofTry ok, q⟩
  | ret u =>
    obtain ⟨v, σ1, H1, J1, r, q⟩ := sp
    exact ⟨v, σ1, H1, J1.ofTry ok, r, q⟩

/-- err.f, err a kept error of the class at C -/
def tKf (C : Addr) (f : Str) (te : TE) : TE := fun σ H Q => te σ H fun v H1 => ∃ (a d : Addr) (fs : List (Str × V)) (y : V), v = .ref a ∧ H1 a = some (exk a (.ref C) (some d)) ∧ H1 d = some (.xd fs) ∧ fs.lookup f = some y ∧ Q y H1
theorem pe_kf {C : Addr} {e : Expr} {te : TE} {pos : Pos} {f : Str} (T : XfC X.K C) (no : PySem.W.findIn X.K (.ref C) f = some none) (he : PE X e te) (hb : attributeBase e f X.env (eval e X.env) = eval e X.env := by rfl) : PE X (.Attribute e f pos) (tKf C f te) := by
  constructor
  intro pins s σ H Q I h
  refine attr_of hb (thn (he.run pins s σ H _ I h) ?_)
  rintro u s1 ⟨v, H1, I1, rv, a, d, fs, y, rfl, ha, hd, l, q⟩
  obtain rfl : u = Value.ref a := rv
  obtain ⟨ob, vs, g1, z, g2⟩ := exk_at I1.hok ha
  have od1 : ObjOk X.prog X.w H1 s1.heap d (.xd fs) := I1.hok d _ hd
  obtain ⟨m, ns, rl⟩ := od1
  obtain ⟨od, o1, o2⟩ := lookIn_ns ns
  have rl' := rl f
  rw [l] at rl'
  obtain ⟨u, hu, ru⟩ := RelO.some_of (v := y) (o := m f) rl'
  have J : PySem.W.InstAt s1.heap a ob C (some od) := by
    refine ⟨g1, z.1, ?_, ?_⟩
    · unfold PySem.W.notCls
      rw [g2] <;> rfl
    · rw [z.2]
      exact o1
  refine HandSPX.exc_get I1.kIn J T.ga T.gg T.exC (PySem.W.findObj_own T.hdC no rfl ?_) (handed_of ru) ⟨y, H1, I1.tok _, ru, q⟩
  rw [o2, hu]

/-- isinstance(err, C), err of just that class -/
def rIsK (C : Addr) : List V → Hp → VK → Prop := fun xs H Q => ∃ (a : Addr) (d : Option Addr), xs = [.ref a, .ref C] ∧ H a = some (exk a (.ref C) d) ∧ Q (.bl true) H
theorem answers_self {a : Addr} {c : Value} : Answers (fun s => ∃ ob, s.heap.get? a = some ob ∧ ob.cls = c) (.ref a) c true := by
  intro dep tk prog w A R s hs
  obtain ⟨g, g2, d, tt, os⟩ := s
  obtain ⟨⟨ob, e, z⟩, q⟩ := hs
  have lt : PySem.W.Looks (model prog w) g (typeOf (.ref a)) c := by
    intro A Q E sx k q
    refine wpAny_typeOf_ref (k _ _ e) ?_
    rw [z]
    exact q
  (unfold Builtin.«isinstance.nested»)
  refine wpAny_bind (lt.at ?_)
  rw [if_pos (beq_self_eq_true c)]
  first
    | exact wpAny_bind (wpAny_rule (q tt))
    | exact wpAny_bind (wpAny_rule (wpAny_pure (q tt)))
    | exact wpAny_pure (q tt)
theorem call_isK {C : Addr} : CallR X (.builtin "isinstance") (rIsK C) := by
  rintro pins s σ H xs us Q I r ⟨a, d, rfl, e, q⟩
  obtain ⟨y1, y2, rfl, ry1, ry2⟩ := vals2 r
  obtain rfl : y1 = Value.ref a := ry1
  obtain rfl : y2 = Value.ref C := ry2
  obtain ⟨ob, vs, g1, z, g2⟩ := exk_at I.hok e
  exact call_isinstance (S := fun _ R s => (∃ ob, s.heap.get? a = some ob ∧ ob.cls = .ref C) ∧ ∀ tk, R (.ok (.ret (.bool true))) { s with toks := tk })
    (fun prog w A R s hs => isinstance_outer (answers_self 0 _ prog w A R s hs) (fun z => nomatch z)) ⟨⟨ob, g1, z.1⟩, fun tk => ⟨.bl true, H, I.tok tk, rfl, q⟩⟩
end
end L2

/-! own rules: defs that are called while nothing is being shown (no guard stands), so that repr of nested data is its text -/
namespace L2
open PySem PySem.Spec PyProof.Rows
/-- a def's promise, told where no guard stands -/
structure FnG (P : Program) (w : World) (K : PySem.W.Frag) (mg : Str → Option Value) (base : Heap) (k : Nat) (f : Addr) (fd : FuncData) (ps : List Str) (sp : Sp) : Prop where
  ar : ∀ vs H Q E, sp vs H Q E → vs.length = ps.length
  go : ∀ (A : Around) (outer : List Env) (s : Shared) (H : Hp) (args : Args) (us : List Value) (vs : List V) (Q : VK) (E : XK), Room k A → A.guards = some [] → Env0 P w K mg base A outer s H → BindsTo s fd args (ps.zip us) → Vals vs us → sp vs H Q E →
    codeAny (model P w) A (.call (.ref f) args) (CR CX0 outer P w H s Q E) s
section
variable {P : Program} {w : World} {K : PySem.W.Frag}
      {mg : Str → Option Value} {base : Heap}
theorem Fun.okG {x qual : Str} {st : Stmt} {f : Addr} {fd : FuncData} {N ps : List Str} {k : Nat} {sp : Sp} (F : Fun K x qual st f fd) (S : FnScope N ps (defScope st)) (ar : ∀ vs H Q E, sp vs H Q E → vs.length = ps.length)
    (body : ∀ (cdv : Value) (A : Around) (outer : List Env) (s : Shared) (H : Hp) (vs : List V) (Q : VK) (E : XK), Room k (A.deeper (envOfC qual (defScope st) s.heap.objs.size f cdv)) → (A.deeper (envOfC qual (defScope st) s.heap.objs.size f cdv)).guards = some [] → sp vs H Q E →
      ∃ t, PSs (cxOf CX0 P w K mg base N qual (defScope st) f cdv A outer s H E).nox (defBody st) t ∧ t { nx := fun _ H' => Q .non H', rt := Q } (start N vs) H) : FnG P w K mg base (k + 1) f fd ps sp := by
  obtain ⟨oc, od, kV, doc, pm, an, cdv, ct, osl, rfl, at_f, code⟩ := F.ex
  refine ⟨ar, fun A outer s H args us vs Q E room quiet e0 bind rel h => ?_⟩
  have inK : K.In s.heap := e0.mod.kin.keeps fun b o e => (e0.bs b o e).1
  have noLim : s.heap.NoLimit := e0.mod.nolimit.keeps fun b o e => (e0.bs b o e).1
  have arity := ar _ _ _ _ h
  have kinds : ∀ y ∈ ps.zip us, (defScope st).names.lookup y.1 = some .local ∨ ((defScope st).names.lookup y.1 = some .cell ∧ ((cellsFrom (s.heap.objs.size + 1) (defScope st).names []).lookup y.1).isSome = true) := by
    rintro ⟨n, v⟩ hy
    rcases S.par n (List.of_mem_zip
          hy).1 with q | q
    · exact .inl q
    · exact .inr ⟨q, PySem.W.cellsFrom_some
          _ _ _ (.inl q)⟩
  refine codeAny_call_function room.depth (inK _ _ at_f) rfl S.co S.gen rfl (PySem.W.codeRec_of inK code) (bind _ _ _ _ ?_)
  refine wpAny_newFunctionEnv_cells S.kind kinds fun env same s1 made => ?_
  subst same
  refine ⟨noLim.keeps made.toInCall.keep, codeAny_func ?_⟩
  obtain ⟨t, der, rd⟩ := body cdv A outer s H vs Q E (room.deeper _) quiet h
  have I : Inv (cxOf CX0 P w K mg base N qual (defScope st) f cdv A outer s H E) [] (start N vs) H s1 := inv_start S room.hd e0 arity rel made
  refine wpAny_mono (der.nox.run [] s1 (start N vs) H _ I rd) (fun fl s2 z => ?_) fun _ _ z => z
  cases fl with
  | ret u =>
    obtain ⟨v, σ2, H2, J, rv, q⟩ := z
    exact ⟨v, H2, J.os, J.bare, J.base, J.hok, rv, q⟩
  | next =>
    obtain ⟨σ2, H2, J, q⟩ := z
    exact ⟨.non, H2, J.os, J.bare, J.base, J.hok, rfl, q⟩
  | brk =>
    obtain ⟨_, _, _, q⟩ := z
    exact q.elim
  | cont =>
    obtain ⟨_, _, _, q⟩ := z
    exact q.elim
/-- a call of such a def -/
theorem pe_callG {X : Cx} {k : Nat} {f : Addr} {fd : FuncData} {ps : List Str} {sp : Sp} {x : Str} {p pos : Pos} {e : Expr} {es : List Expr} {t : TA} (F : FnG X.prog X.w X.K X.mg X.base k f fd ps sp) (hr : Room k X.A) (hq : X.A.guards = some []) (hg : Gl X x) (hm : X.mg x = some (.ref f)) (hk : PySem.W.keepIn X.K (.ref f) = true)
    (hb : Binds X.K fd ps []) (ha : PA X (e :: es) t) (hdb : (x == ("__debug__" : Str)) = false := by decide) (he : starEach (e :: es) X.env = (false, eval e X.env) :: starEach es X.env := by rfl) (hpl : (backTo pos (starEach es X.env)).any (·.1) = false := by rfl) :
    PE X (.Call (.Name x p) (e :: es) [] pos) (tCall sp [] E0 t) := by
  constructor
  intro pins s σ H Q I h
  refine wpAny_Call_Name_kw
        (ld_glob I hg hm ?_ hdb)
  refine PySem.W.callWith_K (h₀ := X.base) I.ok.mod.kin hk (thn (ha.run pos pins s σ H _ I h) ?_) he hpl
  rintro us s1 ⟨vs, H1, I1, r, q⟩
  refine ⟨I1.kIn, ?_⟩
  have q' : sp vs H1 Q E0 := by
    have z : sp (vs ++ []) H1 Q E0 := q
    rwa [List.append_nil] at z
  have n : us.length = ps.length := by rw [← r.length]; exact F.ar _ _ _ _ q'
  have b := hb s1 us I1.kIn (by rw [List.append_nil]; exact n)
  rw [List.append_nil] at b
  refine wpAny_call (codeAny_mono (F.go X.A X.stack s1 H1 ⟨us, []⟩ us vs Q E0 hr hq I1.env0 b r q') fun res s2 z => ?_)
  cases res with
  | error er => exact (show False from z).elim
  | ok fl =>
    cases fl with
    | ret u => exact I1.after z
    | next => exact (show False from z).elim
    | brk => exact (show False from z).elim
    | cont => exact (show False from z).elim
/-- repr of nested data -/
def rRepD (K : PySem.W.Frag) : List V → Hp → VK → Prop := fun xs H Q => ∃ (a : Addr) (d : PyData), xs = [.ref a] ∧ Dp K H (.ref a) d ∧ d.showable = true ∧ d.hasDict = false ∧ d.depth ≤ 20 ∧ d.shown.length ≤ sizeLine ∧ Q (.str d.shown) H
theorem call_reprD {X : Cx} (hq : X.A.guards = some []) (hu : X.A.units + 64 < cLine) : CallR X (.builtin "repr") (rRepD X.K) := by
  rintro pins s σ H xs us Q I r ⟨a, d, rfl, dp, sh, nd, dep, sz, q⟩
  obtain ⟨u, rfl, (ru : u = .ref a)⟩ := vals1 r
  subst ru
  obtain ⟨as, rd⟩ := Dp.reads I d _ _ dp rfl
  refine repr_of_reads' rd sh (fun z => by rw [nd] at z; cases z) hq (by omega) (fun _ _ e => e) (fun h' u tk k => ?_) sz
  exact ⟨.str d.shown, H, I.kept k, ⟨u, rfl⟩, q⟩
/-- the law's own call -/
theorem law_callG {mb : Str → Option Value} {k : Nat} {fa a : Addr} {fd : FuncData} {x : Str} {sp : Sp} {s₁ : Shared} {vs : List Value} {ns : List Int} (inK : K.In s₁.heap) (glob : s₁.heap.Ns mainGlobals mg) (bi : s₁.heap.Ns builtinsNs mb) (bb : ∀ y : Str, y ≠ "__name__" → mb y = bootBuiltins y)
    (noLim : s₁.heap.NoLimit) (noGen : s₁.gens = #[]) (list : s₁.heap.get? a = some { cls := .type "list", data := .seq vs.toArray }) (wholes : IntsAre vs ns) (size : ns.length ≤ sizeLine) (room : Room k callerA)
    (F : ∀ base : Heap, K.In base → base.Ns mainGlobals mg → FnG P w K mg base k fa fd [x] sp) (bind : ∀ (s : Shared) (u : Value), BindsTo s fd ⟨[u], []⟩ [(x, u)]) (h : ∀ H : Hp, Only H → SqL K H a (ns.map V.int) → sp [.ref a] H (fun v _ => v = .bl true) fun _ _ _ => False) :
    codeAny (model P w) callerA (.call (.ref fa) ⟨[.ref a], []⟩) (fun r s' => r = .ok (.ret
          (.bool true)) ∧ OldK s₁.heap s'.heap ∧ s'.os = s₁.os ∧ AllBare s'.gens) s₁ := by
  have items := vals_ints wholes
  have few := wholes.length
  have main : ∀ H : Hp, Only H → SqL K H a (ns.map V.int) → HOk P w H s₁.heap → (∀ b u, H b = some u → b = a ∧ K.lookup a = none) →
      codeAny (model P w) callerA (.call (.ref fa) ⟨[.ref a], []⟩) (fun r s' => r = .ok (.ret
            (.bool true)) ∧ OldK s₁.heap s'.heap ∧ s'.os = s₁.os ∧ AllBare s'.gens) s₁ := by
    intro H only seq ok just
    have under : ∀ {b : Addr} {o : Obj}, s₁.heap.get? b = some o → H b = none → (hidT s₁.heap H).get? b = some o := fun e n => hidT_get e n
    have nsp : ∀ {b : Addr} {m : Str → Option Value}, s₁.heap.Ns b m → (hidT s₁.heap H).Ns b m := by
      rintro b m ⟨o, es, ep, e, d, r⟩
      refine ⟨o, es, ep, under e ?_, d, r⟩
      cases q : H b with
      | none => rfl
      | some u =>
        obtain ⟨rfl, _⟩ := just b u q
        rw [list] at e
        cases e
        exact nomatch (show Data.seq vs.toArray _ = Data.dict es ep from d)
    have inB : K.In (hidT s₁.heap H) := by
      intro b o e
      refine under (inK b o e) ?_
      cases q : H b with
      | none => rfl
      | some u =>
        obtain ⟨rfl, z⟩ := just b u q
        rw [z] at e
        cases e
    have modu : Mod K mg (hidT s₁.heap H) := by
      obtain ⟨mc, l1, l2⟩ := noLim
      exact ⟨inB, nsp glob, ⟨mb, nsp bi, bb⟩, ⟨mc, nsp l1, l2⟩⟩
    have e0 : Env0 P w K mg (hidT s₁.heap H) callerA [] s₁ H := ⟨rfl, modu, fun b o e => of_hidT e, Nat.le_of_eq (hidT_size _ _), trivial, fun b hb => absurd (show b ∈ ([] : List Addr) from hb) List.not_mem_nil, ok, .of_eq noGen⟩
    refine codeAny_mono ((F _ inB (nsp glob)).go callerA [] s₁ H ⟨[.ref a], []⟩ [.ref a] [.ref a] _ _ room rfl e0 (bind s₁ (.ref a)) (.cons rfl .nil) (h H only seq)) fun r s2 z => ?_
    cases r with
    | error e => exact (show False from z).elim
    | ok fl =>
      cases fl with
      | next => exact (show False from z).elim
      | brk => exact (show False from z).elim
      | cont => exact (show False from z).elim
      | ret u =>
        obtain ⟨v, H2, os, bare, un, ok2, rv, (q : v = .bl true)⟩ := z
        subst q
        obtain rfl : u = Value.bool true := rv
        refine ⟨rfl, OldK.of_keep fun
              b o e => ?_, os, bare⟩
        cases q : H b with
        | none => exact un.keep b o e q (by simp [frs]) (by simp)
        | some u =>
          rcases only b with y | ⟨ob, xs, y⟩
          · rw [q] at y
            cases y
          · have y2 := un.frzs b ob _ y
            obtain ⟨e1, _⟩ := ok b _ y
            obtain ⟨e2, _⟩ := ok2 b _ y2
            rw [e] at e1
            cases e1
            exact e2
  cases hk : K.lookup a with
  | some o =>
    have e := inK a o hk
    rw [list] at e
    cases e
    refine main (fun _ => none) (fun _ => .inl rfl) (.inr ⟨_, vs.toArray, _, hk, rfl, rfl, rfl, ?_, by simpa using items⟩) (fun b u z => nomatch (show (none : Option HO) = some u from z)) (fun b u z => nomatch (show (none : Option HO) = some u from z))
    rw [List.size_toArray, few]
    exact size
  | none =>
    have one : ∀ b u, (if b = a then some (HO.frz { cls := .type "list", data := .seq vs.toArray } (.lst (ns.map V.int))) else none) = some u → b = a ∧ u = HO.frz { cls := .type "list", data := .seq vs.toArray } (.lst (ns.map V.int)) := by
      intro b u z
      by_cases y : b = a
      · rw [if_pos y] at z
        exact ⟨y, (Option.some.inj z).symm⟩
      · rw [if_neg y] at z
        cases z
    refine main (fun b => if b = a then some (.frz { cls := .type "list", data := .seq vs.toArray } (.lst (ns.map V.int))) else none) (fun b => ?_) (.inl (.inr ⟨_, if_pos rfl⟩)) (fun b u z => ?_) (fun b u z => ⟨(one b u z).1, hk⟩)
    · by_cases y : b = a
      · exact .inr ⟨_, _, if_pos y⟩
      · exact .inl (if_neg y)
    · obtain ⟨rfl, rfl⟩ := one b u z
      exact ⟨list, by rw [List.length_map]; exact size, vs, _, items, list⟩
end
/-- the head's goal from such a promise -/
theorem walk_ofG {l : PySem.W.OpenLaw} {n k : Nat} {q : Program} {loose : List Str} {XP : (Str → Option Value) → Heap → Prop} {YP : World → Heap → Prop} {d : DefRec} {K : Params → PySem.W.Frag} {sp : World → Sp} {x : Str} (most : l.most = some n) (fits : n ≤ sizeLine) (noDef : d.params.defaults = []) (room : Room k callerA)
    (inK : ∀ (w : World) (h : Heap), YP w h → (K w.params).In h)
    (F : ∀ (w : World) (mg : Str → Option Value) (fa : Addr) (h : Heap), (K
          w.params).In h → h.Ns mainGlobals mg → mg d.name = some (.ref fa) →
      ∃ fd : FuncData, (∀ (s : Shared) (u : Value), BindsTo s fd ⟨[u], []⟩ [(x, u)]) ∧ ∀ base : Heap, (K w.params).In base → base.Ns mainGlobals mg → FnG l.prog w (K w.params) mg base k fa fd [x] (sp w))
    (h : ∀ (w : World) (H : Hp) (a : Addr) (ns : List Int), ns.length ≤ n → Only H → SqL (K w.params) H a (ns.map V.int) → sp w [.ref a] H (fun v _ => v = .bl true) fun _ _ _ => False) :
    PySem.W.WalkO q loose XP YP l.row.toRowW
          d [] (fun f vs => PySem.call f vs) := by
  refine Att.attach_call most noDef fun w s₀ s₁ mg mb fa o pm cd doc a vs ns G Y _ _ _ name list wholes len gens => ?_
  have KX := inK w _ Y
  obtain ⟨fd, bind, made⟩ := F w mg fa _ KX G.T.g name
  exact law_callG KX G.T.g G.T.b G.T.builtins G.T.nolimit gens list wholes (Nat.le_trans len fits) room made bind fun H only seq => h w H a ns len only seq
end L2

/-! trees: the mathematics -/
namespace K5
/-- doors es, each (parent, child), children all different; a bridge each; all connected -/
structure Tr0 (n : Nat) (es : List (Nat × Nat)) : Prop where
  len : es.length + 1 = n
  lt : ∀ e ∈ es, e.1 < n ∧ e.2 < n
  nd : (es.map Prod.snd).Nodup
  side : ∃ side : Nat → Nat → Bool, (∀ e ∈ es, side e.2 e.1 ≠ side e.2 e.2) ∧ ∀ e ∈ es, ∀ f ∈ es, e.2 ≠ f.2 → side e.2 f.1 = side e.2 f.2
  conn : ∀ S : Nat → Prop, (∀ e ∈ es, S e.1 ↔ S e.2) → ∀ x y, x < n → y < n → S x → S y
theorem Tr0.one : Tr0 1 [] where
  len := rfl
  lt := fun _ h => nomatch h
  nd := List.nodup_nil
  side := ⟨fun _ _ => true, fun _ h => (nomatch h), fun _ h => (nomatch h)⟩
  conn := fun S _ x y hx hy h => (show x = y by omega) ▸ h
theorem Tr0.grow {n : Nat} {es : List (Nat × Nat)} (T : Tr0 n es) (o : Nat) (ho : o < n) : Tr0 (n + 1) (es ++ [(o, n)]) := by
  obtain ⟨len, lt, nd, ⟨side, s1, s2⟩, conn⟩ := T
  have hn : ∀ e ∈ es, e.2 ≠ n := fun e h => by have := (lt e h).2; omega
  have hn1 : ∀ e ∈ es, e.1 ≠ n := fun e h => by have := (lt e h).1; omega
  refine ⟨by simp; omega, fun e h => ?_, ?_, ⟨fun c x => if c = n then decide (x = n) else if x = n then side c o else side c x, fun e h => ?_, fun e h f hf hne => ?_⟩, fun S hS x y hx hy h => ?_⟩
  · rcases List.mem_append.mp h with h | h
    · have := lt e h; omega
    · rw [List.mem_singleton.mp h]; exact ⟨Nat.lt_succ_of_lt ho, Nat.lt_succ_self _⟩
  · rw [List.map_append]
    refine List.nodup_append.mpr ⟨nd, by simp, fun a ha b hb => ?_⟩
    obtain ⟨e, he, rfl⟩ := List.mem_map.mp ha
    simp at hb
    rw [hb]
    exact hn e he
  · rcases List.mem_append.mp h with h | h
    · simp only [if_neg (hn e h), if_neg (hn1 e h)]
      exact s1 e h
    · rw [List.mem_singleton.mp h]
      simp only [if_pos rfl]
      rw [decide_eq_false (show ¬ o = n by omega)]
      simp
  · rcases List.mem_append.mp h with h | h
    · simp only [if_neg (hn e h)]
      rcases List.mem_append.mp hf with hf | hf
      · simp only [if_neg (hn f hf), if_neg (hn1 f hf)]
        exact s2 e h f hf hne
      · rw [List.mem_singleton.mp hf]
        simp only [if_neg (show ¬ o = n by omega), if_true]
    · rcases List.mem_append.mp hf with hf | hf
      · rw [List.mem_singleton.mp h]
        simp only [if_true]
        rw [decide_eq_false (hn f hf), decide_eq_false (hn1 f hf)]
      · rw [List.mem_singleton.mp h, List.mem_singleton.mp hf] at hne
        exact absurd rfl hne
  · have h0 : ∀ e ∈ es, S e.1 ↔ S e.2 := fun e he => hS e (List.mem_append.mpr (.inl he))
    have h1 : S o ↔ S n := hS (o, n) (List.mem_append.mpr (.inr (List.mem_singleton.mpr rfl)))
    by_cases ex : x = n
    · subst ex
      have so : S o := h1.mpr h
      by_cases ey : y = x
      · exact ey ▸ h
      · exact conn S h0 o y ho (by omega) so
    · have sx : S o := conn S h0 x o (by omega) ho h
      by_cases ey : y = n
      · exact ey ▸ h1.mp sx
      · exact conn S h0 x y (by omega) (by omega) h
theorem Tr0.perm {n : Nat} {es fs : List (Nat × Nat)} (T : Tr0 n es) (p : fs.Perm es) : Tr0 n fs := by
  obtain ⟨len, lt, nd, ⟨side, s1, s2⟩, conn⟩ := T
  exact ⟨by rw [p.length_eq]; exact len, fun e h => lt e (p.mem_iff.mp h), (p.map Prod.snd).nodup_iff.mpr nd,
    ⟨side, fun e h => s1 e (p.mem_iff.mp h), fun e h f hf => s2 e (p.mem_iff.mp h) f (p.mem_iff.mp hf)⟩,
    fun S hS => conn S fun e h => hS e (p.mem_iff.mpr h)⟩
/-- renamed by a list of names that is a rearrangement of 0 .. n - 1 -/
theorem Tr0.names {n : Nat} {es : List (Nat × Nat)} (T : Tr0 n es) (f g : Nat → Nat) (h1 : ∀ x, x < n → f x < n) (h2 : ∀ x, x < n → g (f x) = x) (h3 : ∀ y, y < n → g y < n ∧ f (g y) = y) :
    Tr0 n (es.map fun e => (f e.1, f e.2)) := by
  obtain ⟨len, lt, nd, ⟨side, s1, s2⟩, conn⟩ := T
  refine ⟨by rw [List.length_map]; exact len, fun e h => ?_, ?_, ⟨fun c x => side (g c) (g x), fun e h => ?_, fun e h e' h' hne => ?_⟩, fun S hS x y hx hy h => ?_⟩
  · obtain ⟨a, ha, rfl⟩ := List.mem_map.mp h
    exact ⟨h1 _ (lt a ha).1, h1 _ (lt a ha).2⟩
  · rw [List.map_map]
    have q : ∀ l : List (Nat × Nat), (∀ e ∈ l, e.2 < n) → (l.map Prod.snd).Nodup → (l.map (Prod.snd ∘ fun e => (f e.1, f e.2))).Nodup := by
      intro l
      induction l with
      | nil => intro _ _; exact List.nodup_nil
      | cons a r ih =>
        intro hl hd
        rw [List.map_cons] at hd ⊢
        obtain ⟨d1, d2⟩ := List.nodup_cons.mp hd
        refine List.nodup_cons.mpr ⟨fun m => d1 ?_, ih (fun e he => hl e (List.mem_cons_of_mem _ he)) d2⟩
        obtain ⟨b, hb, e⟩ := List.mem_map.mp m
        have e' : f b.2 = f a.2 := e
        have : b.2 = a.2 := by rw [← h2 b.2 (hl b (List.mem_cons_of_mem _ hb)), e', h2 a.2 (hl a List.mem_cons_self)]
        exact List.mem_map.mpr ⟨b, hb, this⟩
    exact q es (fun e he => (lt e he).2) nd
  · obtain ⟨a, ha, rfl⟩ := List.mem_map.mp h
    show side (g (f a.2)) (g (f a.1)) ≠ side (g (f a.2)) (g (f a.2))
    rw [h2 _ (lt a ha).1, h2 _ (lt a ha).2]
    exact s1 a ha
  · obtain ⟨a, ha, rfl⟩ := List.mem_map.mp h
    obtain ⟨b, hb, rfl⟩ := List.mem_map.mp h'
    show side (g (f a.2)) (g (f b.1)) = side (g (f a.2)) (g (f b.2))
    rw [h2 _ (lt a ha).2, h2 _ (lt b hb).1, h2 _ (lt b hb).2]
    exact s2 a ha b hb fun e => hne (by show f a.2 = f b.2; rw [e])
  · have q := conn (fun z => S (f z)) (fun e he => hS _ (List.mem_map.mpr ⟨e, he, rfl⟩)) (g x) (g y) (h3 x hx).1 (h3 y hy).1 (by show S (f (g x)); rw [(h3 x hx).2]; exact h)
    have q' : S (f (g y)) := q
    rw [(h3 y hy).2] at q'
    exact q'

/-- a house of n rooms that is a tree, its doors by their numbers, the ends in either order -/
structure Tree (n : Nat) (ds : List (Nat × Nat)) : Prop where
  len : ds.length + 1 = n
  lt : ∀ e ∈ ds, e.1 < n ∧ e.2 < n
  side : ∃ side : Nat → Nat → Bool, (∀ d e, ds[d]? = some e → side d e.1 ≠ side d e.2) ∧ ∀ c d e, ds[d]? = some e → c ≠ d → side c e.1 = side c e.2
  conn : ∀ S : Nat → Prop, (∀ e ∈ ds, S e.1 ↔ S e.2) → ∀ x y, x < n → y < n → S x → S y
/-- pointwise the same up to the order of the ends -/
inductive Flip : List (Nat × Nat) → List (Nat × Nat) → Prop
  | nil : Flip [] []
  | same {e es fs} (h : Flip es fs) : Flip (e :: es) (e :: fs)
  | turn {a b es fs} (h : Flip es fs) : Flip ((a, b) :: es) ((b, a) :: fs)
theorem Flip.len : ∀ {es fs}, Flip es fs → es.length = fs.length
  | _, _, .nil => rfl
  | _, _, .same h => by rw [List.length_cons, List.length_cons, h.len]
  | _, _, .turn h => by rw [List.length_cons, List.length_cons, h.len]
theorem Flip.get : ∀ {es fs}, Flip es fs → ∀ {d : Nat} {f : Nat × Nat}, fs[d]? = some f → ∃ e, es[d]? = some e ∧ (f = e ∨ f = (e.2, e.1))
  | _, _, .nil, d, f, h => by simp at h
  | _, _, .same h, 0, f, e => ⟨_, rfl, .inl (Option.some.inj e).symm⟩
  | _, _, .turn h, 0, f, e => ⟨_, rfl, .inr (Option.some.inj e).symm⟩
  | _, _, .same h, d + 1, f, e => h.get (d := d) e
  | _, _, .turn h, d + 1, f, e => h.get (d := d) e
theorem Flip.get' : ∀ {es fs}, Flip es fs → ∀ {d : Nat} {e : Nat × Nat}, es[d]? = some e → ∃ f, fs[d]? = some f ∧ (f = e ∨ f = (e.2, e.1))
  | _, _, .nil, d, f, h => by simp at h
  | _, _, .same h, 0, f, e => ⟨_, rfl, .inl (Option.some.inj e)⟩
  | _, _, .turn h, 0, f, e => ⟨_, rfl, .inr (by rw [← Option.some.inj e])⟩
  | _, _, .same h, d + 1, f, e => h.get' (d := d) e
  | _, _, .turn h, d + 1, f, e => h.get' (d := d) e
theorem Flip.snoc : ∀ {es fs} (e : Nat × Nat), Flip es fs → Flip (es ++ [e]) (fs ++ [e])
  | _, _, _, .nil => .same .nil
  | _, _, e, .same h => .same (h.snoc e)
  | _, _, e, .turn h => .turn (h.snoc e)
theorem Flip.snocT : ∀ {es fs} (a b : Nat), Flip es fs → Flip (es ++ [(a, b)]) (fs ++ [(b, a)])
  | _, _, _, _, .nil => .turn .nil
  | _, _, a, b, .same h => .same (h.snocT a b)
  | _, _, a, b, .turn h => .turn (h.snocT a b)
theorem Flip.refl : ∀ es, Flip es es
  | [] => .nil
  | _ :: r => .same (Flip.refl r)
theorem Tr0.tree {n : Nat} {es ds : List (Nat × Nat)} (T : Tr0 n es) (F : Flip es ds) : Tree n ds := by
  obtain ⟨len, lt, nd, ⟨side, s1, s2⟩, conn⟩ := T
  refine ⟨by rw [← F.len]; exact len, fun f h => ?_, ⟨fun d x => match es[d]? with | some e => side e.2 x | none => true, fun d f h => ?_, fun c d f h hne => ?_⟩, fun S hS => conn S fun e he => ?_⟩
  · obtain ⟨d, hd⟩ := List.mem_iff_getElem?.mp h
    obtain ⟨e, he, q⟩ := F.get hd
    have := lt e (List.mem_of_getElem? he)
    rcases q with q | q <;> subst q
    · exact this
    · exact ⟨this.2, this.1⟩
  · obtain ⟨e, he, q⟩ := F.get h
    have := s1 e (List.mem_of_getElem? he)
    simp only [he]
    rcases q with q | q <;> subst q
    · exact this
    · exact this.symm
  · obtain ⟨e, he, q⟩ := F.get h
    cases hc : es[c]? with
    | none => simp only [hc]
    | some e' =>
      simp only [hc]
      have hne2 : e'.2 ≠ e.2 := fun z => by
        apply hne
        obtain ⟨hd, hed⟩ := List.getElem?_eq_some_iff.mp he
        obtain ⟨hc', hec⟩ := List.getElem?_eq_some_iff.mp hc
        exact (List.getElem_inj (xs := es.map Prod.snd) (h₀ := by simpa using hc') (h₁ := by simpa using hd) nd).mp (by simp [hed, hec, z])
      have := s2 e' (List.mem_of_getElem? hc) e (List.mem_of_getElem? he) hne2
      rcases q with q | q <;> subst q
      · exact this
      · exact this.symm
  · obtain ⟨d, hd⟩ := List.mem_iff_getElem?.mp he
    obtain ⟨f, hf, q⟩ := F.get' hd
    have := hS f (List.mem_of_getElem? hf)
    rcases q with q | q <;> subst q
    · exact this
    · exact this.symm

/-- door d joins x and y -/
def Joins (ds : List (Nat × Nat)) (d x y : Nat) : Prop := ds[d]? = some (x, y) ∨ ds[d]? = some (y, x)
theorem Joins.symm {ds d x y} (j : Joins ds d x y) : Joins ds d y x := Or.symm j
theorem Joins.other {ds d x y z} (j : Joins ds d x y) (k : Joins ds d x z) (hxy : x ≠ y) : y = z := by
  rcases j with j | j <;> rcases k with k | k <;> rw [j] at k <;> cases k
  · rfl
  · exact absurd rfl hxy
  · exact absurd rfl hxy
  · rfl
/-- a way by the doors of the list -/
inductive Walk (ds : List (Nat × Nat)) : Nat → List Nat → Nat → Prop
  | nil (a) : Walk ds a [] a
  | cons {a c b d p} (j : Joins ds d a c) (w : Walk ds c p b) : Walk ds a (d :: p) b
theorem Walk.snoc {ds a p b d c} (w : Walk ds a p b) (j : Joins ds d b c) : Walk ds a (p ++ [d]) c := by
  induction w with
  | nil a => exact .cons j (.nil _)
  | cons j' w ih => exact .cons j' (ih j)
theorem Walk.app {ds a p b q c} (w : Walk ds a p b) (v : Walk ds b q c) : Walk ds a (p ++ q) c := by
  induction w with
  | nil a => exact v
  | cons j' w ih => exact .cons j' (ih v)
theorem Walk.rev {ds a p b} (w : Walk ds a p b) : Walk ds b p.reverse a := by
  induction w with
  | nil a => exact .nil _
  | cons j w ih =>
    rw [List.reverse_cons]
    exact ih.snoc j.symm
theorem Walk.split {ds} {e : Nat} : ∀ {a p b}, Walk ds a p b → e ∈ p → ∃ p1 p2 x y, p = p1 ++ e :: p2 ∧ Walk ds a p1 x ∧ Joins ds e x y ∧ Walk ds y p2 b
  | _, _, _, .nil a, h => by cases h
  | a, d :: p, b, .cons j w, h => by
    by_cases q : e = d
    · subst q
      exact ⟨[], p, a, _, rfl, .nil _, j, w⟩
    · have h' : e ∈ p := (List.mem_cons.mp h).resolve_left q
      obtain ⟨p1, p2, x, y, e1, w1, j1, w2⟩ := Walk.split w h'
      exact ⟨d :: p1, p2, x, y, by rw [e1]; rfl, .cons j w1, j1, w2⟩
section
variable {n : Nat} {ds : List (Nat × Nat)}
theorem side_join {side : Nat → Nat → Bool} (s1 : ∀ d e, ds[d]? = some e → side d e.1 ≠ side d e.2) {d x y : Nat} (j : Joins ds d x y) : side d x ≠ side d y := by
  rcases j with j | j
  · exact s1 _ _ j
  · exact (s1 _ _ j).symm
theorem side_other {side : Nat → Nat → Bool} (s2 : ∀ c d e, ds[d]? = some e → c ≠ d → side c e.1 = side c e.2) {c d x y : Nat} (j : Joins ds d x y) (h : c ≠ d) : side c x = side c y := by
  rcases j with j | j
  · exact s2 _ _ _ j h
  · exact (s2 _ _ _ j h).symm
theorem side_walk {side : Nat → Nat → Bool} (s2 : ∀ c d e, ds[d]? = some e → c ≠ d → side c e.1 = side c e.2) {c : Nat} : ∀ {a p b}, Walk ds a p b → c ∉ p → side c a = side c b
  | _, _, _, .nil a, _ => rfl
  | _, _, _, .cons j w, h => by
    rw [side_other s2 j fun e => h (by rw [e]; exact List.mem_cons_self)]
    exact side_walk s2 w fun m => h (List.mem_cons_of_mem _ m)
theorem side_use {side : Nat → Nat → Bool} (s1 : ∀ d e, ds[d]? = some e → side d e.1 ≠ side d e.2) (s2 : ∀ c d e, ds[d]? = some e → c ≠ d → side c e.1 = side c e.2) {c : Nat} {a p b} (w : Walk ds a p b) (nd : p.Nodup) (h : c ∈ p) : side c a ≠ side c b := by
  obtain ⟨p1, p2, x, y, rfl, w1, j, w2⟩ := w.split h
  obtain ⟨n1, n2, n3⟩ := List.nodup_append.mp nd
  have c1 : c ∉ p1 := fun m => n3 c m c List.mem_cons_self rfl
  have c2 : c ∉ p2 := (List.nodup_cons.mp n2).1
  rw [side_walk s2 w1 c1, ← side_walk s2 w2 c2]
  exact side_join s1 j
theorem way_unique (T : Tree n ds) : ∀ {p q a b}, Walk ds a p b → Walk ds a q b → p.Nodup → q.Nodup → p = q := by
  obtain ⟨side, s1, s2⟩ := T.side
  intro p
  induction p with
  | nil =>
    intro q a b w v np nq
    cases w
    cases v with
    | nil => rfl
    | cons j v => exact absurd rfl (side_use s1 s2 (.cons j v) nq List.mem_cons_self)
  | cons d p ih =>
    intro q a b w v np nq
    have hd := side_use s1 s2 w np List.mem_cons_self
    cases w with
    | @cons _ c _ _ _ j w =>
    cases v with
    | nil => exact absurd rfl hd
    | @cons _ c' _ e q j' v =>
      by_cases hde : d = e
      · subst hde
        have hac : a ≠ c := fun z => side_join s1 j (by rw [z])
        have := j.other j' hac
        subst this
        rw [ih w v (List.nodup_cons.mp np).2 (List.nodup_cons.mp nq).2]
      · exfalso
        have he := side_use s1 s2 (.cons j' v) nq List.mem_cons_self
        have hep : e ∈ p := by
          refine Classical.byContradiction fun hn => he ?_
          rw [side_other s2 j (Ne.symm hde)]
          exact side_walk s2 w hn
        obtain ⟨p1, p2, x, y, rfl, w1, j1, w2⟩ := w.split hep
        have n0 := List.nodup_cons.mp np
        obtain ⟨n1, n2, n3⟩ := List.nodup_append.mp n0.2
        have c1 : e ∉ p1 := fun m => n3 e m e List.mem_cons_self rfl
        have hx : side e x = side e a := by
          rw [← side_walk s2 w1 c1, ← side_other s2 j (Ne.symm hde)]
        have hxa : x = a := by
          rcases j1 with k | k <;> rcases j' with k' | k' <;> rw [k] at k' <;> cases k'
          · rfl
          · exact absurd hx.symm (s1 _ _ k).symm
          · exact absurd hx.symm (s1 _ _ k)
          · rfl
        subst hxa
        have c2 : d ∉ p1 := fun m => n0.1 (List.mem_append.mpr (.inl m))
        exact side_join s1 j (side_walk s2 w1 c2).symm
theorem way_uses (T : Tree n ds) {side : Nat → Nat → Bool} (s1 : ∀ d e, ds[d]? = some e → side d e.1 ≠ side d e.2) (s2 : ∀ c d e, ds[d]? = some e → c ≠ d → side c e.1 = side c e.2) {a p b d} (w : Walk ds a p b) (np : p.Nodup) : d ∈ p ↔ side d a ≠ side d b :=
  ⟨side_use s1 s2 w np, fun h => Classical.byContradiction fun hn => h (side_walk s2 w hn)⟩
theorem Joins.lt (T : Tree n ds) {d x y} (j : Joins ds d x y) : x < n ∧ y < n ∧ d + 1 < n ∧ x ≠ y := by
  obtain ⟨side, s1, s2⟩ := T.side
  have ne : x ≠ y := fun z => side_join s1 j (by rw [z])
  have hl := T.len
  rcases j with j | j
  · have := T.lt _ (List.mem_of_getElem? j)
    have h := (List.getElem?_eq_some_iff.mp j).1
    exact ⟨this.1, this.2, by omega, ne⟩
  · have := T.lt _ (List.mem_of_getElem? j)
    have h := (List.getElem?_eq_some_iff.mp j).1
    exact ⟨this.2, this.1, by omega, ne⟩
end
end K5

namespace K5
structure Uf (n : Nat) (L : List Nat) (rank : Nat → Nat) (R : Nat → Nat → Prop) : Prop where
  len : L.length = n
  at_ : ∀ x y, L[x]? = some y → y < n ∧ R x y ∧ (y ≠ x → rank y < rank x)
theorem get_lt {α : Type} {L : List α} {x : Nat} {y : α} (h : L[x]? = some y) : x < L.length := (List.getElem?_eq_some_iff.mp h).1
theorem get_set {α : Type} {L : List α} {x w : Nat} {z v : α} (h : (L.set x z)[w]? = some v) : (w = x ∧ v = z) ∨ (w ≠ x ∧ L[w]? = some v) := by
  rw [List.getElem?_set] at h
  by_cases e : x = w
  · rw [if_pos e] at h
    split at h
    · exact .inl ⟨e.symm, (Option.some.inj h).symm⟩
    · cases h
  · rw [if_neg e] at h
    exact .inr ⟨fun q => e q.symm, h⟩
theorem Uf.half {n L rank R} (u : Uf n L rank R) (tr : ∀ a b c, R a b → R b c → R a c) {x y z : Nat} (hx : L[x]? = some y) (hy : L[y]? = some z) : Uf n (L.set x z) rank R := by
  refine ⟨by rw [List.length_set]; exact u.len, fun w v h => ?_⟩
  rcases get_set h with ⟨rfl, rfl⟩ | ⟨_, h⟩
  · obtain ⟨a1, a2, a3⟩ := u.at_ _ _ hx
    obtain ⟨b1, b2, b3⟩ := u.at_ _ _ hy
    refine ⟨b1, tr _ _ _ a2 b2, fun ne => ?_⟩
    by_cases e : y = w
    · subst e
      rw [hx] at hy
      exact absurd (Option.some.inj hy).symm ne
    · have := a3 e
      by_cases e2 : v = y
      · subst e2; exact this
      · exact Nat.lt_trans (b3 e2) this
  · exact u.at_ _ _ h
theorem Uf.less {n L rank R} (u : Uf n L rank R) {x y z : Nat} (hx : L[x]? = some y) (hy : L[y]? = some z) (ne : y ≠ x) : rank z < rank x := by
  have h1 := (u.at_ _ _ hx).2.2 ne
  by_cases e : z = y
  · subst e; exact h1
  · exact Nat.lt_trans ((u.at_ _ _ hy).2.2 e) h1
theorem Uf.range (n : Nat) (R : Nat → Nat → Prop) (rf : ∀ a, R a a) : Uf n (List.range n) (fun _ => 0) R := by
  refine ⟨List.length_range, fun x y h => ?_⟩
  have hx : x < n := by simpa using get_lt h
  rw [List.getElem?_range hx] at h
  have e : x = y := Option.some.inj h
  subst e
  exact ⟨hx, rf _, fun z => absurd rfl z⟩
/-- alike for all doors from k on -/
def Rk (side : Nat → Nat → Bool) (k : Nat) (x y : Nat) : Prop := ∀ d, k ≤ d → side d x = side d y
theorem Rk.tr {side k} : ∀ a b c, Rk side k a b → Rk side k b c → Rk side k a c := fun a b c h1 h2 d hd => (h1 d hd).trans (h2 d hd)
theorem Rk.rf {side k} : ∀ a, Rk side k a a := fun a d _ => rfl
theorem Uf.union {n L rank side k} {ds : List (Nat × Nat)} (u : Uf n L rank (Rk side k)) (s1 : ∀ d e, ds[d]? = some e → side d e.1 ≠ side d e.2) (s2 : ∀ c d e, ds[d]? = some e → c ≠ d → side c e.1 = side c e.2)
    {x y ra rb : Nat} (hd : ds[k]? = some (x, y)) (ha : Rk side k x ra) (hb : Rk side k y rb) (hra : L[ra]? = some ra) (hrb : L[rb]? = some rb) :
    Uf n (L.set ra rb) (fun z => rank z + if side k z = side k x then rank rb + 1 else 0) (Rk side (k + 1)) := by
  refine ⟨by rw [List.length_set]; exact u.len, fun w v h => ?_⟩
  have hne : side k x ≠ side k y := s1 _ _ hd
  rcases get_set h with ⟨rfl, rfl⟩ | ⟨_, h⟩
  · refine ⟨(u.at_ _ _ hrb).1, fun d hd' => ?_, fun _ => ?_⟩
    · rw [← ha d (by omega), ← hb d (by omega)]
      exact s2 d k _ hd (by omega)
    · have e1 : side k w = side k x := (ha k (Nat.le_refl _)).symm
      have e2 : ¬ side k v = side k x := fun z => hne (z.symm.trans (hb k (Nat.le_refl _)).symm)
      simp only [e1, if_true, if_neg e2]
      omega
  · obtain ⟨b1, b2, b3⟩ := u.at_ _ _ h
    refine ⟨b1, fun d hd' => b2 d (by omega), fun ne => ?_⟩
    have := b3 ne
    have e : side k w = side k v := b2 k (Nat.le_refl _)
    rw [e]
    omega
theorem ring_no {side : Nat → Nat → Bool} {k} {ds : List (Nat × Nat)} (s1 : ∀ d e, ds[d]? = some e → side d e.1 ≠ side d e.2) {x y r : Nat} (hd : ds[k]? = some (x, y)) (ha : Rk side k x r) (hb : Rk side k y r) : False :=
  s1 _ _ hd ((ha k (Nat.le_refl _)).trans (hb k (Nat.le_refl _)).symm)
end K5

namespace K5
theorem nodup_le : ∀ (n : Nat) (l : List Nat), l.Nodup → (∀ x ∈ l, x < n) → l.length ≤ n
  | 0, [], _, _ => Nat.le_refl _
  | 0, a :: r, _, h => absurd (h a List.mem_cons_self) (Nat.not_lt_zero _)
  | n + 1, l, nd, h => by
    by_cases m : n ∈ l
    · have h1 := nodup_le n (l.erase n) (nd.erase n) fun x hx => by
        have q := (List.Nodup.mem_erase_iff nd).mp hx
        have := h x q.2
        have := q.1
        omega
      rw [List.length_erase_of_mem m] at h1
      have : 0 < l.length := List.length_pos_of_mem m
      omega
    · have h1 := nodup_le n l nd fun x hx => by
        have := h x hx
        have : x ≠ n := fun e => m (e ▸ hx)
        omega
      omega
/-- a search: kl the rooms found, ws those that wait -/
structure Dfs (n : Nat) (ds : List (Nat × Nat)) (shut kl ws : List Nat) : Prop where
  nd : kl.Nodup
  lt : ∀ x ∈ kl, x < n
  sub : ∀ x ∈ ws, x ∈ kl
  cl : ∀ x ∈ kl, x ∉ ws → ∀ d y, Joins ds d x y → d ∉ shut → y ∈ kl
structure DfsIn (n : Nat) (ds : List (Nat × Nat)) (shut kl ws : List Nat) (here : Nat) (don : List (Nat × Nat)) : Prop where
  nd : kl.Nodup
  lt : ∀ x ∈ kl, x < n
  sub : ∀ x ∈ ws, x ∈ kl
  cl : ∀ x ∈ kl, x ∉ ws → x ≠ here → ∀ d y, Joins ds d x y → d ∉ shut → y ∈ kl
  he : here ∈ kl
  dn : ∀ d y, (d, y) ∈ don → d ∉ shut → y ∈ kl
section
variable {n : Nat} {ds : List (Nat × Nat)} {shut kl ws : List Nat} {here : Nat} {don : List (Nat × Nat)}
theorem Dfs.start {x : Nat} (h : x < n) : Dfs n ds shut [x] [x] :=
  ⟨by simp, fun y hy => by rw [List.mem_singleton.mp hy]; exact h, fun y hy => hy, fun y hy hn => absurd hy hn⟩
theorem Dfs.pop (h : Dfs n ds shut kl (ws ++ [here])) : DfsIn n ds shut kl ws here [] :=
  ⟨h.nd, h.lt, fun x m => h.sub x (List.mem_append.mpr (.inl m)), fun x m nw ne d y j ns => h.cl x m (fun q => by
    rcases List.mem_append.mp q with q | q
    · exact nw q
    · exact ne (List.mem_singleton.mp q)) d y j ns, h.sub here (List.mem_append.mpr (.inr (List.mem_singleton.mpr rfl))), fun d y m => nomatch m⟩
theorem DfsIn.skip (h : DfsIn n ds shut kl ws here don) {d y : Nat} (q : d ∈ shut ∨ y ∈ kl) : DfsIn n ds shut kl ws here (don ++ [(d, y)]) :=
  ⟨h.nd, h.lt, h.sub, h.cl, h.he, fun d' y' m ns => by
    rcases List.mem_append.mp m with m | m
    · exact h.dn d' y' m ns
    · cases List.mem_singleton.mp m
      exact q.resolve_left ns⟩
theorem DfsIn.add (h : DfsIn n ds shut kl ws here don) {d y : Nat} (hy : y < n) (nk : y ∉ kl) : DfsIn n ds shut (kl ++ [y]) (ws ++ [y]) here (don ++ [(d, y)]) where
  nd := List.nodup_append.mpr ⟨h.nd, by simp, fun a ha b hb e => by
    rw [List.mem_singleton.mp hb] at e
    exact nk (e ▸ ha)⟩
  lt := fun x m => by
    rcases List.mem_append.mp m with m | m
    · exact h.lt x m
    · rw [List.mem_singleton.mp m]; exact hy
  sub := fun x m => by
    rcases List.mem_append.mp m with m | m
    · exact List.mem_append.mpr (.inl (h.sub x m))
    · exact List.mem_append.mpr (.inr m)
  cl := fun x m nw ne d' y' j ns => by
    rcases List.mem_append.mp m with m | m
    · exact List.mem_append.mpr (.inl (h.cl x m (fun q => nw (List.mem_append.mpr (.inl q))) ne d' y' j ns))
    · exact absurd (List.mem_append.mpr (.inr m)) nw
  he := List.mem_append.mpr (.inl h.he)
  dn := fun d' y' m ns => by
    rcases List.mem_append.mp m with m | m
    · exact List.mem_append.mpr (.inl (h.dn d' y' m ns))
    · cases List.mem_singleton.mp m
      exact List.mem_append.mpr (.inr (List.mem_singleton.mpr rfl))
theorem DfsIn.done (h : DfsIn n ds shut kl ws here don) (all : ∀ d y, Joins ds d here y → (d, y) ∈ don) : Dfs n ds shut kl ws :=
  ⟨h.nd, h.lt, h.sub, fun x m nw d y j ns => by
    by_cases e : x = here
    · subst e
      exact h.dn d y (all d y j) ns
    · exact h.cl x m nw e d y j ns⟩
theorem Dfs.le (h : Dfs n ds shut kl ws) : kl.length ≤ n := nodup_le n kl h.nd h.lt
theorem DfsIn.le (h : DfsIn n ds shut kl ws here don) : kl.length ≤ n := nodup_le n kl h.nd h.lt
/-- in the end: a closed set of rooms; without shut doors it is all -/
theorem Dfs.all (T : Tree n ds) (h : Dfs n ds [] kl []) {x : Nat} (hx : x ∈ kl) : ∀ y, y < n → y ∈ kl := by
  intro y hy
  refine T.conn (fun z => z ∈ kl) (fun e he => ?_) x y (h.lt x hx) hy hx
  obtain ⟨d, hd⟩ := List.mem_iff_getElem?.mp he
  exact ⟨fun m => h.cl _ m (by simp) d _ (.inl hd) (by simp), fun m => h.cl _ m (by simp) d _ (.inr hd) (by simp)⟩
theorem Dfs.walk (h : Dfs n ds shut kl []) : ∀ {x p y}, Walk ds x p y → (∀ d ∈ p, d ∉ shut) → x ∈ kl → y ∈ kl := by
  intro x p y w
  induction w with
  | nil a => intro _ m; exact m
  | cons j w ih => intro ns m; exact ih (fun d hd => ns d (List.mem_cons_of_mem _ hd)) (h.cl _ m (by simp) _ _ j (ns _ List.mem_cons_self))
end
/-- steps towards the beginning -/
structure Ptr (ds : List (Nat × Nat)) (shut : List Nat) (room : Nat) (ks : List (Nat × Option (Nat × Nat))) : Prop where
  st : ∀ x d y, (x, some (d, y)) ∈ ks → Joins ds d x y ∧ d ∉ shut ∧ y ∈ ks.map Prod.fst ∧ (ks.map Prod.fst).idxOf y < (ks.map Prod.fst).idxOf x
  fin : ∀ x, (x, none) ∈ ks → x = room
theorem Ptr.start {ds shut room} : Ptr ds shut room [(room, none)] :=
  ⟨fun x d y m => (by cases List.mem_singleton.mp m), fun x m => (by cases List.mem_singleton.mp m; rfl)⟩
theorem Ptr.add {ds shut room ks} (P : Ptr ds shut room ks) {x d y : Nat} (j : Joins ds d x y) (ns : d ∉ shut) (hy : y ∈ ks.map Prod.fst) (hx : x ∉ ks.map Prod.fst) : Ptr ds shut room (ks ++ [(x, some (d, y))]) := by
  refine ⟨fun x' d' y' m => ?_, fun x' m => ?_⟩
  · rw [List.map_append]
    rcases List.mem_append.mp m with m | m
    · obtain ⟨a, b, c, e⟩ := P.st x' d' y' m
      have hx' : x' ∈ ks.map Prod.fst := List.mem_map.mpr ⟨_, m, rfl⟩
      refine ⟨a, b, List.mem_append.mpr (.inl c), ?_⟩
      rw [List.idxOf_append, if_pos c, List.idxOf_append, if_pos hx']
      exact e
    · cases List.mem_singleton.mp m
      refine ⟨j, ns, List.mem_append.mpr (.inl hy), ?_⟩
      rw [List.idxOf_append, if_pos hy, List.idxOf_append, if_neg hx]
      have := List.idxOf_lt_length_iff.mpr hy
      omega
  · rcases List.mem_append.mp m with m | m
    · exact P.fin x' m
    · cases List.mem_singleton.mp m
/-- the way made so far from a to here along the steps -/
structure Made (ds : List (Nat × Nat)) (kl : List Nat) (a : Nat) (p : List Nat) (here : Nat) : Prop where
  w : Walk ds a p here
  nd : p.Nodup
  up : ∀ d ∈ p, ∀ x y, Joins ds d x y → kl.idxOf here ≤ kl.idxOf x ∧ kl.idxOf here ≤ kl.idxOf y
theorem Made.start {ds kl a} : Made ds kl a [] a := ⟨.nil _, List.nodup_nil, fun _ h => nomatch h⟩
theorem Made.step {ds shut room ks a p here d y} (T : ∃ n, Tree n ds) (M : Made ds (ks.map Prod.fst) a p here) (P : Ptr ds shut room ks) (h : (here, some (d, y)) ∈ ks) : Made ds (ks.map Prod.fst) a (p ++ [d]) y := by
  obtain ⟨j, ns, hy, lt⟩ := P.st here d y h
  refine ⟨M.w.snoc j, ?_, fun d' m x z k => ?_⟩
  · refine List.nodup_append.mpr ⟨M.nd, by simp, fun c hc b hb e => ?_⟩
    rw [List.mem_singleton.mp hb] at e
    subst e
    have := (M.up _ hc here y j).2
    omega
  · rcases List.mem_append.mp m with m | m
    · have := M.up d' m x z k
      omega
    · cases List.mem_singleton.mp m
      obtain ⟨n, T⟩ := T
      rcases j with j | j <;> rcases k with k | k <;> rw [j] at k <;> cases k
      · exact ⟨Nat.le_of_lt lt, Nat.le_refl _⟩
      · exact ⟨Nat.le_refl _, Nat.le_of_lt lt⟩
      · exact ⟨Nat.le_refl _, Nat.le_of_lt lt⟩
      · exact ⟨Nat.le_of_lt lt, Nat.le_refl _⟩
/-- the ways that the law makes: kl with the way to each -/
def Pth (ds : List (Nat × Nat)) (a : Nat) (ks : List (Nat × List Nat)) : Prop :=
  ∀ x p, (x, p) ∈ ks → Walk ds a p x ∧ p.Nodup ∧ ∀ d ∈ p, ∀ u v, Joins ds d u v → u ∈ ks.map Prod.fst ∧ v ∈ ks.map Prod.fst
theorem Pth.start {ds a} : Pth ds a [(a, [])] := fun x p m => by
  cases List.mem_singleton.mp m
  exact ⟨.nil _, List.nodup_nil, fun _ h => nomatch h⟩
theorem Pth.add {ds a ks x y p d} (P : Pth ds a ks) (h : (x, p) ∈ ks) (j : Joins ds d x y) (hy : y ∉ ks.map Prod.fst) : Pth ds a (ks ++ [(y, p ++ [d])]) := by
  intro x' p' m
  rw [List.map_append]
  rcases List.mem_append.mp m with m | m
  · obtain ⟨a, b, c⟩ := P x' p' m
    exact ⟨a, b, fun d hd u v k => ⟨List.mem_append.mpr (.inl (c d hd u v k).1), List.mem_append.mpr (.inl (c d hd u v k).2)⟩⟩
  · cases List.mem_singleton.mp m
    obtain ⟨a, b, c⟩ := P x p h
    have hx : x ∈ ks.map Prod.fst := List.mem_map.mpr ⟨_, h, rfl⟩
    refine ⟨a.snoc j, List.nodup_append.mpr ⟨b, by simp, fun c' hc b' hb e => ?_⟩, fun d' hd u v k => ?_⟩
    · rw [List.mem_singleton.mp hb] at e
      subst e
      exact hy (c _ hc x y j).2
    · rcases List.mem_append.mp hd with hd | hd
      · exact ⟨List.mem_append.mpr (.inl (c d' hd u v k).1), List.mem_append.mpr (.inl (c d' hd u v k).2)⟩
      · cases List.mem_singleton.mp hd
        have e1 := List.mem_append.mpr (.inl hx : x ∈ ks.map Prod.fst ∨ x ∈ [y])
        have e2 : y ∈ ks.map Prod.fst ++ [y] := List.mem_append.mpr (.inr (List.mem_singleton.mpr rfl))
        rcases j with j | j <;> rcases k with k | k <;> rw [j] at k <;> cases k
        · exact ⟨e1, e2⟩
        · exact ⟨e2, e1⟩
        · exact ⟨e2, e1⟩
        · exact ⟨e1, e2⟩
end K5

namespace K5
theorem perm_of_map {α β : Type} (f : α → β) : ∀ (l : List α) (ys : List β), ys.Perm (l.map f) → ∃ l' : List α, ys = l'.map f ∧ l'.Perm l
  | [], ys, h => ⟨[], h.eq_nil, List.Perm.refl _⟩
  | a :: r, ys, h => by
    have ha : f a ∈ ys := h.mem_iff.mpr List.mem_cons_self
    obtain ⟨s, t, rfl⟩ := List.append_of_mem ha
    have h2 : (s ++ t).Perm (r.map f) := (List.perm_middle.symm.trans h).cons_inv
    obtain ⟨r', e, p⟩ := perm_of_map f r _ h2
    refine ⟨r'.take s.length ++ a :: r'.drop s.length, ?_, ?_⟩
    · rw [List.map_append, List.map_cons, List.map_take, List.map_drop, ← e, List.take_left, List.drop_left]
    · have : (r'.take s.length ++ a :: r'.drop s.length).Perm (a :: r') := by
        have q := @List.perm_middle _ a (r'.take s.length) (r'.drop s.length)
        rw [List.take_append_drop] at q
        exact q
      exact this.trans (p.cons a)
theorem Tr0.nv {n : Nat} {es : List (Nat × Nat)} (T : Tr0 n es) {L : List Nat} (p : L.Perm (List.range n)) : Tr0 n (es.map fun e => (L.getD e.1 0, L.getD e.2 0)) := by
  have nd : L.Nodup := p.symm.nodup List.nodup_range
  have hl : L.length = n := by rw [p.length_eq, List.length_range]
  have hm : ∀ y, y ∈ L ↔ y < n := fun y => by rw [p.mem_iff, List.mem_range]
  have gd : ∀ x (h : x < n), L.getD x 0 = L[x]'(by omega) := fun x h => by
    rw [List.getD_eq_getElem?_getD, List.getElem?_eq_getElem (by omega)]
    rfl
  refine T.names (fun x => L.getD x 0) (fun y => L.idxOf y) (fun x h => ?_) (fun x h => ?_) (fun y h => ?_)
  · show L.getD x 0 < n
    rw [gd x h]
    exact (hm _).mp (List.getElem_mem _)
  · show L.idxOf (L.getD x 0) = x
    rw [gd x h]
    exact nd.idxOf_getElem x (by omega)
  · have hy := (hm y).mpr h
    have hi := List.idxOf_lt_length_iff.mpr hy
    refine ⟨by show L.idxOf y < n; omega, ?_⟩
    show L.getD (L.idxOf y) 0 = y
    rw [gd _ (by omega)]
    exact List.getElem_idxOf hi
end K5

/-! own rules: a class of the program: its methods as promises; != of two of its instances by its own __eq__ -/
namespace L2
open PySem PySem.Spec PyProof.Rows
/-- a class of the text; no name of its fields stands in it -/
structure ClsD (K : PySem.W.Frag) (mg : Str → Option Value) (x : Str) (C : Addr) (fs : List Str) : Prop where
  cl : Cls K C
  g : mg x = some (.ref C)
  no : ∀ f ∈ fs, NoAttr K C f
/-- a method of the text -/
def MetD (K : PySem.W.Frag) (C : Addr) (m qual : Str) (st : Stmt) : Prop := ∃ (f : Addr) (fd : FuncData), Fun K m qual st f fd ∧ Meth K C m f
/-- a method's promise -/
def CalM (P : Program) (w : World) (K : PySem.W.Frag) (mg : Str → Option Value) (base : Heap) (C : Addr) (m : Str) (ps : List Str) (k : Nat) (sp : Sp) : Prop :=
  ∃ (f : Addr) (fd : FuncData), Meth K C m f ∧ Binds K fd ps [] ∧ FnOk P w K mg base CX0 k f fd ps sp
theorem MetD.ok {P : Program} {w : World} {K : PySem.W.Frag} {mg : Str → Option Value} {base : Heap} {C : Addr} {m qual : Str} {st : Stmt} {N ps : List Str} {k : Nat} {sp : Sp} (D : MetD K C m qual st) (S : FnScope N ps (defScope st))
    (hb : ∀ (kV doc pm : Value) (an : Option Addr) (cdv ct : Value) (us : List Value), us.length = ps.length → bindArgs (PySem.W.fnOf m qual (defArgs st) (defBody st) (defScope st) .none kV doc pm an cdv ct) ⟨us, []⟩ = pure (ps.zip us))
    (ar : ∀ vs H Q E, sp vs H Q E → vs.length = ps.length)
    (hbody : ∀ (f : Addr) (cdv : Value) (A : Around) (outer : List Env) (s : Shared) (H : Hp) (vs : List V) (Q : VK) (E : XK), Room k (A.deeper (envOfC qual (defScope st) s.heap.objs.size f cdv)) → sp vs H Q E →
      ∃ t, PSs (cxOf CX0 P w K mg base N qual (defScope st) f cdv A outer s H E).nox (defBody st) t ∧ t { nx := fun _ H' => Q .non H', rt := Q } (start N vs) H) : CalM P w K mg base C m ps (k + 1) sp := by
  obtain ⟨f, fd, F, me⟩ := D
  exact ⟨f, fd, me, F.binds hb, F.ok S ar fun cdv A outer s H vs Q E hr h => hbody f cdv A outer s H vs Q E hr h⟩
section
variable {X : Cx} {C f : Addr} {fd : FuncData} {ps : List Str} {sp : Sp} {k : Nat} {CX : CXT} {E : XK}
/-- x != y: both of the class at C, whose own __eq__ answers True or False -/
def rNeOwn (C : Addr) (sp : Sp) (E : XK) : R2 := fun x y H Q => ∃ a dx fs b dy gs, x = .ref a ∧ y = .ref b ∧ H a = some (.ins C dx fs) ∧ H b = some (.ins C dy gs) ∧ sp [x, y] H (fun v H' => ∃ r, v = .bl r ∧ Q (.bl (!r)) H') E
theorem ins_at {pins : List (Addr × Obj)} {σ : St} {H : Hp} {s : Shared} {a dx : Addr} {fs : List (Str × V)} (I : Inv X pins σ H s) (h : H a = some (.ins C dx fs)) : ∃ od, PySem.W.InstAt s.heap a (PySem.W.instObj C dx) C (some od) := by
  obtain ⟨mA, O, _⟩ := ins_get I.hok h
  obtain ⟨od, ho, _⟩ := lookIn_ns O.ns
  exact ⟨od, O.obj, rfl, rfl, ho⟩
theorem op_neOwn (cE : PySem.W.findIn X.K (.ref C) "__eq__" = some (some (.ref f))) (cf : PySem.W.isFn X.K (.ref f) = true) (cN : PySem.W.findIn X.K (.ref C) "__ne__" = some (some (.builtin "object.__ne__"))) (cO : PySem.W.mroIn X.K C (.type "object") = some true)
    (F : FnOk X.prog X.w X.K X.mg X.base CX k f fd ps sp) (hr : Room (k + 1) X.A) (hb : Binds X.K fd ps []) (hx : Passes CX X E) : OpR X (compareOp .NotEq) (rNeOwn C sp E) := by
  intro pins s σ H x y v u Q I rx ry h
  obtain ⟨a, dx, fs, b, dy, gs, rfl, rfl, ha, hbb, q⟩ := h
  cases (show v = Value.ref a from rx)
  cases (show u = Value.ref b from ry)
  obtain ⟨od, J⟩ := ins_at I ha
  obtain ⟨od', J'⟩ := ins_at I hbb
  have X1 := I.kIn
  have units : X.A.units < cLine := hr.units0
  -- the call of the own __eq__, one level down
  have asked : wpAny (model X.prog X.w) X.A.in1 (call (.ref f) [.ref a, .ref b]) (fun r s' => ∃ t, r = .bool t ∧ EP X pins σ Q (.bool (!t)) s') X.xe s := by
    have r2 : Vals [V.ref a, V.ref b] [Value.ref a,
          Value.ref b] := .cons rfl (.cons rfl .nil)
    have hl : ([Value.ref a, Value.ref b] ++ []).length = ps.length := (F.len _ _ _ _ q).symm ▸ rfl
    have b2 := hb s [Value.ref a, Value.ref b] I.kIn (by rw [← F.len _ _ _ _ q]; rfl)
    refine wpAny_call (codeAny_mono (F.run X.A.in1 X.stack s H ⟨[.ref a, .ref b], []⟩ _ _ _ E hr.in1 I.env0.in1 b2 r2 q) fun r s' hq => ?_)
    cases r with
    | error e => exact hx pins σ H s e s' I hq
    | ok fl =>
      cases fl with
      | ret u =>
        obtain ⟨z, H', I2, rz, t, ez, qz⟩ := I.after hq
        subst ez
        cases rz
        exact ⟨t, rfl, .bl (!t), H', I2, rfl, qz⟩
      | next => exact False.elim hq
      | brk => exact False.elim hq
      | cont => exact False.elim hq
  have below : wpAny (model X.prog X.w) X.A.in1 (callSpecialIfBound? (.ref a) (Str.ofString "__eq__") [.ref b]) (fun r s' => ∃ t, r = some (.bool t) ∧ EP X pins σ Q (.bool (!t)) s') X.xe s :=
    PySem.W.ifBound_K X1 J cE cf (wpAny_mono asked (fun r s' ⟨t, e, z⟩ => ⟨t, congrArg some e, z⟩) fun _ _ e => e)
  have told : wpAny (model X.prog X.w) X.A (tryCompare (.ref a) (Str.ofString "__ne__") (.ref b)) (fun r s' => ∃ t, r = some (.bool t) ∧ EP X pins σ Q (.bool t) s') X.xe s := by
    unfold tryCompare
    have called : wpAny (model X.prog X.w) X.A (callSpecialIfBound? (.ref a) (Str.ofString "__ne__") [.ref b]) (fun r s' => ∃ t, r = some (.bool t) ∧ EP X pins σ Q (.bool t) s') X.xe s := by
      simp only [callSpecialIfBound?,
            bindSpecialIfBound?]
      refine wpAny_holding (wpAny_bind (wpAny_bind (wpAny_bind (J.type.here ((PySem.W.looks_findIn X1 cN).here ?_)))))
      simp only [PySem.F.cmp_object.ne.bind]
      refine wpAny_bind (wpAny_askSetting
            (wpAny_ite ?_))
      have it : wpAny (model X.prog X.w) X.A (call (.builtin "object.__ne__") ([.ref a] ++ [.ref b])) (fun r s' => ∃ t, r = .bool t ∧ EP X pins σ Q (.bool t) s') X.xe s := by
        refine wpAny_call (codeAny_call_builtin PySem.F.cmp_object.ne.plain PySem.F.cmpEntry_ne ?_)
        have body : wpAny (model X.prog X.w) X.A.in1 (Builtin.«object.__ne__» ⟨[.ref a, .ref b], []⟩) (fun fin s' => ∃ t, fin = .done (.ret (.bool t)) ∧ EP X pins σ Q (.bool t) s') X.xe s := by
          unfold Builtin.«object.__ne__»
          repeat (first
            | with_reducible refine wpAny_cRoomFor hr.in1.units0 ?_
            | (refine wpAny_bind (m := callSpecialIfBound? (.ref a) (Str.ofString "__eq__") [.ref b]) (wpAny_mono below (fun r s' hrr => by
                obtain ⟨t, rfl, hq⟩ := hrr
                repeat (first | exact ⟨_, rfl, hq⟩ | exact wpAny_pure ⟨_, rfl, hq⟩ | (refine wpAny_bind (m := truthy (.bool _)) (wpAny_truthy_bool ?_)) | wp_step)) fun _ _ e => e))
            | wp_step)
        simp only [checkBuiltinCall, PySem.F.cmpKind_ne, PySem.F.cmpSplit_ne]
        have isO : PySem.W.Looks (model X.prog X.w) s.heap (isInstance (.ref a) (.type "object")) true := J.type.andThen (PySem.W.looks_subIn X1 (show PySem.W.subIn X.K (.ref C) (.type "object") = some true from cO))
        have args := PySem.F.cmpArgs_ne (.ref a) (.ref b)
        show wpAny _ _ (isInstance (.ref a) (.type "object") >>= _) _ _ _
        refine wpAny_bind (isO.here ?_)
        simp only [Bool.not_true, Bool.false_eq_true,
              if_false]
        cases hsig : Manifest.signature? "object.__ne__" with
        | none => exact wpAny_pure (wpAny_mono body (fun fin s' ⟨t, e, z⟩ => by subst e; exact ⟨t, rfl, z⟩) fun _ _ z => z)
        | some sig =>
          simp only [argsOk, hsig] at args
          show wpAny _ _ (Bind.checkArgs "object.__ne__" sig ⟨[.ref a, .ref b], []⟩) _ _ _
          rw [show Bind.checkArgs "object.__ne__" sig ⟨[.ref a, .ref b], []⟩ = pure () from args]
          exact wpAny_pure (wpAny_mono body (fun fin s' ⟨t, e, z⟩ => by subst e; exact ⟨t, rfl, z⟩) fun _ _ z => z)
      have fin : wpAny (model X.prog X.w) X.A (call (.builtin "object.__ne__") ([.ref a] ++ [.ref b]) >>= fun v => pure (some v)) (fun r s' => ∃ t, r = some (.bool t) ∧ EP X pins σ Q (.bool t) s') X.xe s :=
        wpAny_bind (wpAny_mono it (fun v s' ⟨t, e, z⟩ => wpAny_pure ⟨t, congrArg some e, z⟩) fun _ _ z => z)
      split
      · exact wpAny_bind (wpAny_pure
            (wpAny_pure fin))
      · exact wpAny_tryCatch (wpAny_bind
            (wpAny_pure (wpAny_pure fin)))
    refine wpAny_bind (wpAny_mono called (fun r s' ⟨t, e, z⟩ => ?_) fun _ _ z => z)
    subst e
    exact wpAny_pure ⟨t, rfl, z⟩
  unfold compareOp
  show wpAny _ _ (richCompare .NotEq (.ref a) (.ref b)) _ _ _
  unfold richCompare
  simp only [oneThing_ref]
  refine wpAny_holding (wpAny_bind (wpAny_cRoomFor units ?_))
  refine wpAny_bind (J.type.here (wpAny_bind (J'.type.here ?_)))
  rw [cmpInfo_NotEq]
  dsimp only
  rw [show (Value.ref C != Value.ref
        C) = false from by simp]
  simp only [Bool.false_eq_true, if_false]
  refine wpAny_bind (wpAny_pure ?_)
  simp only [Bool.false_eq_true, if_false]
  refine wpAny_bind (wpAny_mono told (fun r s' ⟨t, e, z⟩ => ?_) fun _ _ z => z)
  subst e
  exact wpAny_pure z
end
end L2

namespace K5
open PySem PySem.Spec PyProof.Rows L2
def top (i : Nat) : Stmt := PySem.Challenge.pw_lastthrough_k82_whole_plans_joined_and_e.main.body.getD i (.Pass ⟨0, 0, 0, 0⟩)
def mem (j : Nat) (s : Stmt) : Stmt := match s with
  | .ClassDef _ _ _ body _ _ _ _ _ _ _
        => body.getD j (.Pass ⟨0, 0, 0, 0⟩)
  | _ => .Pass ⟨0, 0, 0, 0⟩
abbrev s_is_whole : Stmt := top 9
abbrev N_is_whole : List Str := ["value"]
theorem sc_is_whole : FnScope N_is_whole ["value"] (defScope s_is_whole) := ⟨rfl, rfl, rfl, by decide +kernel, rfl, by decide +kernel, by decide +kernel⟩
abbrev s_is_index : Stmt := top 10
abbrev N_is_index : List Str := ["value", "count"]
theorem sc_is_index : FnScope N_is_index ["value", "count"] (defScope s_is_index) := ⟨rfl, rfl, rfl, by decide +kernel, rfl, by decide +kernel, by decide +kernel⟩
abbrev s_is_door : Stmt := top 11
abbrev N_is_door : List Str := ["value", "count", "a", "b"]
theorem sc_is_door : FnScope N_is_door ["value", "count"] (defScope s_is_door) := ⟨rfl, rfl, rfl, by decide +kernel, rfl, by decide +kernel, by decide +kernel⟩
abbrev s_check_house : Stmt := top 12
abbrev N_check_house : List Str := ["value", "door", "ends", "ring"]
theorem sc_check_house : FnScope N_check_house ["value"] (defScope s_check_house) := ⟨rfl, rfl, rfl, by decide +kernel, rfl, by decide +kernel, by decide +kernel⟩
abbrev s_first_ring : Stmt := top 13
abbrev N_first_ring : List Str := ["doors", "links", "door", "a", "b", "a_root", "b_root"]
theorem sc_first_ring : FnScope N_first_ring ["doors"] (defScope s_first_ring) := ⟨rfl, rfl, rfl, by decide +kernel, rfl, by decide +kernel, by decide +kernel⟩
abbrev s_find_root : Stmt := top 14
abbrev N_find_root : List Str := ["links", "room"]
theorem sc_find_root : FnScope N_find_root ["links", "room"] (defScope s_find_root) := ⟨rfl, rfl, rfl, by decide +kernel, rfl, by decide +kernel, by decide +kernel⟩
abbrev s_need_house : Stmt := top 15
abbrev N_need_house : List Str := ["house", "reason"]
theorem sc_need_house : FnScope N_need_house ["house"] (defScope s_need_house) := ⟨rfl, rfl, rfl, by decide +kernel, rfl, by decide +kernel, by decide +kernel⟩
abbrev s_doors_by_ends : Stmt := top 16
abbrev N_doors_by_ends : List Str := ["house", "doors", "door", "a", "b"]
theorem sc_doors_by_ends : FnScope N_doors_by_ends ["house"] (defScope s_doors_by_ends) := ⟨rfl, rfl, rfl, by decide +kernel, rfl, by decide +kernel, by decide +kernel⟩
abbrev s_has_state_shape : Stmt := top 18
abbrev N_has_state_shape : List Str := ["house", "value", "rooms", "barred"]
theorem sc_has_state_shape : FnScope N_has_state_shape ["house", "value"] (defScope s_has_state_shape) := ⟨rfl, rfl, rfl, by decide +kernel, rfl, by decide +kernel, by decide +kernel⟩
abbrev s_check_state : Stmt := top 19
abbrev N_check_state : List Str := ["house", "value", "rooms", "barred", "person", "room", "door"]
theorem sc_check_state : FnScope N_check_state ["house", "value"] (defScope s_check_state) := ⟨rfl, rfl, rfl, by decide +kernel, rfl, by decide +kernel, by decide +kernel⟩
abbrev s_is_move : Stmt := top 20
abbrev N_is_move : List Str := ["doors", "people", "value", "person", "start", "end"]
theorem sc_is_move : FnScope N_is_move ["doors", "people", "value"] (defScope s_is_move) := ⟨rfl, rfl, rfl, by decide +kernel, rfl, by decide +kernel, by decide +kernel⟩
abbrev s_check_plan : Stmt := top 21
abbrev N_check_plan : List Str := ["house", "people", "value", "doors", "index", "move"]
theorem sc_check_plan : FnScope N_check_plan ["house", "people", "value"] (defScope s_check_plan) := ⟨rfl, rfl, rfl, by decide +kernel, rfl, by decide +kernel, by decide +kernel⟩
abbrev s_need_people : Stmt := top 22
abbrev N_need_people : List Str := ["people"]
theorem sc_need_people : FnScope N_need_people ["people"] (defScope s_need_people) := ⟨rfl, rfl, rfl, by decide +kernel, rfl, by decide +kernel, by decide +kernel⟩
abbrev s_need_state : Stmt := top 23
abbrev N_need_state : List Str := ["house", "state", "reason"]
theorem sc_need_state : FnScope N_need_state ["house", "state"] (defScope s_need_state) := ⟨rfl, rfl, rfl, by decide +kernel, rfl, by decide +kernel, by decide +kernel⟩
abbrev s_need_plan : Stmt := top 24
abbrev N_need_plan : List Str := ["house", "people", "plan", "reason"]
theorem sc_need_plan : FnScope N_need_plan ["house", "people", "plan"] (defScope s_need_plan) := ⟨rfl, rfl, rfl, by decide +kernel, rfl, by decide +kernel, by decide +kernel⟩
abbrev s_played : Stmt := top 25
abbrev N_played : List Str := ["doors", "state", "plan", "rooms", "barred", "index", "person", "start", "end", "door"]
theorem sc_played : FnScope N_played ["doors", "state", "plan"] (defScope s_played) := ⟨rfl, rfl, rfl, by decide +kernel, rfl, by decide +kernel, by decide +kernel⟩
abbrev s_play : Stmt := top 26
abbrev N_play : List Str := ["house", "state", "plan"]
theorem sc_play : FnScope N_play ["house", "state", "plan"] (defScope s_play) := ⟨rfl, rfl, rfl, by decide +kernel, rfl, by decide +kernel, by decide +kernel⟩
abbrev s_l_cell : Stmt := top 30
abbrev N_l_cell : List Str := ["_law_script", "_law_index"]
theorem sc_l_cell : FnScope N_l_cell ["_law_script", "_law_index"] (defScope s_l_cell) := ⟨rfl, rfl, rfl, by decide +kernel, rfl, by decide +kernel, by decide +kernel⟩
abbrev s_l_hash : Stmt := top 31
abbrev N_l_hash : List Str := ["_law_seed", "_law_index", "_law_mixed"]
theorem sc_l_hash : FnScope N_l_hash ["_law_seed", "_law_index"] (defScope s_l_hash) := ⟨rfl, rfl, rfl, by decide +kernel, rfl, by decide +kernel, by decide +kernel⟩
abbrev s_l_generator : Stmt := top 32
abbrev N_l_generator : List Str := ["_law_script", "_law_index", "_law_seed"]
theorem sc_l_generator : FnScope N_l_generator ["_law_script", "_law_index"] (defScope s_l_generator) := ⟨rfl, rfl, rfl, by decide +kernel, rfl, by decide +kernel, by decide +kernel⟩
abbrev s_l_random : Stmt := top 33
abbrev N_l_random : List Str := ["_law_generator_here", "_law_bound", "_law_drawn", "_law_part"]
theorem sc_l_random : FnScope N_l_random ["_law_generator_here", "_law_bound"] (defScope s_l_random) := ⟨rfl, rfl, rfl, by decide +kernel, rfl, by decide +kernel, by decide +kernel⟩
abbrev s_l_shuffled : Stmt := top 34
abbrev N_l_shuffled : List Str := ["_law_generator_here", "_law_items", "_law_pool", "_law_item"]
theorem sc_l_shuffled : FnScope N_l_shuffled ["_law_generator_here", "_law_items"] (defScope s_l_shuffled) := ⟨rfl, rfl, rfl, by decide +kernel, rfl, by decide +kernel, by decide +kernel⟩
abbrev s_l_random_house : Stmt := top 35
abbrev N_l_random_house : List Str := ["_law_generator_here", "_law_most", "_law_size", "_law_kind", "_law_doors", "_law_room", "_law_other", "_law_names", "_law_renamed", "_law_one", "_law_ends"]
theorem sc_l_random_house : FnScope N_l_random_house ["_law_generator_here", "_law_most"] (defScope s_l_random_house) := ⟨rfl, rfl, rfl, by decide +kernel, rfl, by decide +kernel, by decide +kernel⟩
abbrev s_l_random_state : Stmt := top 36
abbrev N_l_random_state : List Str := ["_law_generator_here", "_law_doors", "_law_people", "_law_size", "_law_spread", "_law_places", "_law_person", "_law_door_here"]
theorem sc_l_random_state : FnScope N_l_random_state ["_law_generator_here", "_law_doors", "_law_people"] (defScope s_l_random_state) := ⟨rfl, rfl, rfl, by decide +kernel, rfl, by decide +kernel, by decide +kernel⟩
abbrev s_l_neighbours : Stmt := top 37
abbrev N_l_neighbours : List Str := ["_law_doors", "_law_place", "_law_found", "_law_index", "_law_ends"]
theorem sc_l_neighbours : FnScope N_l_neighbours ["_law_doors", "_law_place"] (defScope s_l_neighbours) := ⟨rfl, rfl, rfl, by decide +kernel, rfl, by decide +kernel, by decide +kernel⟩
abbrev s_l_moved : Stmt := top 38
abbrev N_l_moved : List Str := ["_law_doors", "_law_position", "_law_step", "_law_person", "_law_start", "_law_end", "_law_places", "_law_bars", "_law_index", "_law_other", "_law_number", "_law_new_places"]
theorem sc_l_moved : FnScope N_l_moved ["_law_doors", "_law_position", "_law_step"] (defScope s_l_moved) := ⟨rfl, rfl, rfl, by decide +kernel, rfl, by decide +kernel, by decide +kernel⟩
abbrev s_l_steps : Stmt := top 39
abbrev N_l_steps : List Str := ["_law_doors", "_law_position", "_law_steps_here", "_law_person", "_law_place", "_law_other", "_law_index"]
theorem sc_l_steps : FnScope N_l_steps ["_law_doors", "_law_position"] (defScope s_l_steps) := ⟨rfl, rfl, rfl, by decide +kernel, rfl, by decide +kernel, by decide +kernel⟩
abbrev s_l_random_steps : Stmt := top 40
abbrev N_l_random_steps : List Str := ["_law_generator_here", "_law_doors", "_law_position", "_law_most", "_law_steps_here", "_law_attempt", "_law_allowed", "_law_step"]
theorem sc_l_random_steps : FnScope N_l_random_steps ["_law_generator_here", "_law_doors", "_law_position", "_law_most"] (defScope s_l_random_steps) := ⟨rfl, rfl, rfl, by decide +kernel, rfl, by decide +kernel, by decide +kernel⟩
abbrev s_l_door : Stmt := top 41
abbrev N_l_door : List Str := ["_law_doors", "_law_step", "_law_other", "_law_index"]
theorem sc_l_door : FnScope N_l_door ["_law_doors", "_law_step"] (defScope s_l_door) := ⟨rfl, rfl, rfl, by decide +kernel, rfl, by decide +kernel, by decide +kernel⟩
abbrev s_l_parts_right : Stmt := top 42
abbrev N_l_parts_right : List Str := ["_law_doors", "_law_position", "_law_steps_here", "_law_cut", "_law_middle", "_law_final", "_law_session"]
theorem sc_l_parts_right : FnScope N_l_parts_right ["_law_doors", "_law_position", "_law_steps_here", "_law_cut"] (defScope s_l_parts_right) := ⟨rfl, rfl, rfl, by decide +kernel, rfl, by decide +kernel, by decide +kernel⟩
abbrev s_l_exchange_right : Stmt := top 43
abbrev N_l_exchange_right : List Str := ["_law_doors", "_law_position", "_law_steps_here", "_law_final", "_law_index", "_law_first", "_law_second"]
theorem sc_l_exchange_right : FnScope N_l_exchange_right ["_law_doors", "_law_position", "_law_steps_here"] (defScope s_l_exchange_right) := ⟨rfl, rfl, rfl, by decide +kernel, rfl, by decide +kernel, by decide +kernel⟩
abbrev s_l_changes_right : Stmt := top 44
abbrev N_l_changes_right : List Str := ["_law_generator_here", "_law_doors", "_law_position", "_law_steps_here", "_law_places", "_law_bars", "_law_users", "_law_last_rooms", "_law_step", "_law_new_bars", "_law_index", "_law_person", "_law_other", "_law_other_bars", "_law_expected"]
theorem sc_l_changes_right : FnScope N_l_changes_right ["_law_generator_here", "_law_doors", "_law_position", "_law_steps_here"] (defScope s_l_changes_right) := ⟨rfl, rfl, rfl, by decide +kernel, rfl, by decide +kernel, by decide +kernel⟩
abbrev s_law : Stmt := top 45
abbrev N_law : List Str := ["_law_script", "_law_index", "_law_generator_here", "_law_doors", "_law_attempt", "_law_position", "_law_steps_here"]
theorem sc_law : FnScope N_law ["_law_script"] (defScope s_law) := ⟨rfl, rfl, rfl, by decide +kernel, rfl, by decide +kernel, by decide +kernel⟩
abbrev s_Session_init : Stmt := mem 0 (top 28)
abbrev N_Session_init : List Str := ["self", "house", "state"]
theorem sc_Session_init : FnScope N_Session_init ["self", "house", "state"] (defScope s_Session_init) := ⟨rfl, rfl, rfl, by decide +kernel, rfl, by decide +kernel, by decide +kernel⟩
abbrev s_Session_play : Stmt := mem 2 (top 28)
abbrev N_Session_play : List Str := ["self", "plan"]
theorem sc_Session_play : FnScope N_Session_play ["self", "plan"] (defScope s_Session_play) := ⟨rfl, rfl, rfl, by decide +kernel, rfl, by decide +kernel, by decide +kernel⟩
abbrev s_Session_make : Stmt := mem 3 (top 28)
abbrev N_Session_make : List Str := ["self", "plan", "after"]
theorem sc_Session_make : FnScope N_Session_make ["self", "plan"] (defScope s_Session_make) := ⟨rfl, rfl, rfl, by decide +kernel, rfl, by decide +kernel, by decide +kernel⟩
abbrev s_Session_moves : Stmt := mem 6 (top 28)
abbrev N_Session_moves : List Str := ["self"]
theorem sc_Session_moves : FnScope N_Session_moves ["self"] (defScope s_Session_moves) := ⟨rfl, rfl, rfl, by decide +kernel, rfl, by decide +kernel, by decide +kernel⟩
abbrev s_Session_eq : Stmt := mem 9 (top 28)
abbrev N_Session_eq : List Str := ["self", "other"]
theorem sc_Session_eq : FnScope N_Session_eq ["self", "other"] (defScope s_Session_eq) := ⟨rfl, rfl, rfl, by decide +kernel, rfl, by decide +kernel, by decide +kernel⟩
/-- the built-ins that the text calls stand as they were -/
structure Bl (mg : Str → Option Value) : Prop where
  len : mg "len" = none
  isinstance : mg "isinstance" = none
  enumerate : mg "enumerate" = none
  range : mg "range" = none
  list : mg "list" = none
  set : mg "set" = none
  sorted : mg "sorted" = none
  max : mg "max" = none
  min : mg "min" = none
  tuple : mg "tuple" = none
  int : mg "int" = none
  bool : mg "bool" = none
  all : mg "all" = none

/-- a house at a: a tuple of tuples -/
def HouseAt (K : PySem.W.Frag) (H : Hp) (a : Addr) (ds : List (Nat × Nat)) : Prop :=
  ∃ rs : List Addr, SqT K H a (rs.map V.ref) ∧ rs.length = ds.length ∧ ∀ (d : Nat) (r : Addr) (e : Nat × Nat), rs[d]? = some r → ds[d]? = some e → SqT K H r [.int e.1, .int e.2]
section
variable {K : PySem.W.Frag} {H H' : Hp} {a g : Addr} {ds : List (Nat × Nat)}
theorem HouseAt.same (h : HouseAt K H a ds) (s : Same H H') : HouseAt K H' a ds := by
  obtain ⟨rs, h1, h2, h3⟩ := h
  exact ⟨rs, s.tup h1, h2, fun d r e x y => s.tup (h3 d r e x y)⟩
theorem HouseAt.but {xs : List V} (h : HouseAt K H a ds) (hg : H g = some (.lst xs)) (s : But g H H') : HouseAt K H' a ds := by
  obtain ⟨rs, h1, h2, h3⟩ := h
  exact ⟨rs, s.tup hg h1, h2, fun d r e x y => s.tup hg (h3 d r e x y)⟩
theorem ty_tup {xs : List V} (h : SqT K H a xs) : TyX K H (.ref a) (.type "tuple") := by
  rcases h with (h | ⟨o, h⟩) | ⟨o, its, n, h, c, _⟩
  · exact .base (.tup h)
  · exact .fTuple h
  · exact .kTuple h c
end
end K5

namespace K5
open PySem PySem.Spec PyProof.Rows L2
def spWhole : Sp := fun vs H Q _ => ∃ i : Int, vs = [.int i] ∧ Q (.bl true) H
def spIndex : Sp := fun vs H Q _ => ∃ i n : Int, vs = [.int i, .int n] ∧ Q (.bl (decide (0 ≤ i ∧ i < n))) H
def spDoor (K : PySem.W.Frag) : Sp := fun vs H Q _ => ∃ (a : Addr) (x y n : Int), vs = [.ref a, .int n] ∧ SqT K H a [.int x, .int y] ∧ (0 ≤ x ∧ x < n) ∧ (0 ≤ y ∧ y < n) ∧ x ≠ y ∧ Q (.bl true) H
section
variable {P : Program} {w : World} {K : PySem.W.Frag}
      {mg : Str → Option Value} {base : Heap}
theorem ok_is_whole (T : Bl mg) (D : Def K mg "is_whole" s_is_whole) : Cal P w K mg base "is_whole" ["value"] 1 spWhole := by
  refine D.ok sc_is_whole (fun _ _ _ _ _ _ us hl => match us, hl with | [_], _ => rfl) (fun vs H Q E h => ?_) (fun f cdv A outer s H vs Q E hr h => ?_)
  · obtain ⟨i, rfl, _⟩ := h
    rfl
  obtain ⟨i, rfl, q⟩ := h
  refine ⟨_, (pss_one (ps_ret (pe_and (pe_callB call_isi (by rfl) T.isinstance (by decide +kernel) (pa_cons (pv 0) (pa_cons (pe_bltn (v := .ty "int") (u := .type "int") (by rfl) T.int (by decide +kernel) rfl) pa_nil))) (pe_one (pe_not (pe_callB call_isi (by rfl) T.isinstance (by decide +kernel) (pa_cons (pv 0) (pa_cons (pe_bltn (v := .ty "bool") (u := .type "bool") (by rfl) T.bool (by decide +kernel) rfl) pa_nil)))))))), ?_⟩
  refine ⟨_, rfl, _, _, _, _, _, rfl, .ty _, .base (.int _), kit_ty (r := true) (by decide +kernel), _, rfl, iteT ?_⟩
  refine ⟨_, rfl, _, _, _, _, _, rfl, .ty _, .base (.int _), kit_ty (r := false) (by decide +kernel), _, rfl, q⟩
theorem ok_is_index (T : Bl mg) (D : Def K mg "is_index" s_is_index) (C_is_whole : Cal P w K mg base "is_whole" ["value"] 1 spWhole) : Cal P w K mg base "is_index" ["value", "count"] 2 spIndex := by
  refine D.ok sc_is_index (fun _ _ _ _ _ _ us hl => match us, hl with | [_, _], _ => rfl) (fun vs H Q E h => ?_) (fun f cdv A outer s H vs Q E hr h => ?_)
  · obtain ⟨i, n, rfl, _⟩ := h
    rfl
  obtain ⟨i, n, rfl, q⟩ := h
  obtain ⟨f_is_whole, fd_is_whole, g_is_whole, k_is_whole, b_is_whole, G_is_whole⟩ := C_is_whole
  refine ⟨_, (pss_one (ps_ret (pe_and (pe_call G_is_whole (hr.mono (by decide)) (by rfl) g_is_whole k_is_whole b_is_whole .nil pass0 (pa_cons (pv 0) pa_nil)) (pe_one (pe_chain op_le op_lt pe_int (pv 0) (pv 1)))))), ?_⟩
  refine ⟨_, rfl, _, rfl, _, rfl, iteT ?_⟩
  refine ⟨_, rfl, _, _, rfl, rfl, _, rfl, ite2 (fun h => ?_) (fun h => ?_)⟩
  · have h := of_decide_eq_true h
    refine ⟨_, rfl, _, _, rfl, rfl, ?_⟩
    have e : decide (i < n) = decide (0 ≤ i ∧ i < n) := by simp [h]
    show Q (.bl (decide (i < n))) H
    rw [e]
    exact q
  · have e : false = decide (0 ≤ i ∧ i < n) := by
      have h : ¬ 0 ≤ i := fun z => h (decide_eq_true z)
      simp [h]
    show Q (.bl false) H
    rw [e]
    exact q
theorem ok_is_door (T : Bl mg) (D : Def K mg "is_door" s_is_door) (C_is_index : Cal P w K mg base "is_index" ["value", "count"] 2 spIndex) : Cal P w K mg base "is_door" ["value", "count"] 3 (spDoor K) := by
  refine D.ok sc_is_door (fun _ _ _ _ _ _ us hl => match us, hl with | [_, _], _ => rfl) (fun vs H Q E h => ?_) (fun f cdv A outer s H vs Q E hr h => ?_)
  · obtain ⟨a, x, y, n, rfl, _⟩ := h
    rfl
  obtain ⟨a, x, y, n, rfl, ht, hx, hy, hne, q⟩ := h
  obtain ⟨f_is_index, fd_is_index, g_is_index, k_is_index, b_is_index, G_is_index⟩ := C_is_index
  refine ⟨_, (pss_cons (ps_if (PW.pt (pw_or (pt_not (pt_val (pe_callB call_isi (by rfl) T.isinstance (by decide +kernel) (pa_cons (pv 0) (pa_cons (pe_bltn (v := .ty "tuple") (u := .type "tuple") (by rfl) T.tuple (by decide +kernel) rfl) pa_nil))))) (pw_or1 (pt_cmpR op_ne (pe_callB call_len_seq (by rfl) T.len PySem.boot_len (pa_cons (pv 0) pa_nil)) pe_int (nomark _))))) (pss_one (ps_ret pe_bl)) pss_nil)
    (pss_cons (ps_asg (pv 0) (pg_tup (n := 2) rfl (pgs_cons (pg_name (i := 2) sc_is_door.nd rfl (.inl rfl)) (pgs_cons (pg_name (i := 3) sc_is_door.nd rfl (.inl rfl)) pgs_nil))))
    (pss_one (ps_ret (pe_and (pe_call G_is_index (hr.mono (by decide)) (by rfl) g_is_index k_is_index b_is_index .nil pass0 (pa_cons (pv 2) (pa_cons (pv 1) pa_nil))) (pe_and (pe_call G_is_index (hr.mono (by decide)) (by rfl) g_is_index k_is_index b_is_index .nil pass0 (pa_cons (pv 3) (pa_cons (pv 1) pa_nil))) (pe_one (pe_cmpR op_ne (pv 2) (pv 3) (nomark _))))))))), ?_⟩
  refine ⟨_, rfl, _, _, _, _, _, rfl, .ty _, ty_tup ht, kit_ty (r := true) (by decide +kernel), _, rfl, iteF ?_⟩
  refine ⟨_, rfl, _, _, rfl, .inr ht, rfl, _, rfl, iteF ?_⟩
  refine ⟨_, rfl, _, _, rfl, ht, rfl, _, _, rfl, _, _, rfl, rfl, ?_⟩
  refine ⟨_, rfl, _, rfl, _, _, rfl, _, rfl, ?_⟩
  rw [decide_eq_true hx]
  refine iteT ⟨_, rfl, _, rfl, _, _, rfl, _, rfl, ?_⟩
  rw [decide_eq_true hy]
  refine iteT ⟨_, rfl, _, rfl, rfl, ?_⟩
  rw [decide_eq_false (show ¬ V.int x = V.int y from fun z => hne (V.int.inj z))]
  exact q
end
end K5

namespace K5
open PySem PySem.Spec PyProof.Rows L2
/-- a list of numbers as values -/
def nv (L : List Nat) : List V := L.map fun (x : Nat) => V.int (x : Int)
theorem nv_len (L : List Nat) : (nv L).length = L.length := by unfold nv; rw [List.length_map]
theorem nv_get {L : List Nat} {x y : Nat} (h : L[x]? = some y) : (nv L)[x]? = some (.int (y : Int)) := by
  unfold nv
  rw [List.getElem?_map, h]
  rfl
theorem nv_set (L : List Nat) (x y : Nat) : (nv L).set x (.int (y : Int)) = nv (L.set x y) := by
  unfold nv
  rw [List.map_set]
theorem nv_at {L : List Nat} {x y : Nat} (h : L[x]? = some y) : atI (nv L) (x : Int) = some (.int (y : Int)) := atI_nat (nv_get h)
theorem ixN_nat {n x : Nat} (h : x < n) : ixN n (x : Int) = some x := by
  unfold ixN
  rw [if_pos (by omega), if_pos (by omega), Int.toNat_natCast]
theorem upd_self {H : Hp} {p : Addr} {o : HO} (h : H p = some o) : upd H p o = H := by
  funext b
  unfold upd
  by_cases e : b = p
  · rw [if_pos e, e, h]
  · rw [if_neg e]
theorem get_of {α : Type} {L : List α} {n x : Nat} (h : L.length = n) (hx : x < n) : ∃ y, L[x]? = some y := ⟨_, List.getElem?_eq_getElem (h ▸ hx)⟩
theorem rgV_nat (n : Nat) : rgV 0 (n : Int) = nv (List.range n) := by
  unfold rgV nv
  rw [show ((n : Int) - 0).toNat = n by omega]
  apply List.map_congr_left
  intro i _
  rw [Int.zero_add]
theorem dec_ne {i j : Int} (h : i ≠ j) : decide (V.int i = V.int j) = false := decide_eq_false fun z => h (V.int.inj z)
theorem dec_eq (i : Int) : decide (V.int i = V.int i) = true := decide_eq_true rfl
def spFind : Sp := fun vs H Q _ => ∃ (p : Addr) (L : List Nat) (n : Nat) (rank : Nat → Nat) (R : Nat → Nat → Prop) (room : Nat), vs = [.ref p, .int (room : Int)] ∧ H p = some (.lst (nv L)) ∧ Uf n L rank R ∧
  (∀ a b c, R a b → R b c → R a c) ∧ (∀ a, R a a) ∧ room < n ∧ ∀ (L' : List Nat) (r : Nat), Uf n L' rank R → R room r → L'[r]? = some r → (∀ x : Nat, L[x]? = some x → L'[x]? = some x) → Q (.int (r : Nat)) (upd H p (.lst (nv L')))
def spRing (K : PySem.W.Frag) : Sp := fun vs H Q _ => ∃ (a : Addr) (ds : List (Nat × Nat)) (n : Nat), vs = [.ref a] ∧ HouseAt K H a ds ∧ Tree n ds ∧ n ≤ 1000 ∧ ∀ H', Same H H' → Q .non H'
section
variable {P : Program} {w : World} {K : PySem.W.Frag}
      {mg : Str → Option Value} {base : Heap}
theorem ok_find_root (T : Bl mg) (D : Def K mg "find_root" s_find_root) : Cal P w K mg base "find_root" ["links", "room"] 1 spFind := by
  refine D.ok sc_find_root (fun _ _ _ _ _ _ us hl => match us, hl with | [_, _], _ => rfl) (fun vs H Q E h => ?_) (fun f cdv A outer s H vs Q E hr h => ?_)
  · obtain ⟨p, L, n, rank, R, room, rfl, _⟩ := h
    rfl
  obtain ⟨p, L, n, rank, R, room, rfl, hp, u, tr, rf, hlt, q⟩ := h
  refine ⟨_, (pss_cons (ps_while PassesOwn.never (pt_cmpR op_ne (pe_ix ix_list (pv 0) (pv 1) (fun _ _ => rfl)) (pv 1) (nomark _)) (pss_cons (ps_asg (pe_ix ix_list (pv 0) (pe_ix ix_list (pv 0) (pv 1) (fun _ _ => rfl)) (fun _ _ => rfl)) (pg_sub (pv 0) (pv 1) set_list))
    (pss_one (ps_set (i := 1) sc_find_root.nd rfl (.inl rfl) (pe_ix ix_list (pv 0) (pv 1) (fun _ _ => rfl))))))
    (pss_one (ps_ret (pv 1)))), ?_⟩
  refine ⟨fun m σ H1 => ∃ (L1 : List Nat) (r : Nat), m = rank r ∧ σ = [some (.ref p), some (.int (r : Nat))] ∧ H1 = upd H p (.lst (nv L1)) ∧ Uf n L1 rank R ∧ R room r ∧ r < n ∧ ∀ x : Nat, L[x]? = some x → L1[x]? = some x, ⟨rank room, L, room, rfl, rfl, (upd_self hp).symm, u, rf _, hlt, fun _ h => h⟩, fun m σ H1 hW => ?_⟩
  obtain ⟨L1, r, rfl, rfl, rfl, u1, rr, hr1, ro⟩ := hW
  obtain ⟨y, hy⟩ := get_of u1.len hr1
  refine ⟨_, rfl, _, rfl, _, _, _, _, rfl, rfl, SqL.of upd_same, nv_at hy, _, rfl, rfl, _, rfl, ?_⟩
  by_cases e : y = r
  · subst e
    rw [dec_eq]
    exact iteF ⟨_, rfl, q L1 y u1 rr hy ro⟩
  · rw [dec_ne (by omega)]
    obtain ⟨z, hz⟩ := get_of u1.len (u1.at_ _ _ hy).1
    refine iteT ⟨fun σ' H' => ∃ (L2 : List Nat) (r2 : Nat), rank r2 < rank r ∧ σ' = [some (.ref p), some (.int (r2 : Nat))] ∧ H' = upd H p (.lst (nv L2)) ∧ Uf n L2 rank R ∧ R room r2 ∧ r2 < n ∧ ∀ x : Nat, L[x]? = some x → L2[x]? = some x, fun σ' H' ⟨L2, r2, h1, h2⟩ => ⟨_, h1, L2, r2, rfl, h2⟩, ?_⟩
    refine ⟨_, rfl, _, rfl, _, rfl, _, _, _, _, rfl, rfl, SqL.of upd_same, nv_at hy, _, _, _, _, rfl, rfl, SqL.of upd_same, nv_at hz, ?_⟩
    refine ⟨_, rfl, _, rfl, _, _, _, r, rfl, rfl, upd_same, ixN_nat (by rw [nv_len, u1.len]; exact hr1), ?_⟩
    rw [upd_upd, nv_set]
    have hz' : (L1.set r z)[r]? = some z := by
      rw [List.getElem?_set_self (by rw [u1.len]; exact hr1)]
    refine ⟨_, rfl, _, rfl, _, _, _, _, rfl, rfl, SqL.of upd_same, nv_at hz', ?_⟩
    have a1 := u1.at_ _ _ hy
    have a2 := u1.at_ _ _ hz
    refine ⟨L1.set r z, z, u1.less hy hz e, rfl, rfl, u1.half tr hy hz, tr _ _ _ rr (tr _ _ _ a1.2.1 a2.2.1), a2.1, fun x hx => ?_⟩
    have h1 := ro x hx
    have ne : r ≠ x := fun z => by
      subst z
      rw [h1] at hy
      exact e (Option.some.inj hy).symm
    rw [List.getElem?_set_ne ne]
    exact h1
theorem ok_first_ring (T : Bl mg) (D : Def K mg "first_ring" s_first_ring) (C_find_root : Cal P w K mg base "find_root" ["links", "room"] 1 spFind) : Cal P w K mg base "first_ring" ["doors"] 2 (spRing K) := by
  refine D.ok sc_first_ring (fun _ _ _ _ _ _ us hl => match us, hl with | [_], _ => rfl) (fun vs H Q E h => ?_) (fun f cdv A outer s H vs Q E hr h => ?_)
  · obtain ⟨a, ds, n, rfl, _⟩ := h
    rfl
  obtain ⟨a, ds, n, rfl, hH, tree, hn, q⟩ := h
  obtain ⟨rs, hrs, hlen, hds⟩ := id hH
  obtain ⟨side, s1, s2⟩ := tree.side
  have hdn := tree.len
  obtain ⟨f_find_root, fd_find_root, g_find_root, k_find_root, b_find_root, G_find_root⟩ := C_find_root
  refine ⟨_, (pss_cons (ps_set (i := 1) sc_first_ring.nd rfl (.inl rfl) (pe_listRg rfl (by rfl) T.list (prg_1 (by rfl) T.range (pe_op op_add (pe_callB call_len_seq (by rfl) T.len PySem.boot_len (pa_cons (pv 0) pa_nil)) pe_int))))
    (pss_cons (ps_for PassesOwn.never rfl (pi_enumT (by rfl) T.enumerate (pa_cons (pv 0) pa_nil)) (pg_tup (n := 2) rfl (pgs_cons (pg_name (i := 2) sc_first_ring.nd rfl (.inl rfl)) (pgs_cons (pg_tup (n := 2) rfl (pgs_cons (pg_name (i := 3) sc_first_ring.nd rfl (.inl rfl)) (pgs_cons (pg_name (i := 4) sc_first_ring.nd rfl (.inl rfl)) pgs_nil))) pgs_nil)))
    (pss_cons (ps_set (i := 5) sc_first_ring.nd rfl (.inl rfl) (pe_call G_find_root (hr.mono (by decide)) (by rfl) g_find_root k_find_root b_find_root .nil pass0 (pa_cons (pv 1) (pa_cons (pv 3) pa_nil))))
    (pss_cons (ps_set (i := 6) sc_first_ring.nd rfl (.inl rfl) (pe_call G_find_root (hr.mono (by decide)) (by rfl) g_find_root k_find_root b_find_root .nil pass0 (pa_cons (pv 1) (pa_cons (pv 4) pa_nil))))
    (pss_cons (ps_if (pt_cmpR op_eq (pv 5) (pv 6) (nomark _)) (pss_one (ps_ret (pv 2))) pss_nil)
    (pss_one (ps_asg (pv 6) (pg_sub (pv 1) (pv 5) set_list)))))))
    (pss_one (ps_ret pe_non)))), ?_⟩
  have e1 : (((rs.map V.ref).length : Nat) : Int) + 1 = ((n : Nat) : Int) := by
    rw [List.length_map, hlen]
    omega
  refine ⟨_, rfl, _, _, rfl, .inr hrs, _, _, rfl, rfl, _, rfl, .of_le (Int.le_refl _) (by omega) (by omega) (by omega), fun q0 nq => ?_⟩
  rw [e1, rgV_nat]
  refine ⟨_, rfl, a, _, rfl, (Same.upd nq).tup hrs, ?_⟩
  refine for_it (walk_enumT (K := K) (a := a) (xs := rs.map V.ref)) (fun k σ H1 => ∃ L rank y2 y3 y4 y5 y6, σ = [some (.ref a), some (.ref q0), y2, y3, y4, y5, y6] ∧ Same H H1 ∧ H1 q0 = some (.lst (nv L)) ∧ Uf n L rank (Rk side k))
    ⟨_, _, _, _, _, _, _, rfl, Same.upd nq, upd_same, Uf.range n _ Rk.rf⟩ (fun i σ H1 _ ⟨_, _, _, _, _, _, _, _, sm, _⟩ => sm.tup hrs) ?_ ?_
  · rintro k x σ H1 H2 hk ⟨L, rank, y2, y3, y4, y5, y6, rfl, sm, hq0, u⟩ ⟨t, x1, x2, rfl, nt, rfl, ex1, ex2⟩
    cases ex1
    have hk' : k < ds.length := by
      rw [List.length_map, hlen] at hk
      exact hk
    obtain ⟨e, he⟩ : ∃ e, ds[k]? = some e := get_of rfl hk'
    obtain ⟨r, hr0⟩ : ∃ r, rs[k]? = some r := get_of hlen hk'
    have ex2' : V.ref r = x2 := by
      have ex2 : (rs.map V.ref)[k]? = some x2 := ex2
      rw [List.getElem?_map, hr0] at ex2
      exact Option.some.inj ex2
    subst ex2'
    have sm2 : Same H1 (upd H1 t (.tup [.int (k : Nat), .ref r])) := Same.upd nt
    have hrd := sm2.tup (sm.tup (hds k r e hr0 he))
    have hq2 := sm2 _ _ hq0
    have elt := tree.lt e (List.mem_of_getElem? he)
    refine ⟨t, _, rfl, SqT.of upd_same, rfl, _, _, rfl, _, _, rfl, ⟨r, _, rfl, hrd, rfl, _, _, rfl, _, _, rfl, rfl, rfl, ?_⟩⟩
    refine ⟨_, rfl, _, rfl, q0, L, n, rank, Rk side k, e.1, rfl, hq2, u, Rk.tr, Rk.rf, elt.1, fun L1 ra u1 hra rta _ => ?_⟩
    refine ⟨_, rfl, _, rfl, q0, L1, n, rank, Rk side k, e.2, rfl, upd_same, u1, Rk.tr, Rk.rf, elt.2, fun L2 rb u2 hrb rtb ro2 => ?_⟩
    rw [upd_upd]
    refine ⟨_, rfl, _, rfl, rfl, _, rfl, ?_⟩
    have nab : ra ≠ rb := fun z => ring_no s1 he hra (z ▸ hrb)
    show if decide (V.int (ra : Int) = V.int (rb : Int)) = true then _ else _
    rw [dec_ne (by omega)]
    refine iteF ?_
    have rta2 := ro2 ra rta
    refine ⟨_, rfl, _, rfl, _, rfl, _, _, _, ra, rfl, rfl, upd_same, ixN_nat (by rw [nv_len]; exact get_lt rta2), ?_⟩
    rw [upd_upd, nv_set]
    exact ⟨_, _, _, _, _, _, _, rfl, (sm.trans sm2).at nq, upd_same, u2.union s1 s2 he hra hrb rta2 rtb⟩
  · rintro σ H1 ⟨L, rank, y2, y3, y4, y5, y6, rfl, sm, hq0, u⟩
    exact q H1 sm
end
end K5

namespace K5
open PySem PySem.Spec PyProof.Rows L2
def spNeedRoom (K : PySem.W.Frag) : Sp := fun vs H Q _ => ∃ (a : Addr) (ds : List (Nat × Nat)) (x : Int), vs = [.ref a, .int x] ∧ HouseAt K H a ds ∧ 0 ≤ x ∧ x < ds.length + 1 ∧ Q .non H
def spNeedDoor (K : PySem.W.Frag) : Sp := fun vs H Q _ => ∃ (a : Addr) (ds : List (Nat × Nat)) (x : Int), vs = [.ref a, .int x] ∧ HouseAt K H a ds ∧ 0 ≤ x ∧ x < ds.length ∧ Q .non H
section
variable {P : Program} {w : World} {K : PySem.W.Frag}
      {mg : Str → Option Value} {base : Heap}
theorem ok_check_house (T : Bl mg) (D : Def K mg "check_house" s_check_house) (C_is_door : Cal P w K mg base "is_door" ["value", "count"] 3 (spDoor K)) (C_first_ring : Cal P w K mg base "first_ring" ["doors"] 2 (spRing K)) :
    Cal P w K mg base "check_house" ["value"] 4 (spRing K) := by
  refine D.ok sc_check_house (fun _ _ _ _ _ _ us hl => match us, hl with | [_], _ => rfl) (fun vs H Q E h => ?_) (fun f cdv A outer s H vs Q E hr h => ?_)
  · obtain ⟨a, ds, n, rfl, _⟩ := h
    rfl
  obtain ⟨a, ds, n, rfl, hH, tree, hn, q⟩ := h
  obtain ⟨rs, hrs, hlen, hds⟩ := id hH
  have hdn := tree.len
  obtain ⟨f_is_door, fd_is_door, g_is_door, k_is_door, b_is_door, G_is_door⟩ := C_is_door
  obtain ⟨f_first_ring, fd_first_ring, g_first_ring, k_first_ring, b_first_ring, G_first_ring⟩ := C_first_ring
  refine ⟨_, (pss_cons (ps_if (pt_not (pt_val (pe_callB call_isi (by rfl) T.isinstance (by decide +kernel) (pa_cons (pv 0) (pa_cons (pe_bltn (v := .ty "tuple") (u := .type "tuple") (by rfl) T.tuple (by decide +kernel) rfl) pa_nil))))) (pss_one (ps_ret (pe_tup (pa_cons pe_str pa_nil)))) pss_nil)
    (pss_cons (ps_for PassesOwn.never rfl (pi_enumT (by rfl) T.enumerate (pa_cons (pv 0) pa_nil)) (pg_tup (n := 2) rfl (pgs_cons (pg_name (i := 1) sc_check_house.nd rfl (.inl rfl)) (pgs_cons (pg_name (i := 2) sc_check_house.nd rfl (.inl rfl)) pgs_nil)))
    (pss_one (ps_if (pt_not (pt_val (pe_call G_is_door (hr.mono (by decide)) (by rfl) g_is_door k_is_door b_is_door .nil pass0 (pa_cons (pv 2) (pa_cons (pe_op op_add (pe_callB call_len_seq (by rfl) T.len PySem.boot_len (pa_cons (pv 0) pa_nil)) pe_int) pa_nil))))) (pss_one (ps_ret (pe_tup (pa_cons pe_str (pa_cons (pv 1) pa_nil))))) pss_nil)))
    (pss_cons (ps_set (i := 3) sc_check_house.nd rfl (.inl rfl) (pe_call G_first_ring (hr.mono (by decide)) (by rfl) g_first_ring k_first_ring b_first_ring .nil pass0 (pa_cons (pv 0) pa_nil)))
    (pss_cons (ps_if (pt_cmpR op_notN (pv 3) pe_non (nomark _)) (pss_one (ps_ret (pe_tup (pa_cons pe_str (pa_cons (pv 3) pa_nil))))) pss_nil)
    (pss_one (ps_ret pe_non)))))), ?_⟩
  refine ⟨_, rfl, _, _, _, _, _, rfl, .ty _, ty_tup hrs, kit_ty (r := true) (by decide +kernel), _, rfl, iteF ?_⟩
  refine ⟨_, rfl, a, _, rfl, hrs, ?_⟩
  refine for_it (walk_enumT (K := K) (a := a) (xs := rs.map V.ref)) (fun k σ H1 => ∃ y1 y2 y3, σ = [some (.ref a), y1, y2, y3] ∧ Same H H1)
    ⟨_, _, _, rfl, Same.refl _⟩ (fun i σ H1 _ ⟨_, _, _, _, sm⟩ => sm.tup hrs) ?_ ?_
  · rintro k x σ H1 H2 hk ⟨y1, y2, y3, rfl, sm⟩ ⟨t, x1, x2, rfl, nt, rfl, ex1, ex2⟩
    cases ex1
    have hk' : k < ds.length := by
      rw [List.length_map, hlen] at hk
      exact hk
    obtain ⟨e, he⟩ : ∃ e, ds[k]? = some e := get_of rfl hk'
    obtain ⟨r, hr0⟩ : ∃ r, rs[k]? = some r := get_of hlen hk'
    have ex2' : V.ref r = x2 := by
      have ex2 : (rs.map V.ref)[k]? = some x2 := ex2
      rw [List.getElem?_map, hr0] at ex2
      exact Option.some.inj ex2
    subst ex2'
    have sm2 : Same H1 (upd H1 t (.tup [.int (k : Nat), .ref r])) := Same.upd nt
    have sm3 := sm.trans sm2
    have elt := tree.lt e (List.mem_of_getElem? he)
    obtain ⟨side, s1, s2⟩ := tree.side
    have ene : e.1 ≠ e.2 := fun z => s1 k e he (by rw [z])
    refine ⟨t, _, rfl, SqT.of upd_same, rfl, _, _, rfl, _, _, rfl, rfl, ?_⟩
    refine ⟨_, rfl, _, rfl, _, _, rfl, .inr (sm3.tup hrs), _, _, rfl, rfl, ?_⟩
    refine ⟨r, e.1, e.2, _, rfl, sm3.tup (hds k r e hr0 he), ?_, ?_, by omega, _, rfl, iteF ⟨_, _, _, rfl, sm3⟩⟩
    · rw [List.length_map, hlen]; omega
    · rw [List.length_map, hlen]; omega
  · rintro σ H1 ⟨y1, y2, y3, rfl, sm⟩
    refine ⟨_, rfl, a, ds, n, rfl, hH.same sm, tree, hn, fun H2 sm2 => ?_⟩
    refine ⟨_, rfl, rfl, _, rfl, iteF ?_⟩
    exact q H2 (sm.trans sm2)
theorem ok_need_house (T : Bl mg) (D : Def K mg "need_house" s_need_house) (C_check_house : Cal P w K mg base "check_house" ["value"] 4 (spRing K)) : Cal P w K mg base "need_house" ["house"] 5 (spRing K) := by
  refine D.ok sc_need_house (fun _ _ _ _ _ _ us hl => match us, hl with | [_], _ => rfl) (fun vs H Q E h => ?_) (fun f cdv A outer s H vs Q E hr h => ?_)
  · obtain ⟨a, ds, n, rfl, _⟩ := h
    rfl
  obtain ⟨a, ds, n, rfl, hH, tree, hn, q⟩ := h
  obtain ⟨f_check_house, fd_check_house, g_check_house, k_check_house, b_check_house, G_check_house⟩ := C_check_house
  refine ⟨_, (pss_cons (ps_set (i := 1) sc_need_house.nd rfl (.inl rfl) (pe_call G_check_house (hr.mono (by decide)) (by rfl) g_check_house k_check_house b_check_house .nil pass0 (pa_cons (pv 0) pa_nil)))
    (pss_one (ps_if (pt_cmpR op_notN (pv 1) pe_non (nomark _)) pss_never pss_nil))), ?_⟩
  refine ⟨_, rfl, a, ds, n, rfl, hH, tree, hn, fun H2 sm2 => ⟨_, rfl, rfl, _, rfl, iteF ?_⟩⟩
  exact q H2 sm2
end
end K5

namespace K5
open PySem PySem.Spec PyProof.Rows L2
/-- a list at q of pairs of numbers, each a tuple -/
def PairsAt (H : Hp) (q : Addr) (l : List (Nat × Nat)) : Prop :=
  ∃ ts : List Addr, H q = some (.lst (ts.map V.ref)) ∧ ts.length = l.length ∧ ∀ (i : Nat) (t : Addr) (e : Nat × Nat), ts[i]? = some t → l[i]? = some e → H t = some (.tup [.int e.1, .int e.2])
theorem PairsAt.same {H H' : Hp} {q : Addr} {l} (h : PairsAt H q l) (s : Same H H') : PairsAt H' q l := by
  obtain ⟨ts, h1, h2, h3⟩ := h
  exact ⟨ts, s _ _ h1, h2, fun i t e a b => s _ _ (h3 i t e a b)⟩
theorem ne_lt {H : Hp} {a b : Addr} {xs ys : List V} (h : H a = some (.lst xs)) (h' : H b = some (.tup ys)) : b ≠ a := ne_of h' h (by intro z; cases z)
/-- what stands aside of q keeps -/
theorem PairsAt.aside {H H' : Hp} {q p : Addr} {l} {xs : List V} (h : PairsAt H q l) (hp : H p = some (.lst xs)) (ne : q ≠ p) (s : But p H H') : PairsAt H' q l := by
  obtain ⟨ts, h1, h2, h3⟩ := h
  exact ⟨ts, s _ _ ne h1, h2, fun i t e a b => s _ _ (ne_lt hp (h3 i t e a b)) (h3 i t e a b)⟩
theorem PairsAt.push {H H' : Hp} {q t : Addr} {l : List (Nat × Nat)} {ts : List Addr} {d y : Nat} (h1 : H q = some (.lst (ts.map V.ref))) (h2 : ts.length = l.length) (h3 : ∀ (i : Nat) (t : Addr) (e : Nat × Nat), ts[i]? = some t → l[i]? = some e → H t = some (.tup [.int e.1, .int e.2]))
    (s : But q H H') (hq : H' q = some (.lst (ts.map V.ref ++ [.ref t]))) (ht : H' t = some (.tup [.int (d : Int), .int (y : Int)])) : PairsAt H' q (l ++ [(d, y)]) := by
  refine ⟨ts ++ [t], by rw [hq, List.map_append]; rfl, by simp [h2], fun i t' e a b => ?_⟩
  by_cases hi : i < ts.length
  · rw [List.getElem?_append_left hi] at a
    rw [List.getElem?_append_left (by omega)] at b
    have := h3 i t' e a b
    exact s _ _ (ne_lt h1 this) this
  · have hlt := get_lt a
    rw [List.length_append, List.length_singleton] at hlt
    have ei : i = ts.length := by omega
    subst ei
    rw [List.getElem?_append_right (Nat.le_refl _), Nat.sub_self] at a
    rw [h2, List.getElem?_append_right (Nat.le_refl _), Nat.sub_self] at b
    cases a
    cases b
    exact ht
/-- the rows of exits: a list each -/
def Rows (H : Hp) (ps : List Addr) (ex : Nat → List (Nat × Nat)) : Prop := ∀ (x : Nat) (q : Addr), ps[x]? = some q → PairsAt H q (ex x)
theorem Rows.same {H H' : Hp} {ps ex} (h : Rows H ps ex) (s : Same H H') : Rows H' ps ex := fun x q e => (h x q e).same s
theorem Rows.push {H : Hp} {ps : List Addr} {ex : Nat → List (Nat × Nat)} (R : Rows H ps ex) (nd : ps.Nodup) {x : Nat} {q t : Addr} (hq : ps[x]? = some q) (nt : H t = none) {d y : Nat} {xs : List V} (hx : H q = some (.lst xs)) :
    Rows (upd (upd H t (.tup [.int (d : Int), .int (y : Int)])) q (.lst (xs ++ [.ref t]))) ps (fun z => if z = x then ex z ++ [(d, y)] else ex z) := by
  have s1 : But q H (upd (upd H t (.tup [.int (d : Int), .int (y : Int)])) q (.lst (xs ++ [.ref t]))) := fun b o ne e => by
    rw [upd_ne ne, upd_ne (ne_of_none e nt)]
    exact e
  have ntq : t ≠ q := (ne_of_none hx nt).symm
  intro z q' hz
  by_cases e : z = x
  · subst e
    rw [hq] at hz
    cases hz
    obtain ⟨ts, h1, h2, h3⟩ := R z q hq
    rw [hx] at h1
    cases h1
    simp only [if_true]
    exact .push (ts := ts) hx h2 h3 s1 upd_same (by rw [upd_ne ntq, upd_same])
  · simp only [if_neg e]
    have ne : q' ≠ q := fun z' => by
      subst z'
      exact e (nd_ix nd hz hq)
    exact (R z q' hz).aside hx ne s1
theorem ex_mem {ds : List (Nat × Nat)} {ex : Nat → List (Nat × Nat)} {k : Nat} {e : Nat × Nat} (he : ds[k]? = some e) (ne : e.1 ≠ e.2) (mem : ∀ x d y, (d, y) ∈ ex x ↔ d < k ∧ Joins ds d x y) (x d y : Nat) :
    (d, y) ∈ (if x = e.2 then (if x = e.1 then ex x ++ [(k, e.2)] else ex x) ++ [(k, e.1)] else if x = e.1 then ex x ++ [(k, e.2)] else ex x) ↔ d < k + 1 ∧ Joins ds d x y := by
  have J : Joins ds k x y ↔ (x = e.1 ∧ y = e.2) ∨ (x = e.2 ∧ y = e.1) := by
    unfold Joins
    rw [he]
    constructor
    · rintro (h | h)
      · have h := Option.some.inj h
        exact .inl ⟨by rw [h], by rw [h]⟩
      · have h := Option.some.inj h
        exact .inr ⟨by rw [h], by rw [h]⟩
    · rintro (⟨rfl, rfl⟩ | ⟨rfl, rfl⟩)
      · exact .inl rfl
      · exact .inr rfl
  have step : (d < k + 1 ∧ Joins ds d x y) ↔ (d < k ∧ Joins ds d x y) ∨ (d = k ∧ ((x = e.1 ∧ y = e.2) ∨ (x = e.2 ∧ y = e.1))) := by
    constructor
    · rintro ⟨h1, h2⟩
      by_cases q : d = k
      · subst q
        exact .inr ⟨rfl, J.mp h2⟩
      · exact .inl ⟨by omega, h2⟩
    · rintro (⟨h1, h2⟩ | ⟨rfl, h2⟩)
      · exact ⟨by omega, h2⟩
      · exact ⟨by omega, J.mpr h2⟩
  rw [step, ← mem x d y]
  by_cases h2 : x = e.2
  · have h1 : ¬ x = e.1 := fun z => ne (z.symm.trans h2)
    rw [if_pos h2, if_neg h1, List.mem_append, List.mem_singleton, Prod.mk.injEq]
    simp [h1, h2, ne.symm]
  · rw [if_neg h2]
    by_cases h1 : x = e.1
    · rw [if_pos h1, List.mem_append, List.mem_singleton, Prod.mk.injEq]
      simp [h1, ne]
    · rw [if_neg h1]
      simp [h1, h2]
theorem small3k {n : Nat} (h : n ≤ 3000) : n < sizeLine := Nat.lt_of_le_of_lt h (by decide)
theorem lcYes {A B : Hp → Prop} {σ : L2.St} {H : Hp} (h : A H) : tYes σ H (fun b H3 => if b = true then A H3 else B H3) := by
  show (if true = true then A H else B H)
  rw [if_pos rfl]
  exact h
def spExits (K : PySem.W.Frag) : Sp := fun vs H Q _ => ∃ (a : Addr) (ds : List (Nat × Nat)) (n : Nat), vs = [.ref a] ∧ HouseAt K H a ds ∧ Tree n ds ∧ n ≤ 1000 ∧
  ∀ (H' : Hp) (p : Addr) (ps : List Addr) (ex : Nat → List (Nat × Nat)), Same H H' → H p = none → H' p = some (.lst (ps.map V.ref)) → ps.length = n → Rows H' ps ex → (∀ x d y, (d, y) ∈ ex x ↔ Joins ds d x y) → Q (.ref p) H'
section
variable {P : Program} {w : World} {K : PySem.W.Frag}
      {mg : Str → Option Value} {base : Heap}
end
end K5

namespace K5
open PySem PySem.Spec PyProof.Rows L2
/-- a dict whose keys are numbers: key by key -/
def DicR {β : Type} (VR : V → β → Prop) (kvs : List (Key × V)) (ks : List (Nat × β)) : Prop := Paired (fun (kv : Key × V) (k : Nat × β) => kv.1 = Sum.inl (k.1 : Int) ∧ VR kv.2 k.2) kvs ks
section
variable {β : Type} {VR VR' : V → β → Prop}
theorem DicR.mono {kvs ks} (h : DicR VR kvs ks) (f : ∀ v o, VR v o → VR' v o) : DicR VR' kvs ks := Paired.mapP h fun a b x => ⟨x.1, f _ _ x.2⟩
theorem DicR.len {kvs ks} (h : DicR VR kvs ks) : kvs.length = ks.length := Paired.length h
theorem DicR.no : ∀ {kvs : List (Key × V)} {ks : List (Nat × β)} {x : Nat}, DicR VR kvs ks → x ∉ ks.map Prod.fst → valV kvs (Sum.inl (x : Int)) = none
  | _, _, x, .nil, _ => rfl
  | kv :: _, k :: _, x, .cons h t, hx => by
    have hne : ¬ kv.1 = Sum.inl (x : Int) := fun z => by
      rw [h.1] at z
      have z := Sum.inl.inj z
      exact hx (List.mem_map.mpr ⟨k, List.mem_cons_self, by omega⟩)
    rw [valV_neg hne]
    exact DicR.no t fun m => hx (by rw [List.map_cons]; exact List.mem_cons_of_mem _ m)
theorem DicR.val : ∀ {kvs : List (Key × V)} {ks : List (Nat × β)} {x : Nat}, DicR VR kvs ks → x ∈ ks.map Prod.fst → ∃ v o, valV kvs (Sum.inl (x : Int)) = some v ∧ (x, o) ∈ ks ∧ VR v o
  | _, _, x, .nil, hx => by cases hx
  | kv :: _, k :: _, x, .cons h t, hx => by
    by_cases e : k.1 = x
    · refine ⟨kv.2, k.2, valV_pos (by rw [h.1, e]), ?_, h.2⟩
      rw [← e]
      exact List.mem_cons_self
    · have hne : ¬ kv.1 = Sum.inl (x : Int) := fun z => by
        rw [h.1] at z
        have z := Sum.inl.inj z
        omega
      rw [List.map_cons] at hx
      obtain ⟨v, o, a, b, c⟩ := DicR.val t ((List.mem_cons.mp hx).resolve_left fun q => e q.symm)
      exact ⟨v, o, by rw [valV_neg hne]; exact a, List.mem_cons_of_mem _ b, c⟩
theorem DicR.snoc : ∀ {kvs : List (Key × V)} {ks : List (Nat × β)} {x : Nat} {v : V} {o : β}, DicR VR kvs ks → VR v o → DicR VR (kvs ++ [(Sum.inl (x : Int), v)]) (ks ++ [(x, o)])
  | _, _, x, v, o, .nil, r => .cons ⟨rfl, r⟩ .nil
  | _, _, x, v, o, .cons h t, r => .cons h (DicR.snoc t r)
theorem DicR.add {kvs : List (Key × V)} {ks : List (Nat × β)} {x : Nat} {v : V} {o : β} (h : DicR VR kvs ks) (hx : x ∉ ks.map Prod.fst) (r : VR v o) : DicR VR (putK kvs (Sum.inl (x : Int)) v) (ks ++ [(x, o)]) := by
  rw [putK_new v (h.no hx)]
  exact h.snoc r
end
/-- a way's step: None, or a tuple (door, next room) -/
def WayR (H : Hp) (v : V) (o : Option (Nat × Nat)) : Prop := match o with
  | none => v = .non
  | some e => ∃ t, v = .ref t ∧ H t = some (.tup [.int (e.1 : Int), .int (e.2 : Int)])
theorem WayR.keep {H H' : Hp} {v o} (h : WayR H v o) (s : ∀ t xs, H t = some (.tup xs) → H' t = some (.tup xs)) : WayR H' v o := by
  cases o with
  | none => exact h
  | some e =>
    obtain ⟨t, a, b⟩ := h
    exact ⟨t, a, s _ _ b⟩
theorem snoc_nil {α : Type} (l : List α) : l = [] ∨ ∃ r x, l = r ++ [x] := by
  by_cases h : l = []
  · exact .inl h
  · exact .inr ⟨l.dropLast, l.getLast h, (List.dropLast_concat_getLast h).symm⟩
theorem mem_ofNat {d : Nat} {l : List Nat} : ((d : Int) ∈ l.map fun x : Nat => (x : Int)) ↔ d ∈ l := by
  constructor
  · intro h
    obtain ⟨x, hx, e⟩ := List.mem_map.mp h
    have : x = d := by omega
    exact this ▸ hx
  · intro h
    exact List.mem_map.mpr ⟨d, h, rfl⟩
theorem nv_int (l : List Nat) : nv l = (l.map fun x : Nat => (x : Int)).map V.int := by
  unfold nv
  rw [List.map_map]
  rfl
theorem nv_snoc (l : List Nat) (x : Nat) : nv (l ++ [x]) = nv l ++ [.int (x : Int)] := by
  unfold nv
  rw [List.map_append]
  rfl
/-- the dict and the list that the search writes; what stood ahead of them stands -/
structure WS (Hb H : Hp) (pw pq : Addr) (ks : List (Nat × Option (Nat × Nat))) (ws : List Nat) : Prop where
  sm : Same Hb H
  w : ∃ kvs, H pw = some (.dK kvs) ∧ DicR (WayR H) kvs ks
  q : H pq = some (.lst (nv ws))
  le : ws.length ≤ ks.length
theorem WS.ne {Hb H pw pq ks ws} (S : WS Hb H pw pq ks ws) : pw ≠ pq := by
  obtain ⟨kvs, h, _⟩ := S.w
  exact ne_of h S.q (by intro z; cases z)
theorem WS.setq {Hb H pw pq ks ws ws'} (S : WS Hb H pw pq ks ws) (nq : Hb pq = none) (hl : ws'.length ≤ ks.length) : WS Hb (upd H pq (.lst (nv ws'))) pw pq ks ws' := by
  obtain ⟨kvs, h, r⟩ := S.w
  refine ⟨S.sm.at nq, ⟨kvs, by rw [upd_ne S.ne]; exact h, r.mono fun v o x => x.keep fun t xs e => ?_⟩, upd_same, hl⟩
  rw [upd_ne (ne_lt S.q e)]
  exact e
theorem WS.add {Hb H pw pq ks ws} (S : WS Hb H pw pq ks ws) (nw : Hb pw = none) {t : Addr} (nt : H t = none) {kvs} (hk : H pw = some (.dK kvs)) (r : DicR (WayR H) kvs ks) {y d here : Nat} (ny : y ∉ ks.map Prod.fst) :
    WS Hb (upd (upd H t (.tup [.int (d : Int), .int (here : Int)])) pw (.dK (putK kvs (Sum.inl (y : Int)) (.ref t)))) pw pq (ks ++ [(y, some (d, here))]) ws := by
  have ntw : t ≠ pw := (ne_of_none hk nt).symm
  refine ⟨(S.sm.trans (Same.upd nt)).at nw, ⟨_, upd_same, (r.mono fun v o x => x.keep fun t' xs e => ?_).add ny ⟨t, rfl, by rw [upd_ne ntw, upd_same]⟩⟩, ?_, by rw [List.length_append]; exact Nat.le_trans S.le (Nat.le_add_right _ _)⟩
  · rw [upd_ne (ne_of e hk (by intro z; cases z)), upd_ne (ne_of_none e nt)]
    exact e
  · rw [upd_ne S.ne.symm, upd_ne (ne_of_none S.q nt)]
    exact S.q
def spWays (K : PySem.W.Frag) : Sp := fun vs H Q _ => ∃ (a sh : Addr) (ds : List (Nat × Nat)) (n room : Nat) (shut : List Nat), vs = [.ref a, .int (room : Int), .ref sh] ∧ HouseAt K H a ds ∧ Tree n ds ∧ n ≤ 1000 ∧ room < n ∧ SqL K H sh (nv shut) ∧ shut.length ≤ 1000 ∧
  ∀ (H' : Hp) (p : Addr) (kvs : List (Key × V)) (ks : List (Nat × Option (Nat × Nat))), Same H H' → H p = none → H' p = some (.dK kvs) → DicR (WayR H') kvs ks → Dfs n ds shut (ks.map Prod.fst) [] → Ptr ds shut room ks → room ∈ ks.map Prod.fst → Q (.ref p) H'
section
variable {P : Program} {w : World} {K : PySem.W.Frag}
      {mg : Str → Option Value} {base : Heap}
end
end K5

namespace K5
open PySem PySem.Spec PyProof.Rows L2
theorem bits29 {m : Int} (h0 : 0 < m) (h1 : m < 2 ^ 29) : ((Builtin.Int.intBits m : Nat) : Int) / 30 = 0 := by
  have h : Builtin.Int.intBits m ≤ 29 := by
    unfold Builtin.Int.intBits
    have hne : ¬ (m == 0) = true := fun z => by
      have := eq_of_beq z
      omega
    rw [if_neg hne]
    have : m.natAbs.log2 < 29 := (Nat.log2_lt (by omega)).mpr (by omega)
    omega
  omega
/-- a generator of draws: a list of three numbers, the third at most b -/
def GenAt (H : Hp) (g : Addr) (b : Nat) : Prop := ∃ x y z : Int, H g = some (.lst [.int x, .int y, .int z]) ∧ 0 ≤ x ∧ 0 ≤ z ∧ z ≤ (b : Int)
theorem GenAt.mono {H g b c} (h : GenAt H g b) (l : b ≤ c) : GenAt H g c := by
  obtain ⟨x, y, z, a, b, c, d⟩ := h
  exact ⟨x, y, z, a, b, c, by omega⟩
theorem GenAt.same {H H' g b} (h : GenAt H g b) (s : Same H H') : GenAt H' g b := by
  obtain ⟨x, y, z, a, b, c, d⟩ := h
  exact ⟨x, y, z, s _ _ a, b, c, d⟩
theorem GenAt.lst {H g b} (h : GenAt H g b) : ∃ xs, H g = some (.lst xs) := by
  obtain ⟨x, y, z, a, _⟩ := h
  exact ⟨_, a⟩
def spCell (K : PySem.W.Frag) : Sp := fun vs H Q _ => ∃ (a : Addr) (ns : List Int) (i : Int), vs = [.ref a, .int i] ∧ SqL K H a (ns.map V.int) ∧ 0 ≤ i ∧ ∀ z : Int, Q (.int z) H
def spHash : Sp := fun vs H Q _ => ∃ x i : Int, vs = [.int x, .int i] ∧ 0 ≤ i ∧ i < 2 ^ 62 ∧ ∀ z : Int, Q (.int z) H
def spGen (K : PySem.W.Frag) : Sp := fun vs H Q _ => ∃ (a : Addr) (ns : List Int) (i : Nat), vs = [.ref a, .int (i : Int)] ∧ SqL K H a (ns.map V.int) ∧ i ≤ 1000 ∧ ∀ (H' : Hp) (g : Addr), Same H H' → H g = none → GenAt H' g 1000000 → Q (.ref g) H'
def spRand : Sp := fun vs H Q _ => ∃ (g : Addr) (b m : Nat), vs = [.ref g, .int (m : Int)] ∧ GenAt H g b ∧ 0 < m ∧ m < 2 ^ 29 ∧ b < 2 ^ 60 ∧ ∀ (H' : Hp) (v : Nat), But g H H' → GenAt H' g (b + 1) → v < m → Q (.int (v : Int)) H'
section
variable {P : Program} {w : World} {K : PySem.W.Frag}
      {mg : Str → Option Value} {base : Heap}
theorem ok_cell (T : Bl mg) (D : Def K mg "_law_cell" s_l_cell) : Cal P w K mg base "_law_cell" ["_law_script", "_law_index"] 1 (spCell K) := by
  refine D.ok sc_l_cell (fun _ _ _ _ _ _ us hl => match us, hl with | [_, _], _ => rfl) (fun vs H Q E h => ?_) (fun f cdv A outer s H vs Q E hr h => ?_)
  · obtain ⟨a, ns, i, rfl, _⟩ := h
    rfl
  obtain ⟨a, ns, i, rfl, hs, hi, q⟩ := h
  refine ⟨_, (pss_cons (ps_if (pt_cmpR op_lt (pv 1) (pe_callB call_len_seq (by rfl) T.len PySem.boot_len (pa_cons (pv 0) pa_nil)) (nomark _)) (pss_one (ps_ret (pe_ix ix_list (pv 0) (pv 1) (fun _ _ => rfl)))) pss_nil)
    (pss_one (ps_ret pe_int))), ?_⟩
  refine ⟨_, rfl, _, rfl, _, _, rfl, .inl hs, _, _, rfl, rfl, _, rfl, ite2 (fun h => ?_) (fun h => ?_)⟩
  · have h := of_decide_eq_true h
    rw [List.length_map] at h
    obtain ⟨k, rfl⟩ : ∃ k : Nat, i = (k : Int) := ⟨i.toNat, by omega⟩
    have hk : k < ns.length := by omega
    refine ⟨_, rfl, _, rfl, _, _, _, _, rfl, rfl, hs, atI_nat (v := V.int ns[k]) (by rw [List.getElem?_map, List.getElem?_eq_getElem hk]; rfl), q _⟩
  · exact q 0
theorem ok_hash (T : Bl mg) (D : Def K mg "_law_hash" s_l_hash) : Cal P w K mg base "_law_hash" ["_law_seed", "_law_index"] 1 spHash := by
  refine D.ok sc_l_hash (fun _ _ _ _ _ _ us hl => match us, hl with | [_, _], _ => rfl) (fun vs H Q E h => ?_) (fun f cdv A outer s H vs Q E hr h => ?_)
  · obtain ⟨x, i, rfl, _⟩ := h
    rfl
  obtain ⟨x, i, rfl, h0, h1, q⟩ := h
  refine ⟨_, (pss_cons (ps_set (i := 2) sc_l_hash.nd rfl (.inl rfl) (pe_op op_mod (pe_op op_add (pe_op op_add (pe_op op_add (pe_op op_mul (pv 0) pe_int) (pe_op op_mul (pe_op op_mul pe_int (pv 1)) (pv 1))) (pv 1)) pe_int) pe_int))
    (pss_cons (ps_set (i := 2) sc_l_hash.nd rfl (.inl rfl) (pe_op op_mod (pe_op op_add (pe_op op_mul (pv 2) (pv 2)) pe_int) pe_int))
    (pss_one (ps_ret (pe_op op_mod (pe_op op_mul (pv 2) pe_int) pe_int))))), ?_⟩
  refine ⟨_, rfl, _, _, rfl, rfl, .inr (by decide), _, rfl, _, _, rfl, rfl, .inl (by decide), _, rfl, _, _, rfl, rfl, .inr ⟨by omega, by omega⟩, _, _, rfl, rfl, _, rfl, _, _, rfl, rfl, _, _, rfl, rfl, _, _, rfl, rfl, (by show (0 : Int) < 2147483647; decide), ?_⟩
  have b0 := Int.emod_nonneg (x * 1103515245 + 7919 * i * i + i + 1) (show (2147483647 : Int) ≠ 0 by decide)
  have b1 := Int.emod_lt_of_pos (x * 1103515245 + 7919 * i * i + i + 1) (show (0 : Int) < 2147483647 by decide)
  generalize (x * 1103515245 + 7919 * i * i + i + 1) % 2147483647 = u at b0 b1
  refine ⟨_, rfl, _, rfl, _, _, rfl, rfl, .inl ⟨by omega, by omega⟩, _, _, rfl, rfl, _, _, rfl, rfl, (by show (0 : Int) < 2147483629; decide), ?_⟩
  refine ⟨_, rfl, _, _, rfl, rfl, .inr (by decide), _, _, rfl, rfl, (by show (0 : Int) < 2147483587; decide), q _⟩
theorem ok_generator (T : Bl mg) (D : Def K mg "_law_generator" s_l_generator) (C_l_cell : Cal P w K mg base "_law_cell" ["_law_script", "_law_index"] 1 (spCell K)) : Cal P w K mg base "_law_generator" ["_law_script", "_law_index"] 2 (spGen K) := by
  refine D.ok sc_l_generator (fun _ _ _ _ _ _ us hl => match us, hl with | [_, _], _ => rfl) (fun vs H Q E h => ?_) (fun f cdv A outer s H vs Q E hr h => ?_)
  · obtain ⟨a, ns, i, rfl, _⟩ := h
    rfl
  obtain ⟨a, ns, i, rfl, hs, hi, q⟩ := h
  obtain ⟨f_l_cell, fd_l_cell, g_l_cell, k_l_cell, b_l_cell, G_l_cell⟩ := C_l_cell
  refine ⟨_, (pss_cons (ps_set (i := 2) sc_l_generator.nd rfl (.inl rfl) (pe_call G_l_cell (hr.mono (by decide)) (by rfl) g_l_cell k_l_cell b_l_cell .nil pass0 (pa_cons (pv 0) (pa_cons (pv 1) pa_nil))))
    (pss_one (ps_ret (pe_lst (pa_cons (pe_op op_mod (pe_callB (call_max2 rfl) (by rfl) T.max (by decide +kernel) (pa_cons (pe_op op_sub (pv 2) (pe_op op_pow pe_int pe_int)) (pa_cons pe_int pa_nil))) (pe_op op_powX (pe_op op_pow pe_int pe_int) pe_int)) (pa_cons (pe_op op_mod (pv 2) pe_int) (pa_cons (pe_op op_mul pe_int (pv 1)) pa_nil))))))), ?_⟩
  refine ⟨_, rfl, _, rfl, a, ns, _, rfl, hs, by omega, fun z => ?_⟩
  have hpos : (0 : Int) < (10 ^ (60 : Int).toNat) ^ (10 : Int).toNat := by decide +kernel
  refine ⟨_, rfl, _, _, rfl, rfl, ⟨by decide, by decide, by decide⟩, _, _, rfl, rfl, _, _, rfl, _, _, rfl, rfl, ⟨by decide, by decide, by decide⟩, _, _, rfl, rfl, (by decide +kernel), _, _, rfl, rfl, hpos, _, rfl, _, _, rfl, rfl, (by show (0 : Int) < 2147483647; decide), _, rfl, _, _, rfl, rfl, .inl (by decide), by show 3 ≤ sizeLine; decide, fun g ng => ?_⟩
  refine q _ g (Same.upd ng) ng ⟨_, _, _, upd_same, Int.emod_nonneg _ (by omega), by omega, by omega⟩
theorem ok_random (T : Bl mg) (D : Def K mg "_law_random" s_l_random) (C_l_hash : Cal P w K mg base "_law_hash" ["_law_seed", "_law_index"] 1 spHash) : Cal P w K mg base "_law_random" ["_law_generator_here", "_law_bound"] 2 spRand := by
  refine D.ok sc_l_random (fun _ _ _ _ _ _ us hl => match us, hl with | [_, _], _ => rfl) (fun vs H Q E h => ?_) (fun f cdv A outer s H vs Q E hr h => ?_)
  · obtain ⟨g, b, m, rfl, _⟩ := h
    rfl
  obtain ⟨g, b, m, rfl, ⟨x, y, z, hg, hx, hz, hzb⟩, hm, hm2, hb, q⟩ := h
  obtain ⟨f_l_hash, fd_l_hash, g_l_hash, k_l_hash, b_l_hash, G_l_hash⟩ := C_l_hash
  refine ⟨_, (pss_cons (ps_if (pt_cmpR op_gt (pe_ix ix_list (pv 0) pe_int (fun _ _ => rfl)) pe_int (nomark _)) (pss_cons (ps_set (i := 2) sc_l_random.nd rfl (.inl rfl) (pe_op op_mod (pe_ix ix_list (pv 0) pe_int (fun _ _ => rfl)) (pv 1)))
    (pss_cons (ps_asg (pe_op op_fdiv (pe_ix ix_list (pv 0) pe_int (fun _ _ => rfl)) (pv 1)) (pg_sub (pv 0) pe_int set_list))
    (pss_one (ps_ret (pv 2))))) pss_nil)
    (pss_cons (ps_set (i := 2) sc_l_random.nd rfl (.inl rfl) pe_int)
    (pss_cons (ps_for PassesOwn.never rfl (pi_range1 rfl T.range (pa_cons (pe_op op_add pe_int (pe_op op_fdiv (pe_bits (pv 1)) pe_int)) pa_nil)) (pg_name (i := 3) sc_l_random.nd rfl (.inl rfl))
    (pss_cons (ps_asg (pe_op op_add (pe_ix ix_list (pv 0) pe_int (fun _ _ => rfl)) pe_int) (pg_sub (pv 0) pe_int set_list))
    (pss_one (ps_set (i := 2) sc_l_random.nd rfl (.inl rfl) (pe_op op_add (pe_op op_mul (pv 2) pe_int) (pe_call G_l_hash (hr.mono (by decide)) (by rfl) g_l_hash k_l_hash b_l_hash .nil pass0 (pa_cons (pe_ix ix_list (pv 0) pe_int (fun _ _ => rfl)) (pa_cons (pe_ix ix_list (pv 0) pe_int (fun _ _ => rfl)) pa_nil))))))))
    (pss_one (ps_ret (pe_op op_mod (pv 2) (pv 1))))))), ?_⟩
  have hm' : (0 : Int) < (m : Int) := by omega
  refine ⟨_, rfl, _, _, _, V.int x, rfl, rfl, SqL.of hg, atI_nat (j := 0) (v := V.int x) rfl, _, _, rfl, rfl, _, rfl, ite2 (fun h => ?_) (fun h => ?_)⟩
  · refine ⟨_, rfl, _, _, _, V.int x, rfl, rfl, SqL.of hg, atI_nat (j := 0) (v := V.int x) rfl, _, rfl, _, _, rfl, rfl, hm', ?_⟩
    refine ⟨_, rfl, _, _, _, V.int x, rfl, rfl, SqL.of hg, atI_nat (j := 0) (v := V.int x) rfl, _, rfl, _, _, rfl, rfl, ⟨hm', by omega⟩, ?_⟩
    refine ⟨_, rfl, g, _, _, 0, rfl, rfl, hg, rfl, ?_⟩
    refine ⟨_, rfl, ?_⟩
    have e : x % (m : Int) = ((x % (m : Int)).toNat : Int) := (Int.toNat_of_nonneg (Int.emod_nonneg _ (by omega))).symm
    have l := Int.emod_lt_of_pos x hm'
    show Q (.int (x % (m : Int))) _
    rw [e]
    refine q _ _ (fun c o n e => by rw [upd_ne n]; exact e) ⟨x / (m : Int), y, z, upd_same, Int.ediv_nonneg hx (by omega), hz, by omega⟩ (by omega)
  · have eb : (1 : Int) + ((Builtin.Int.intBits (m : Int) : Nat) : Int) / 30 = 1 := by
      rw [bits29 hm' (by omega)]
      rfl
    refine ⟨_, rfl, _, rfl, _, _, rfl, rfl, ⟨by decide, by decide⟩, _, _, rfl, rfl, (1 : Int), congrArg (fun z => [V.int z]) eb, by decide, by decide, ?_⟩
    refine for_range (lo := 0) (n := 1) (fun i σ H1 => ∃ (r : Int) (y3 : Option V) (z1 : Int), σ = [some (.ref g), some (.int (m : Int)), some (.int r), y3] ∧ But g H H1 ∧ H1 g = some (.lst [.int x, .int y, .int z1]) ∧ 0 ≤ z1 ∧ z1 ≤ (b : Int) + (i : Int))
      ⟨0, _, z, rfl, fun _ _ _ e => e, hg, hz, by omega⟩ ?_ ?_
    · rintro i σ H1 hi ⟨r, y3, z1, rfl, bt, hg1, hz1, hz2⟩
      refine ⟨_, rfl, _, _, _, V.int z1, rfl, rfl, SqL.of hg1, atI_nat (j := 2) (v := V.int z1) rfl, _, _, rfl, rfl, _, rfl, g, _, _, 2, rfl, rfl, hg1, rfl, ?_⟩
      have hg2 : (upd H1 g (.lst [.int x, .int y, .int (z1 + 1)])) g = some (.lst [.int x, .int y, .int (z1 + 1)]) := upd_same
      refine ⟨_, rfl, _, _, rfl, rfl, .inr (by decide), _, rfl, _, _, _, V.int y, rfl, rfl, SqL.of hg2, atI_nat (j := 1) (v := V.int y) rfl, _, rfl, _, _, _, V.int (z1 + 1), rfl, rfl, SqL.of hg2, atI_nat (j := 2) (v := V.int (z1 + 1)) rfl, _, _, rfl, by omega, by omega, fun u => ?_⟩
      refine ⟨_, _, rfl, rfl, ?_⟩
      exact ⟨_, _, z1 + 1, rfl, bt.upd _, hg2, by omega, by omega⟩
    · rintro σ H1 ⟨r, y3, z1, rfl, bt, hg1, hz1, hz2⟩
      refine ⟨_, rfl, _, rfl, _, _, rfl, rfl, hm', ?_⟩
      have e : r % (m : Int) = ((r % (m : Int)).toNat : Int) := (Int.toNat_of_nonneg (Int.emod_nonneg _ (by omega))).symm
      have l := Int.emod_lt_of_pos r hm'
      show Q (.int (r % (m : Int))) _
      rw [e]
      exact q _ _ bt ⟨x, y, z1, hg1, hx, hz1, by omega⟩ (by omega)
end
end K5

namespace K5
open PySem PySem.Spec PyProof.Rows L2
theorem cons_erase {α : Type} : ∀ (l : List α) (i : Nat) (y : α), l[i]? = some y → (y :: l.eraseIdx i).Perm l
  | [], i, y, h => by simp at h
  | a :: r, 0, y, h => by
    have e : a = y := Option.some.inj h
    subst e
    exact List.Perm.refl _
  | a :: r, i + 1, y, h => ((List.Perm.swap a y _).trans ((cons_erase r i y h).cons a))
theorem _root_.L2.But.seq {K : PySem.W.Frag} {g a : Addr} {H H' : Hp} {xs : List V} (s : But g H H') (n : a ≠ g) (h : SqL K H a xs) : SqL K H' a xs := by
  rcases h with (h | ⟨o, h⟩) | h
  · exact .inl (.inl (s _ _ n h))
  · exact .inl (.inr ⟨o, s _ _ n h⟩)
  · exact .inr h
theorem _root_.L2.But.at {g p : Addr} {H H' : Hp} (s : But g H H') (n : H p = none) (o : HO) : But g H (upd H' p o) := fun b u ne e => by
  rw [upd_ne (ne_of_none e n)]
  exact s b u ne e
theorem _root_.L2.But.refl (g : Addr) (H : Hp) : But g H H := fun _ _ _ e => e
theorem _root_.L2.But.free {g p : Addr} {H H' : Hp} (s : But g H H') (ne : p ≠ g) (h : H' p = none) : H p = none := by
  cases q : H p with
  | none => rfl
  | some o =>
    rw [s p o ne q] at h
    cases h
theorem GenAt.at {H g b p o} (h : GenAt H g b) (n : p ≠ g) : GenAt (upd H p o) g b := by
  obtain ⟨x, y, z, a, r⟩ := h
  exact ⟨x, y, z, by rw [upd_ne n.symm]; exact a, r⟩
theorem GenAt.ne {H g b p} (h : GenAt H g b) (n : H p = none) : p ≠ g := by
  obtain ⟨x, y, z, a, r⟩ := h
  exact (ne_of_none a n).symm
theorem seq_nat {v n : Nat} (h : v < n) : seqIndex? (v : Int) n = some v := (ixN_seq (ixN_nat h)).1
def spShuf (K : PySem.W.Frag) : Sp := fun vs H Q _ => ∃ (g a : Addr) (b : Nat) (xs : List V), vs = [.ref g, .ref a] ∧ GenAt H g b ∧ SqL K H a xs ∧ a ≠ g ∧ xs.length ≤ 1000 ∧ b < 2 ^ 59 ∧
  ∀ (H' : Hp) (q : Addr) (ys : List V), But g H H' → GenAt H' g (b + xs.length) → H q = none → H' q = some (.lst ys) → ys.Perm xs → Q (.ref q) H'
section
variable {P : Program} {w : World} {K : PySem.W.Frag}
      {mg : Str → Option Value} {base : Heap}
theorem ok_shuffled (T : Bl mg) (D : Def K mg "_law_shuffled" s_l_shuffled) (C_l_random : Cal P w K mg base "_law_random" ["_law_generator_here", "_law_bound"] 2 spRand) : Cal P w K mg base "_law_shuffled" ["_law_generator_here", "_law_items"] 3 (spShuf K) := by
  refine D.ok sc_l_shuffled (fun _ _ _ _ _ _ us hl => match us, hl with | [_, _], _ => rfl) (fun vs H Q E h => ?_) (fun f cdv A outer s H vs Q E hr h => ?_)
  · obtain ⟨g, a, b, xs, rfl, _⟩ := h
    rfl
  obtain ⟨g, a, b, xs, rfl, hg, hs, nag, hxs, hb, q⟩ := h
  obtain ⟨f_l_random, fd_l_random, g_l_random, k_l_random, b_l_random, G_l_random⟩ := C_l_random
  refine ⟨_, (pss_cons (ps_set (i := 2) sc_l_shuffled.nd rfl (.inr rfl) (pe_callTy call_list_of (by rfl) T.list (by decide +kernel) (pa_cons (pv 1) pa_nil)))
    (pss_one (ps_ret (pe_lc (own := [("_law_item", 3)]) (g := gName 3)  (te := (tBM K "list" rPopAt (tVar 2) (tCons (tCall spRand [] E0 (tCons (tVar 0) (tCons (tCB (fun xs H Q => ∃ p ys, xs = [V.ref p] ∧ (SqL K H p ys ∨ SqT K H p ys) ∧ Q (.int ys.length) H) (tCons (tVar 2) tNil)) tNil))) tNil))) rfl sc_l_shuffled.nd (pi_list (pv 1)) (blkOk_by (N := N_l_shuffled) (sc := defScope s_l_shuffled) (own := [("_law_item", 3)]) (by decide +kernel)) (fun _ _ _ _ _ => (pg_name (i := 3) sc_l_shuffled.nd rfl (.inl rfl) (.inr rfl))) (fun _ _ _ _ _ => pts_nil) (fun _ _ _ _ _ => (pe_bm PySem.F.plainAttrs_list PySem.F.slot_list_pop PySem.F.type_list_pop mt_popAt (pv 2) (pa_cons (pe_call G_l_random (hr.mono (by decide)) (by rfl) g_l_random k_l_random b_l_random .nil pass0 (pa_cons (pv 0) (pa_cons (pe_callB call_len_seq (by rfl) T.len PySem.boot_len (pa_cons (pv 2) pa_nil)) pa_nil))) pa_nil))))))), ?_⟩
  refine ⟨_, rfl, a, xs, rfl, .inl hs, fun pp npp => ?_⟩
  have s1 := Same.upd (o := .lst xs) npp
  have h1 : (upd H pp (.lst xs)) pp = some (.lst xs) := upd_same
  have g1 := hg.same s1
  generalize upd H pp (.lst xs) = H1 at s1 h1 g1
  refine ⟨_, rfl, a, rfl, ⟨_, s1.seq hs⟩, fun pd npd => ?_⟩
  have ndp : pd ≠ pp := (ne_of_none h1 npd).symm
  have ndg : pd ≠ g := g1.ne npd
  have npg : pp ≠ g := hg.ne npp
  refine lc_it (walk_list (K := K) (a := a) (xs := xs)) (fun i H2 => ∃ acc pl, But g H H2 ∧ GenAt H2 g (b + i) ∧ H2 pp = some (.lst pl) ∧ H2 pd = some (.lst acc) ∧ (acc ++ pl).Perm xs ∧ acc.length = i)
    ⟨[], xs, s1.but.at (s1.free npd) _, g1.at ndg, by rw [upd_ne ndp.symm]; exact h1, upd_same, List.Perm.refl _, rfl⟩ (fun i H2 _ ⟨_, _, bt, _⟩ => bt.seq nag hs) ?_ ?_
  · rintro i v H2 H3 hi ⟨acc, pl, bt, g2, h2, hd2, pm, hl⟩ ⟨rfl, ex⟩
    have hlen := pm.length_eq
    rw [List.length_append] at hlen
    refine ⟨rfl, lcYes ?_⟩
    refine ⟨_, rfl, .inl ⟨rfl, _, SqL.of h2⟩, _, rfl, _, rfl, pp, pl, rfl, .inl (SqL.of h2), ?_⟩
    refine ⟨g, b + i, pl.length, rfl, g2, by omega, by omega, by omega, fun H4 u bt4 g4 hu => ?_⟩
    have h4 := bt4 _ _ npg h2
    have hd4 := bt4 _ _ ndg hd2
    obtain ⟨y, hy⟩ : ∃ y, pl[u]? = some y := ⟨_, List.getElem?_eq_getElem hu⟩
    refine ⟨pp, pl, _, u, y, rfl, rfl, h4, by omega, by omega, seq_nat hu, hy, ?_⟩
    refine ⟨acc, by rw [upd_ne ndp]; exact hd4, small1000 (by omega), acc ++ [y], pl.eraseIdx u, ?_, ?_, ?_, upd_same, ?_, by rw [List.length_append, hl]; rfl⟩
    · exact (((bt.trans bt4).at npp _).at (s1.free npd) _)
    · exact (g4.at npg).at ndg
    · rw [upd_ne ndp.symm, upd_same]
    · rw [List.append_assoc]
      exact (List.Perm.append_left acc (cons_erase pl u y hy)).trans pm
  · rintro H2 ⟨acc, pl, bt, g2, h2, hd2, pm, hl⟩
    have hlen := pm.length_eq
    rw [List.length_append] at hlen
    have : pl = [] := List.eq_nil_of_length_eq_zero (by omega)
    subst this
    rw [List.append_nil] at pm
    exact q H2 pd acc bt g2 (s1.free npd) hd2 pm
end
end K5

namespace K5
open PySem PySem.Spec PyProof.Rows L2
/-! ### moves and states, as plain mathematics -/
/-- person, start, end -/
abbrev Mv := Nat × Nat × Nat
/-- where each person is; whom each door bars -/
abbrev S2 := List Nat × List Nat
theorem Tree.one_door {n ds} (T : Tree n ds) {d c x y : Nat} (j : Joins ds d x y) (k : Joins ds c x y) : d = c := by
  obtain ⟨side, s1, s2⟩ := T.side
  refine Classical.byContradiction fun h => ?_
  exact side_join s1 j (side_other s2 k h)
/-- the door between two rooms -/
def dix (ds : List (Nat × Nat)) (x y : Nat) : Nat := ((List.range ds.length).find? fun d => decide (ds[d]? = some (x, y) ∨ ds[d]? = some (y, x))).getD 0
theorem joins_lt {ds : List (Nat × Nat)} {d x y : Nat} (j : Joins ds d x y) : d < ds.length := by
  rcases j with j | j
  · exact get_lt j
  · exact get_lt j
theorem dix_is {n ds} (T : Tree n ds) {d x y : Nat} (j : Joins ds d x y) : dix ds x y = d := by
  unfold dix
  cases h : (List.range ds.length).find? fun d => decide (ds[d]? = some (x, y) ∨ ds[d]? = some (y, x)) with
  | none =>
    have := List.find?_eq_none.mp h d (List.mem_range.mpr (joins_lt j))
    exact absurd (decide_eq_true (show ds[d]? = some (x, y) ∨ ds[d]? = some (y, x) from j)) this
  | some c =>
    have k : ds[c]? = some (x, y) ∨ ds[c]? = some (y, x) := by
      have := List.find?_some h
      exact of_decide_eq_true this
    exact T.one_door k j
/-- a move that names a person and a door -/
def VM (ds : List (Nat × Nat)) (P : Nat) (m : Mv) : Prop := m.1 < P ∧ ∃ d, Joins ds d m.2.1 m.2.2
/-- why the move is not possible -/
def why (ds : List (Nat × Nat)) (S : S2) (m : Mv) : Option String :=
  if S.1.getD m.1 0 ≠ m.2.1 then some "away" else if S.2.getD (dix ds m.2.1 m.2.2) 0 = m.1 then some "barred" else none
def nxt (ds : List (Nat × Nat)) (S : S2) (m : Mv) : S2 := (S.1.set m.1 m.2.2, S.2.set (dix ds m.2.1 m.2.2) m.1)
def runs (ds : List (Nat × Nat)) : Nat → S2 → List Mv → (Nat × String) ⊕ S2
  | _, S, [] => .inr S
  | i, S, m :: r => match why ds S m with
    | some w => .inl (i, w)
    | none => runs ds (i + 1) (nxt ds S m) r
structure StOk (n : Nat) (ds : List (Nat × Nat)) (S : S2) : Prop where
  one : 1 ≤ S.1.length
  few : S.1.length ≤ 4
  rooms : ∀ x ∈ S.1, x < n
  doors : S.2.length = ds.length
  bars : ∀ y ∈ S.2, y < S.1.length
theorem StOk.nxt {n ds S m} (T : Tree n ds) (h : StOk n ds S) (v : VM ds S.1.length m) : StOk n ds (nxt ds S m) := by
  obtain ⟨v1, d, j⟩ := v
  obtain ⟨_, l2, _, _⟩ := j.lt T
  have e1 : (K5.nxt ds S m).1.length = S.1.length := List.length_set
  refine ⟨by rw [e1]; exact h.one, by rw [e1]; exact h.few, fun x hx => ?_, by rw [show (K5.nxt ds S m).2.length = S.2.length from List.length_set]; exact h.doors, fun y hy => ?_⟩
  · rcases List.mem_or_eq_of_mem_set hx with q | q
    · exact h.rooms x q
    · rw [q]; exact l2
  · rw [e1]
    rcases List.mem_or_eq_of_mem_set hy with q | q
    · exact h.bars y q
    · rw [q]; exact v1
theorem nxt_len {ds S m} : (nxt ds S m).1.length = S.1.length := List.length_set
theorem runs_drop {ds : List (Nat × Nat)} {S : S2} {ms : List Mv} {k : Nat} {m : Mv} (h : ms[k]? = some m) : runs ds k S (ms.drop k) = match why ds S m with
    | some w => .inl (k, w)
    | none => runs ds (k + 1) (nxt ds S m) (ms.drop (k + 1)) := by
  have hk := get_lt h
  have e : ms.drop k = m :: ms.drop (k + 1) := by
    rw [List.drop_eq_getElem_cons hk]
    rw [List.getElem?_eq_getElem hk] at h
    rw [Option.some.inj h]
  rw [e]
  rfl
/-- the moves that are possible -/
def Can (ds : List (Nat × Nat)) (S : S2) (m : Mv) : Prop := m.1 < S.1.length ∧ S.1[m.1]? = some m.2.1 ∧ ∃ d, Joins ds d m.2.1 m.2.2 ∧ S.2[d]? ≠ some m.1
theorem Can.vm {ds S m} (h : Can ds S m) : VM ds S.1.length m := ⟨h.1, h.2.2.choose, h.2.2.choose_spec.1⟩
theorem getD_of {l : List Nat} {i x : Nat} (h : l[i]? = some x) : l.getD i 0 = x := by
  rw [List.getD_eq_getElem?_getD, h]
  rfl
theorem Can.why {n ds S m} (T : Tree n ds) (h : Can ds S m) (o : StOk n ds S) : why ds S m = none := by
  obtain ⟨h1, h2, d, j, h3⟩ := h
  unfold K5.why
  rw [if_neg (by rw [getD_of h2]; simp), dix_is T j]
  have hd : d < S.2.length := by rw [o.doors]; exact joins_lt j
  obtain ⟨b, hb⟩ : ∃ b, S.2[d]? = some b := get_of rfl hd
  rw [getD_of hb, if_neg]
  intro z
  exact h3 (by rw [hb, z])
def mcode (m : Mv) : Int := TS.code 64 [(m.1 : Int), (m.2.1 : Int), (m.2.2 : Int)]
theorem mcode_is (m : Mv) : mcode m = (m.1 : Int) * 4096 + (m.2.1 : Int) * 64 + (m.2.2 : Int) := by
  unfold mcode
  show (m.1 : Int) * 64 ^ 2 + ((m.2.1 : Int) * 64 ^ 1 + ((m.2.2 : Int) * 64 ^ 0 + 0)) = _
  rw [show (64 : Int) ^ 2 = 4096 by decide, show (64 : Int) ^ 1 = 64 by decide, show (64 : Int) ^ 0 = 1 by decide]
  omega
def Sm (m : Mv) : Prop := m.1 < 64 ∧ m.2.1 < 64 ∧ m.2.2 < 64
theorem mcode_inj {m m' : Mv} (a : Sm m) (b : Sm m') (e : mcode m = mcode m') : m = m' := by
  obtain ⟨x, y, z⟩ := m
  obtain ⟨x', y', z'⟩ := m'
  rw [mcode_is, mcode_is] at e
  unfold Sm at a b
  simp only at e a b
  have h1 : x = x' := by omega
  have h2 : y = y' := by omega
  have h3 : z = z' := by omega
  rw [h1, h2, h3]
/-- the moves with P, each once, ascending -/
structure Canon (l : List Mv) (P : Mv → Prop) : Prop where
  mem : ∀ m, m ∈ l ↔ P m
  sm : ∀ m ∈ l, Sm m
  asc : l.Pairwise fun a b => mcode a < mcode b
theorem asc_unique : ∀ (l l' : List Mv), (l.Pairwise fun a b => mcode a < mcode b) → (l'.Pairwise fun a b => mcode a < mcode b) → (∀ m, m ∈ l ↔ m ∈ l') → (∀ m ∈ l, Sm m) → l = l'
  | [], [], _, _, _, _ => rfl
  | [], b :: r, _, _, h, _ => by
    have := (h b).mpr List.mem_cons_self
    cases this
  | a :: r, [], _, _, h, _ => by
    have := (h a).mp List.mem_cons_self
    cases this
  | a :: r, b :: r', p, p', h, sm => by
    obtain ⟨p1, p2⟩ := List.pairwise_cons.mp p
    obtain ⟨q1, q2⟩ := List.pairwise_cons.mp p'
    have e : a = b := by
      rcases List.mem_cons.mp ((h a).mp List.mem_cons_self) with e | h1
      · exact e
      · rcases List.mem_cons.mp ((h b).mpr List.mem_cons_self) with e | h2
        · exact e.symm
        · have := p1 b h2
          have := q1 a h1
          omega
    subst e
    have : r = r' := by
      refine asc_unique r r' p2 q2 (fun m => ?_) fun m hm => sm m (List.mem_cons_of_mem _ hm)
      constructor
      · intro hm
        rcases List.mem_cons.mp ((h m).mp (List.mem_cons_of_mem _ hm)) with e | h1
        · subst e
          have := p1 m hm
          omega
        · exact h1
      · intro hm
        rcases List.mem_cons.mp ((h m).mpr (List.mem_cons_of_mem _ hm)) with e | h1
        · subst e
          have := q1 m hm
          omega
        · exact h1
    rw [this]
theorem Canon.unique {l l' P} (a : Canon l P) (b : Canon l' P) : l = l' := asc_unique l l' a.asc b.asc (fun m => (a.mem m).trans (b.mem m).symm) a.sm
/-! ### how they stand in the heap -/
def tI (m : Mv) : List V := [.int (m.1 : Int), .int (m.2.1 : Int), .int (m.2.2 : Int)]
def TL (H : Hp) (ts : List Addr) (l : List Mv) : Prop := ts.length = l.length ∧ ∀ (i : Nat) (t : Addr) (m : Mv), ts[i]? = some t → l[i]? = some m → H t = some (.tup (tI m))
def TrisAt (H : Hp) (q : Addr) (l : List Mv) : Prop := ∃ ts : List Addr, H q = some (.lst (ts.map V.ref)) ∧ TL H ts l
def StateAt (K : PySem.W.Frag) (H : Hp) (a : Addr) (S : S2) : Prop := ∃ r b : Addr, SqT K H a [.ref r, .ref b] ∧ SqT K H r (nv S.1) ∧ SqT K H b (nv S.2)
section
variable {K : PySem.W.Frag} {H H' : Hp} {a g q t : Addr} {S : S2} {l : List Mv} {ts : List Addr} {m : Mv}
theorem StateAt.same (h : StateAt K H a S) (s : Same H H') : StateAt K H' a S := by
  obtain ⟨r, b, h1, h2, h3⟩ := h
  exact ⟨r, b, s.tup h1, s.tup h2, s.tup h3⟩
theorem StateAt.but {xs : List V} (h : StateAt K H a S) (hg : H g = some (.lst xs)) (s : But g H H') : StateAt K H' a S := by
  obtain ⟨r, b, h1, h2, h3⟩ := h
  exact ⟨r, b, s.tup hg h1, s.tup hg h2, s.tup hg h3⟩
theorem TL.same (h : TL H ts l) (s : Same H H') : TL H' ts l := ⟨h.1, fun i t m x y => s _ _ (h.2 i t m x y)⟩
theorem TL.but {xs : List V} (h : TL H ts l) (hg : H g = some (.lst xs)) (s : But g H H') : TL H' ts l := ⟨h.1, fun i t m x y => s _ _ (ne_lt hg (h.2 i t m x y)) (h.2 i t m x y)⟩
theorem TL.nil : TL H [] [] := ⟨rfl, fun i t m x => by simp at x⟩
theorem TL.append {ts2 : List Addr} {l2 : List Mv} (h : TL H ts l) (h2 : TL H ts2 l2) : TL H (ts ++ ts2) (l ++ l2) := by
  refine ⟨by rw [List.length_append, List.length_append, h.1, h2.1], fun i t m x y => ?_⟩
  by_cases hi : i < ts.length
  · rw [List.getElem?_append_left hi] at x
    rw [List.getElem?_append_left (by rw [← h.1]; exact hi)] at y
    exact h.2 i t m x y
  · rw [List.getElem?_append_right (by omega)] at x
    rw [List.getElem?_append_right (by rw [← h.1]; omega), ← h.1] at y
    exact h2.2 _ t m x y
theorem TL.one (h : H t = some (.tup (tI m))) : TL H [t] [m] := by
  refine ⟨rfl, fun i t' m' x y => ?_⟩
  match i with
  | 0 => cases x; cases y; exact h
  | i + 1 => simp at x
theorem TL.take (h : TL H ts l) (k : Nat) : TL H (ts.take k) (l.take k) := by
  refine ⟨by rw [List.length_take, List.length_take, h.1], fun i t m x y => ?_⟩
  rw [List.getElem?_take] at x y
  split at x
  · rename_i hi
    rw [if_pos hi] at y
    exact h.2 i t m x y
  · cases x
theorem TL.drop (h : TL H ts l) (k : Nat) : TL H (ts.drop k) (l.drop k) := by
  refine ⟨by rw [List.length_drop, List.length_drop, h.1], fun i t m x y => ?_⟩
  rw [List.getElem?_drop] at x y
  exact h.2 _ t m x y
theorem TrisAt.same (h : TrisAt H q l) (s : Same H H') : TrisAt H' q l := by
  obtain ⟨ts, h1, h2⟩ := h
  exact ⟨ts, s _ _ h1, h2.same s⟩
theorem TL.perm (h : TL H ts l) {ys : List V} (p : ys.Perm (ts.map V.ref)) : ∃ (ts' : List Addr) (l' : List Mv), ys = ts'.map V.ref ∧ l'.Perm l ∧ TL H ts' l' := by
  have e1 : ts.map V.ref = (ts.zip l).map (fun z => V.ref z.1) := by
    have e : (ts.zip l).map (fun z => V.ref z.1) = ((ts.zip l).map Prod.fst).map V.ref := by rw [List.map_map]; rfl
    rw [e, List.map_fst_zip (by rw [h.1]; omega)]
  rw [e1] at p
  obtain ⟨zs, ez, pz⟩ := perm_of_map _ _ _ p
  refine ⟨zs.map Prod.fst, zs.map Prod.snd, by rw [ez, List.map_map]; rfl, ?_, by simp, fun i t e a b => ?_⟩
  · have q := pz.map Prod.snd
    rw [List.map_snd_zip (by rw [h.1]; omega)] at q
    exact q
  · rw [List.getElem?_map] at a b
    cases hz : zs[i]? with
    | none => rw [hz] at a; cases a
    | some z =>
      rw [hz] at a b
      cases a
      cases b
      have hm := pz.mem_iff.mp (List.mem_of_getElem? hz)
      obtain ⟨j, hj⟩ := List.mem_iff_getElem?.mp hm
      rw [List.getElem?_zip_eq_some] at hj
      exact h.2 j _ _ hj.1 hj.2
/-- sorted's answer over such moves -/
theorem sorted_canon {ys : List V} {P : Mv → Prop} (h : TL H ts l) (mem : ∀ m, m ∈ l ↔ P m) (sm : ∀ m ∈ l, Sm m) (nd : l.Nodup) (pm : ys.Perm (ts.map V.ref))
    (asc : ys.Pairwise fun x y => ∀ n m, TupI K H x n → TupI K H y m → TS.code 64 n ≤ TS.code 64 m) : ∃ (ts' : List Addr) (l' : List Mv), ys = ts'.map V.ref ∧ Canon l' P ∧ TL H ts' l' := by
  obtain ⟨ts', l', rfl, pl, tl⟩ := h.perm pm
  have nd' := pl.nodup_iff.mpr nd
  refine ⟨ts', l', rfl, ⟨fun m => pl.mem_iff.trans (mem m), fun m hm => sm m (pl.mem_iff.mp hm), ?_⟩, tl⟩
  rw [List.pairwise_iff_getElem]
  intro i j hi hj hij
  have hi' : i < ts'.length := by rw [tl.1]; exact hi
  have hj' : j < ts'.length := by rw [tl.1]; exact hj
  have a1 := List.pairwise_iff_getElem.mp asc i j (by rw [List.length_map]; exact hi') (by rw [List.length_map]; exact hj') hij
  rw [List.getElem_map, List.getElem_map] at a1
  have t1 := tl.2 i ts'[i] l'[i] (List.getElem?_eq_getElem hi') (List.getElem?_eq_getElem hi)
  have t2 := tl.2 j ts'[j] l'[j] (List.getElem?_eq_getElem hj') (List.getElem?_eq_getElem hj)
  have le : mcode l'[i] ≤ mcode l'[j] := a1 _ _ ⟨_, rfl, SqT.of t1⟩ ⟨_, rfl, SqT.of t2⟩
  have ne : mcode l'[i] ≠ mcode l'[j] := by
    intro e
    have := mcode_inj (sm _ (pl.mem_iff.mp (List.getElem_mem hi))) (sm _ (pl.mem_iff.mp (List.getElem_mem hj))) e
    exact absurd this (List.pairwise_iff_getElem.mp nd' i j hi hj hij)
  omega
theorem tup_of {m : Mv} (h : H t = some (.tup (tI m))) (sm : Sm m) : ∃ ns, TupI K H (.ref t) ns ∧ ns.length = 3 ∧ TS.Bd 64 ns := by
  refine ⟨[(m.1 : Int), (m.2.1 : Int), (m.2.2 : Int)], ⟨t, rfl, SqT.of h⟩, rfl, ?_⟩
  obtain ⟨h1, h2, h3⟩ := sm
  intro x hx
  simp only [List.mem_cons, List.not_mem_nil,
        or_false] at hx
  rcases hx with rfl | rfl | rfl <;> omega
end
/-! ### as data -/
def dM (m : Mv) : PyData := .tuple [.int (m.1 : Int), .int (m.2.1 : Int), .int (m.2.2 : Int)]
def dMs (l : List Mv) : PyData := .list (l.map dM)
def dIs (l : List Nat) : List PyData := (l.map fun x : Nat => (x : Int)).map PyData.int
def dS (S : S2) : PyData := .tuple [.tuple (dIs S.1), .tuple (dIs S.2)]
def dO : (Nat × String) ⊕ S2 → PyData
  | .inl (i, w) => .list [.int (i : Int), .tuple [.str (Str.ofString w)]]
  | .inr S => dS S
theorem dIs_lay : ∀ l : List Nat, PyData.canLayAll0 (dIs l) = true
  | [] => by simp [dIs, PyData.canLayAll0]
  | x :: r => by
    have := dIs_lay r
    unfold dIs at this ⊢
    simp only [List.map_cons, PyData.canLayAll0, PyData.canLay0, this, Bool.and_true]
theorem dIs_depth : ∀ l : List Nat, PyData.depthAll (dIs l) ≤ 1
  | [] => by simp [dIs, PyData.depthAll]
  | x :: r => by
    have := dIs_depth r
    unfold dIs at this ⊢
    simp only [List.map_cons, PyData.depthAll,
          PyData.depth]
    omega
theorem dM_lay (z : Mv) : (dM z).canLay0 = true := by simp [dM, PyData.canLay0, PyData.canLayAll0]
theorem dM_depth (z : Mv) : (dM z).depth ≤ 2 := by simp [dM, PyData.depth, PyData.depthAll]
theorem dMs_lay : ∀ zs : List Mv, PyData.canLayAll0 (zs.map dM) = true
  | [] => by simp [PyData.canLayAll0]
  | z :: zs => by simp [PyData.canLayAll0, dM_lay z, dMs_lay zs]
theorem dMs_depth : ∀ zs : List Mv, PyData.depthAll (zs.map dM) ≤ 2
  | [] => by simp [PyData.depthAll]
  | z :: zs => by
    have h1 := dMs_depth zs
    have h2 := dM_depth z
    simp only [List.map_cons, PyData.depthAll]
    omega
theorem shaped_mk {d : PyData} (h1 : d.canLay0 = true) (h2 : d.depth ≤ 64) : SeqAt.shaped d = true := by
  show (d.canLay0 && decide (d.depth ≤ 64)) = true
  rw [h1, decide_eq_true h2]
  rfl
theorem dMs_shaped (l : List Mv) : SeqAt.shaped (dMs l) = true := by
  have h := dMs_depth l
  refine shaped_mk ?_ ?_
  · simp only [dMs, PyData.canLay0]
    exact dMs_lay l
  · simp only [dMs, PyData.depth]
    omega
theorem dS_shaped (S : S2) : SeqAt.shaped (dS S) = true := by
  have h1 := dIs_depth S.1
  have h2 := dIs_depth S.2
  have h3 := dIs_lay S.1
  have h4 := dIs_lay S.2
  refine shaped_mk ?_ ?_
  · simp only [dS, PyData.canLay0, PyData.canLayAll0, h3, h4, Bool.and_true]
  · simp only [dS, PyData.depth, PyData.depthAll]
    omega
theorem dO_shaped {o : (Nat × String) ⊕ S2} (h : ∀ i w, o = .inl (i, w) → w = "away" ∨ w = "barred") : SeqAt.shaped (dO o) = true := by
  match o, h with
  | .inl (i, w), h =>
    have hw : PyData.strOk (Str.ofString w) = true := by
      rcases h i w rfl with rfl | rfl
      · decide +kernel
      · decide +kernel
    refine shaped_mk ?_ ?_
    · simp only [dO, PyData.canLay0, PyData.canLayAll0, hw, Bool.and_true]
    · simp only [dO, PyData.depth, PyData.depthAll]
      omega
  | .inr S, _ => exact dS_shaped S
theorem why_word {ds S m w} (h : why ds S m = some w) : w = "away" ∨ w = "barred" := by
  unfold why at h
  split at h
  · exact .inl (Option.some.inj h).symm
  · split at h
    · exact .inr (Option.some.inj h).symm
    · cases h
theorem runs_word {ds : List (Nat × Nat)} : ∀ {ms : List Mv} {k : Nat} {S : S2} {i : Nat} {w : String}, runs ds k S ms = .inl (i, w) → w = "away" ∨ w = "barred"
  | [], k, S, i, w, h => by
    rw [runs] at h
    cases h
  | m :: r, k, S, i, w, h => by
    rw [runs] at h
    split at h
    · rename_i w' e
      cases h
      exact why_word e
    · exact runs_word h
theorem d_refl {d : PyData} (h : SeqAt.shaped d = true) : PyData.eqv d d = true := SeqAt.eqv_refl _ (SeqAt.canLay_of_shaped h)
section
variable {K : PySem.W.Frag} {H : Hp} {a q t : Addr} {S : S2} {l : List Mv} {ts : List Addr} {m : Mv}
theorem dp_is : ∀ l : List Nat, DpAll K H (nv l) (dIs l)
  | [] => .nil
  | x :: r => .cons (.int _) (dp_is r)
theorem dp_S (h : StateAt K H a S) : Dp K H (.ref a) (dS S) := by
  obtain ⟨r, b, h1, h2, h3⟩ := h
  exact .tup h1 (.cons (.tup h2 (dp_is _)) (.cons (.tup h3 (dp_is _)) .nil))
theorem dp_M (h : H t = some (.tup (tI m))) : Dp K H (.ref t) (dM m) := .tup (SqT.of h) (.cons (.int _) (.cons (.int _) (.cons (.int _) .nil)))
theorem dp_Ms : ∀ (ts : List Addr) (l : List Mv), TL H ts l → DpAll K H (ts.map V.ref) (l.map dM)
  | [], [], _ => .nil
  | [], m :: l, h => by have := h.1; simp at this
  | t :: ts, [], h => by have := h.1; simp at this
  | t :: ts, m :: l, h => .cons (dp_M (h.2 0 t m rfl rfl)) (dp_Ms ts l ⟨by have := h.1; simpa using this, fun i t' m' x y => h.2 (i + 1) t' m' x y⟩)
theorem dp_Tris (h : TrisAt H q l) : Dp K H (.ref q) (dMs l) := by
  obtain ⟨ts, h1, h2⟩ := h
  exact .lst (SqL.of h1) (dp_Ms ts l h2)
end
end K5

namespace K5
open PySem PySem.Spec PyProof.Rows L2
/-- steps (door, start, end) from a to b -/
def Trl (ds : List (Nat × Nat)) : Nat → List Mv → Nat → Prop
  | a, [], b => a = b
  | a, m :: r, b => m.2.1 = a ∧ Joins ds m.1 m.2.1 m.2.2 ∧ Trl ds m.2.2 r b
theorem Trl.snoc {ds : List (Nat × Nat)} {d y z : Nat} : ∀ {r : List Mv} {a : Nat}, Trl ds a r y → Joins ds d y z → Trl ds a (r ++ [(d, y, z)]) z
  | [], a, h, j => by
    have h : a = y := h
    subst h
    exact ⟨rfl, j, rfl⟩
  | m :: r, a, h, j => ⟨h.1, h.2.1, Trl.snoc h.2.2 j⟩
theorem Trl.walk {ds : List (Nat × Nat)} : ∀ {r : List Mv} {a b : Nat}, Trl ds a r b → Walk ds a (r.map Prod.fst) b
  | [], a, b, h => by
    have h : a = b := h
    subst h
    exact .nil _
  | m :: r, a, b, h => by
    obtain ⟨h1, h2, h3⟩ := h
    rw [h1] at h2
    exact .cons h2 (Trl.walk h3)
theorem nv_some {L : List Nat} {k : Nat} {x : V} (h : (nv L)[k]? = some x) : ∃ v, L[k]? = some v ∧ x = .int (v : Int) := by
  unfold nv at h
  rw [List.getElem?_map] at h
  cases e : L[k]? with
  | none => rw [e] at h; cases h
  | some v => rw [e] at h; exact ⟨v, rfl, (Option.some.inj h).symm⟩
/-- the doors that bar p -/
def barr (S : S2) (p : Nat) : List Nat := (List.range S.2.length).filter fun d => decide (S.2[d]? = some p)
theorem mem_barr {S : S2} {p d : Nat} : d ∈ barr S p ↔ S.2[d]? = some p := by
  unfold barr
  rw [List.mem_filter, List.mem_range]
  constructor
  · rintro ⟨_, h⟩
    exact of_decide_eq_true h
  · intro h
    exact ⟨get_lt h, decide_eq_true h⟩
theorem barr_len {S : S2} {p : Nat} : (barr S p).length ≤ S.2.length := by
  have := List.length_filter_le (fun d => decide (S.2[d]? = some p)) (List.range S.2.length)
  rw [List.length_range] at this
  exact this
/-- the rooms that a search finds; each with its way back -/
structure Reg (n : Nat) (ds : List (Nat × Nat)) (shut : List Nat) (room : Nat) (ks : List (Nat × Option (Nat × Nat))) : Prop where
  df : Dfs n ds shut (ks.map Prod.fst) []
  pt : Ptr ds shut room ks
  rm : room ∈ ks.map Prod.fst
def spStepsT (K : PySem.W.Frag) : Sp := fun vs H Q _ => ∃ (p : Addr) (a n room : Nat) (ds : List (Nat × Nat)) (shut : List Nat) (kvs : List (Key × V)) (ks : List (Nat × Option (Nat × Nat))), vs = [.ref p, .int (a : Int)] ∧ H p = some (.dK kvs) ∧ DicR (WayR H) kvs ks ∧ Ptr ds shut room ks ∧
  Tree n ds ∧ ks.length ≤ 1000 ∧ a ∈ ks.map Prod.fst ∧ ∀ (H' : Hp) (q : Addr) (tr : List Mv), Same H H' → H q = none → TrisAt H' q tr → Trl ds a tr room → (tr.map Prod.fst).Nodup → (∀ m ∈ tr, m.1 ∉ shut) → tr.length ≤ 1000 → Q (.ref q) H'
def spSt (K : PySem.W.Frag) : Sp := fun vs H Q _ => ∃ (a s : Addr) (ds : List (Nat × Nat)) (n : Nat) (S : S2), vs = [.ref a, .ref s] ∧ HouseAt K H a ds ∧ Tree n ds ∧ n ≤ 1000 ∧ StateAt K H s S ∧ StOk n ds S ∧ ∀ H', Same H H' → Q .non H'
def spShape (K : PySem.W.Frag) : Sp := fun vs H Q _ => ∃ (a s : Addr) (ds : List (Nat × Nat)) (n : Nat) (S : S2), vs = [.ref a, .ref s] ∧ HouseAt K H a ds ∧ StateAt K H s S ∧ StOk n ds S ∧ Q (.bl true) H
def spPerson (K : PySem.W.Frag) : Sp := fun vs H Q _ => ∃ (s : Addr) (p n : Nat) (ds : List (Nat × Nat)) (S : S2), vs = [.ref s, .int (p : Int)] ∧ StateAt K H s S ∧ StOk n ds S ∧ p < S.1.length ∧ Q .non H
def spBarring (K : PySem.W.Frag) : Sp := fun vs H Q _ => ∃ (s : Addr) (p n : Nat) (ds : List (Nat × Nat)) (S : S2), vs = [.ref s, .int (p : Int)] ∧ StateAt K H s S ∧ StOk n ds S ∧ n ≤ 1000 ∧ ds.length < n ∧ ∀ (H' : Hp) (q : Addr), Same H H' → H q = none → H' q = some (.lst (nv (barr S p))) → Q (.ref q) H'
def spRegWays (K : PySem.W.Frag) : Sp := fun vs H Q _ => ∃ (a s : Addr) (p n : Nat) (ds : List (Nat × Nat)) (S : S2), vs = [.ref a, .ref s, .int (p : Int)] ∧ HouseAt K H a ds ∧ Tree n ds ∧ n ≤ 1000 ∧ StateAt K H s S ∧ StOk n ds S ∧ p < S.1.length ∧
  ∀ (H' : Hp) (q : Addr) (kvs : List (Key × V)) (ks : List (Nat × Option (Nat × Nat))), Same H H' → H q = none → H' q = some (.dK kvs) → DicR (WayR H') kvs ks → Reg n ds (barr S p) (S.1.getD p 0) ks → Q (.ref q) H'
def spRegion (K : PySem.W.Frag) : Sp := fun vs H Q _ => ∃ (a s : Addr) (p n : Nat) (ds : List (Nat × Nat)) (S : S2), vs = [.ref a, .ref s, .int (p : Int)] ∧ HouseAt K H a ds ∧ Tree n ds ∧ n ≤ 60 ∧ StateAt K H s S ∧ StOk n ds S ∧ p < S.1.length ∧
  ∀ (H' : Hp) (q : Addr) (L : List Nat) (ks : List (Nat × Option (Nat × Nat))), Same H H' → H q = none → H' q = some (.lst (nv L)) → Reg n ds (barr S p) (S.1.getD p 0) ks → L.Perm (ks.map Prod.fst) → L.Pairwise (· ≤ ·) → Q (.ref q) H'
/-- walk_to: None where the room lies outside, else the steps of the way there -/
def spWalkTo (K : PySem.W.Frag) : Sp := fun vs H Q _ => ∃ (a s : Addr) (p x n : Nat) (ds : List (Nat × Nat)) (S : S2), vs = [.ref a, .ref s, .int (p : Int), .int (x : Int)] ∧ HouseAt K H a ds ∧ Tree n ds ∧ n ≤ 1000 ∧ StateAt K H s S ∧ StOk n ds S ∧ p < S.1.length ∧ x < n ∧
  (∀ (H' : Hp) (ks : List (Nat × Option (Nat × Nat))), Same H H' → Reg n ds (barr S p) x ks → S.1.getD p 0 ∉ ks.map Prod.fst → Q .non H') ∧
  (∀ (H' : Hp) (q : Addr) (tr : List Mv), Same H H' → H q = none → TrisAt H' q (tr.map fun m => (p, m.2.1, m.2.2)) → Trl ds (S.1.getD p 0) tr x → (tr.map Prod.fst).Nodup → (∀ m ∈ tr, m.1 ∉ barr S p) → tr.length ≤ 1000 → Q (.ref q) H')
section
variable {P : Program} {w : World} {K : PySem.W.Frag}
      {mg : Str → Option Value} {base : Heap}
theorem ok_has_state_shape (T : Bl mg) (D : Def K mg "has_state_shape" s_has_state_shape) : Cal P w K mg base "has_state_shape" ["house", "value"] 1 (spShape K) := by
  refine D.ok sc_has_state_shape (fun _ _ _ _ _ _ us hl => match us, hl with | [_, _], _ => rfl) (fun vs H Q E h => ?_) (fun f cdv A outer s H vs Q E hr h => ?_)
  · obtain ⟨a, s, ds, n, S, rfl, _⟩ := h
    rfl
  obtain ⟨a, s, ds, n, S, rfl, ⟨rs, hrs, hlen, hds⟩, ⟨r, b, h1, h2, h3⟩, ok, q⟩ := h
  refine ⟨_, (pss_cons (ps_if (PW.pt (pw_or (pt_not (pt_val (pe_callB call_isi (by rfl) T.isinstance (by decide +kernel) (pa_cons (pv 1) (pa_cons (pe_bltn (v := .ty "tuple") (u := .type "tuple") (by rfl) T.tuple (by decide +kernel) rfl) pa_nil))))) (pw_or1 (pt_cmpR op_ne (pe_callB call_len_seq (by rfl) T.len PySem.boot_len (pa_cons (pv 1) pa_nil)) pe_int (nomark _))))) (pss_one (ps_ret pe_bl)) pss_nil)
    (pss_cons (ps_asg (pv 1) (pg_tup (n := 2) rfl (pgs_cons (pg_name (i := 2) sc_has_state_shape.nd rfl (.inl rfl)) (pgs_cons (pg_name (i := 3) sc_has_state_shape.nd rfl (.inl rfl)) pgs_nil))))
    (pss_cons (ps_if (PW.pt (pw_or (pt_not (pt_val (pe_callB call_isi (by rfl) T.isinstance (by decide +kernel) (pa_cons (pv 2) (pa_cons (pe_bltn (v := .ty "tuple") (u := .type "tuple") (by rfl) T.tuple (by decide +kernel) rfl) pa_nil))))) (pw_or1 (pt_not (pt_val (pe_callB call_isi (by rfl) T.isinstance (by decide +kernel) (pa_cons (pv 3) (pa_cons (pe_bltn (v := .ty "tuple") (u := .type "tuple") (by rfl) T.tuple (by decide +kernel) rfl) pa_nil)))))))) (pss_one (ps_ret pe_bl)) pss_nil)
    (pss_one (ps_ret (pe_and (pe_cmpR op_ge (pe_callB call_len_seq (by rfl) T.len PySem.boot_len (pa_cons (pv 2) pa_nil)) pe_int (nomark _)) (pe_one (pe_cmpR op_eq (pe_callB call_len_seq (by rfl) T.len PySem.boot_len (pa_cons (pv 3) pa_nil)) (pe_callB call_len_seq (by rfl) T.len PySem.boot_len (pa_cons (pv 0) pa_nil)) (nomark _))))))))), ?_⟩
  refine ⟨_, rfl, _, _, _, _, _, rfl, .ty _, ty_tup h1, kit_ty (r := true) (by decide +kernel), _, rfl, iteF ?_⟩
  refine ⟨_, rfl, _, _, rfl, .inr h1, rfl, _, rfl, iteF ?_⟩
  refine ⟨_, rfl, _, _, rfl, h1, rfl, _, _, rfl, _, _, rfl, rfl, ?_⟩
  refine ⟨_, rfl, _, _, _, _, _, rfl, .ty _, ty_tup h2, kit_ty (r := true) (by decide +kernel), _, rfl, iteF ?_⟩
  refine ⟨_, rfl, _, _, _, _, _, rfl, .ty _, ty_tup h3, kit_ty (r := true) (by decide +kernel), _, rfl, iteF ?_⟩
  have o1 := ok.one
  refine ⟨_, rfl, _, _, rfl, .inr h2, _, _, rfl, rfl, _, rfl, ?_⟩
  rw [decide_eq_true (show (1 : Int) ≤ ((nv S.1).length : Nat) by rw [nv_len]; omega)]
  refine iteT ⟨_, rfl, _, _, rfl, .inr h3, _, rfl, _, _, rfl, .inr hrs, rfl, ?_⟩
  rw [decide_eq_true (show V.int ((nv S.2).length : Nat) = V.int ((rs.map V.ref).length : Nat) by rw [nv_len, List.length_map, hlen, ok.doors])]
  exact q
theorem ok_check_state (T : Bl mg) (D : Def K mg "check_state" s_check_state) (C_need_house : Cal P w K mg base "need_house" ["house"] 5 (spRing K)) (C_has_state_shape : Cal P w K mg base "has_state_shape" ["house", "value"] 1 (spShape K))
    (C_is_index : Cal P w K mg base "is_index" ["value", "count"] 2 spIndex) : Cal P w K mg base "check_state" ["house", "value"] 6 (spSt K) := by
  refine D.ok sc_check_state (fun _ _ _ _ _ _ us hl => match us, hl with | [_, _], _ => rfl) (fun vs H Q E h => ?_) (fun f cdv A outer s H vs Q E hr h => ?_)
  · obtain ⟨a, s, ds, n, S, rfl, _⟩ := h
    rfl
  obtain ⟨a, s, ds, n, S, rfl, hH, tree, hn, st, ok, q⟩ := h
  obtain ⟨rs, hrs, hlen, hds⟩ := id hH
  obtain ⟨r, b, h1, h2, h3⟩ := id st
  have hdn := tree.len
  obtain ⟨f_need_house, fd_need_house, g_need_house, k_need_house, b_need_house, G_need_house⟩ := C_need_house
  obtain ⟨f_has_state_shape, fd_has_state_shape, g_has_state_shape, k_has_state_shape, b_has_state_shape, G_has_state_shape⟩ := C_has_state_shape
  obtain ⟨f_is_index, fd_is_index, g_is_index, k_is_index, b_is_index, G_is_index⟩ := C_is_index
  refine ⟨_, (pss_cons (ps_expr (pe_call G_need_house (hr.mono (by decide)) (by rfl) g_need_house k_need_house b_need_house .nil pass0 (pa_cons (pv 0) pa_nil)))
    (pss_cons (ps_if (pt_not (pt_val (pe_call G_has_state_shape (hr.mono (by decide)) (by rfl) g_has_state_shape k_has_state_shape b_has_state_shape .nil pass0 (pa_cons (pv 0) (pa_cons (pv 1) pa_nil))))) (pss_one (ps_ret (pe_tup (pa_cons pe_str pa_nil)))) pss_nil)
    (pss_cons (ps_asg (pv 1) (pg_tup (n := 2) rfl (pgs_cons (pg_name (i := 2) sc_check_state.nd rfl (.inl rfl)) (pgs_cons (pg_name (i := 3) sc_check_state.nd rfl (.inl rfl)) pgs_nil))))
    (pss_cons (ps_for PassesOwn.never rfl (pi_enumT (by rfl) T.enumerate (pa_cons (pv 2) pa_nil)) (pg_tup (n := 2) rfl (pgs_cons (pg_name (i := 4) sc_check_state.nd rfl (.inl rfl)) (pgs_cons (pg_name (i := 5) sc_check_state.nd rfl (.inl rfl)) pgs_nil)))
    (pss_one (ps_if (pt_not (pt_val (pe_call G_is_index (hr.mono (by decide)) (by rfl) g_is_index k_is_index b_is_index .nil pass0 (pa_cons (pv 5) (pa_cons (pe_op op_add (pe_callB call_len_seq (by rfl) T.len PySem.boot_len (pa_cons (pv 0) pa_nil)) pe_int) pa_nil))))) (pss_one (ps_ret (pe_tup (pa_cons pe_str (pa_cons (pv 4) pa_nil))))) pss_nil)))
    (pss_cons (ps_for PassesOwn.never rfl (pi_enumT (by rfl) T.enumerate (pa_cons (pv 3) pa_nil)) (pg_tup (n := 2) rfl (pgs_cons (pg_name (i := 6) sc_check_state.nd rfl (.inl rfl)) (pgs_cons (pg_name (i := 4) sc_check_state.nd rfl (.inl rfl)) pgs_nil)))
    (pss_one (ps_if (pt_not (pt_val (pe_call G_is_index (hr.mono (by decide)) (by rfl) g_is_index k_is_index b_is_index .nil pass0 (pa_cons (pv 4) (pa_cons (pe_callB call_len_seq (by rfl) T.len PySem.boot_len (pa_cons (pv 2) pa_nil)) pa_nil))))) (pss_one (ps_ret (pe_tup (pa_cons pe_str (pa_cons (pv 6) pa_nil))))) pss_nil)))
    (pss_one (ps_ret pe_non))))))), ?_⟩
  refine ⟨_, rfl, a, ds, n, rfl, hH, tree, hn, fun H1 s1 => ?_⟩
  refine ⟨_, rfl, _, rfl, a, s, ds, n, S, rfl, hH.same s1, st.same s1, ok, _, rfl, iteF ?_⟩
  refine ⟨_, rfl, _, _, rfl, s1.tup h1, rfl, _, _, rfl, _, _, rfl, rfl, ?_⟩
  refine ⟨_, rfl, r, _, rfl, s1.tup h2, ?_⟩
  refine for_it (walk_enumT (K := K) (a := r) (xs := nv S.1)) (fun k σ H2 => ∃ y4 y5 y6, σ = [some (.ref a), some (.ref s), some (.ref r), some (.ref b), y4, y5, y6] ∧ Same H H2)
    ⟨_, _, _, rfl, s1⟩ (fun i σ H2 _ ⟨_, _, _, _, sm⟩ => sm.tup h2) ?_ ?_
  · rintro k x σ H2 H3 hk ⟨y4, y5, y6, rfl, sm⟩ ⟨t, x1, x2, rfl, nt, rfl, ex1, ex2⟩
    cases ex1
    obtain ⟨v, hv, rfl⟩ := nv_some ex2
    have sm3 := sm.trans (Same.upd (o := .tup [.int (k : Nat), .int (v : Int)]) nt)
    have lv := ok.rooms v (List.mem_of_getElem? hv)
    refine ⟨t, _, rfl, SqT.of upd_same, rfl, _, _, rfl, _, _, rfl, rfl, ?_⟩
    refine ⟨_, rfl, _, rfl, _, _, rfl, .inr (sm3.tup hrs), _, _, rfl, rfl, _, _, rfl, _, rfl, ?_⟩
    rw [decide_eq_true (by rw [List.length_map, hlen]; omega)]
    exact iteF ⟨_, _, _, rfl, sm3⟩
  · rintro σ H2 ⟨y4, y5, y6, rfl, sm⟩
    refine ⟨_, rfl, b, _, rfl, sm.tup h3, ?_⟩
    refine for_it (walk_enumT (K := K) (a := b) (xs := nv S.2)) (fun k σ H2 => ∃ y4 y5 y6, σ = [some (.ref a), some (.ref s), some (.ref r), some (.ref b), y4, y5, y6] ∧ Same H H2)
      ⟨_, _, _, rfl, sm⟩ (fun i σ H2 _ ⟨_, _, _, _, sm⟩ => sm.tup h3) ?_ ?_
    · rintro k x σ H2 H3 hk ⟨y4, y5, y6, rfl, sm⟩ ⟨t, x1, x2, rfl, nt, rfl, ex1, ex2⟩
      cases ex1
      obtain ⟨v, hv, rfl⟩ := nv_some ex2
      have sm3 := sm.trans (Same.upd (o := .tup [.int (k : Nat), .int (v : Int)]) nt)
      have lv := ok.bars v (List.mem_of_getElem? hv)
      refine ⟨t, _, rfl, SqT.of upd_same, rfl, _, _, rfl, _, _, rfl, rfl, ?_⟩
      refine ⟨_, rfl, _, rfl, _, _, rfl, .inr (sm3.tup h2), _, _, rfl, _, rfl, ?_⟩
      rw [decide_eq_true (by rw [nv_len]; omega)]
      exact iteF ⟨_, _, _, rfl, sm3⟩
    · rintro σ H2 ⟨y4, y5, y6, rfl, sm⟩
      exact q H2 sm
theorem ok_need_state (T : Bl mg) (D : Def K mg "need_state" s_need_state) (C_check_state : Cal P w K mg base "check_state" ["house", "value"] 6 (spSt K)) : Cal P w K mg base "need_state" ["house", "state"] 7 (spSt K) := by
  refine D.ok sc_need_state (fun _ _ _ _ _ _ us hl => match us, hl with | [_, _], _ => rfl) (fun vs H Q E h => ?_) (fun f cdv A outer s H vs Q E hr h => ?_)
  · obtain ⟨a, s, ds, n, S, rfl, _⟩ := h
    rfl
  obtain ⟨a, s, ds, n, S, rfl, hH, tree, hn, st, ok, q⟩ := h
  obtain ⟨f_check_state, fd_check_state, g_check_state, k_check_state, b_check_state, G_check_state⟩ := C_check_state
  refine ⟨_, (pss_cons (ps_set (i := 2) sc_need_state.nd rfl (.inl rfl) (pe_call G_check_state (hr.mono (by decide)) (by rfl) g_check_state k_check_state b_check_state .nil pass0 (pa_cons (pv 0) (pa_cons (pv 1) pa_nil))))
    (pss_one (ps_if (pt_cmpR op_notN (pv 2) pe_non (nomark _)) pss_never pss_nil))), ?_⟩
  refine ⟨_, rfl, _, rfl, a, s, ds, n, S, rfl, hH, tree, hn, st, ok, fun H2 sm2 => ⟨_, rfl, rfl, _, rfl, iteF ?_⟩⟩
  exact q H2 sm2
end
end K5

namespace K5
open PySem PySem.Spec PyProof.Rows L2
/-- the key of a pair of rooms -/
def kD (x y : Nat) : List Key := [.inl (x : Int), .inl (y : Int)]
theorem kD_inj {a b x y : Nat} (h : kD a b = kD x y) : a = x ∧ b = y := by
  unfold kD at h
  have h1 := List.cons.inj h
  have h2 := List.cons.inj h1.2
  have e1 := Sum.inl.inj h1.1
  have e2 := Sum.inl.inj h2.1
  omega
/-- the dict of the doors ahead of door k -/
structure DrD (ds : List (Nat × Nat)) (k : Nat) (kvs : List (List Key × V)) : Prop where
  at_ : ∀ d x y, d < k → Joins ds d x y → valV kvs (kD x y) = some (.int (d : Int))
  len : kvs.length ≤ 2 * k
theorem put_len {κ : Type} [DecidableEq κ] (kvs : List (κ × V)) (k : κ) (v : V) : (putK kvs k v).length ≤ kvs.length + 1 := by
  unfold putK
  split
  · rw [List.length_map]; omega
  · simp
theorem DrD.step {n ds k kvs} {e : Nat × Nat} (T : Tree n ds) (h : DrD ds k kvs) (he : ds[k]? = some e) : DrD ds (k + 1) (putK (putK kvs (kD e.1 e.2) (.int (k : Int))) (kD e.2 e.1) (.int (k : Int))) := by
  have j : Joins ds k e.1 e.2 := .inl he
  refine ⟨fun d x y hd jd => ?_, ?_⟩
  · rw [valV_put, valV_put]
    by_cases c : d = k
    · subst c
      have hc : (x = e.1 ∧ y = e.2) ∨ (x = e.2 ∧ y = e.1) := by
        rcases jd with q | q <;> rw [he] at q <;> cases q
        · exact .inl ⟨rfl, rfl⟩
        · exact .inr ⟨rfl, rfl⟩
      rcases hc with ⟨rfl, rfl⟩ | ⟨rfl, rfl⟩
      · by_cases q : kD e.1 e.2 = kD e.2 e.1
        · rw [if_pos q]
        · rw [if_neg q, if_pos rfl]
      · rw [if_pos rfl]
    · have n1 : kD x y ≠ kD e.2 e.1 := fun q => by
        obtain ⟨rfl, rfl⟩ := kD_inj q
        exact c (T.one_door jd j.symm)
      have n2 : kD x y ≠ kD e.1 e.2 := fun q => by
        obtain ⟨rfl, rfl⟩ := kD_inj q
        exact c (T.one_door jd j)
      rw [if_neg n1, if_neg n2]
      exact h.at_ d x y (by omega) jd
  · have h1 := put_len kvs (kD e.1 e.2) (.int (k : Int))
    have h2 := put_len (putK kvs (kD e.1 e.2) (.int (k : Int))) (kD e.2 e.1) (.int (k : Int))
    have := h.len
    omega
def spDoors (K : PySem.W.Frag) : Sp := fun vs H Q _ => ∃ (a : Addr) (ds : List (Nat × Nat)) (n : Nat), vs = [.ref a] ∧ HouseAt K H a ds ∧ Tree n ds ∧ n ≤ 1000 ∧
  ∀ (H' : Hp) (p : Addr) (kvs : List (List Key × V)), Same H H' → H p = none → H' p = some (.dT kvs) → DrD ds ds.length kvs → Q (.ref p) H'
/-- a plan: a list of moves, None behind them where it is bad -/
def PlanAt (H : Hp) (pl : Addr) (l : List Mv) (bad : Bool) : Prop := ∃ ts : List Addr, H pl = some (.lst (ts.map V.ref ++ if bad = true then [.non] else [])) ∧ TL H ts l
theorem PlanAt.same {H H' : Hp} {pl l bad} (h : PlanAt H pl l bad) (s : Same H H') : PlanAt H' pl l bad := by
  obtain ⟨ts, h1, h2⟩ := h
  exact ⟨ts, s _ _ h1, h2.same s⟩
def spMove : Sp := fun vs H Q _ => ∃ (p : Addr) (P : Nat) (x : V) (ds : List (Nat × Nat)) (kvs : List (List Key × V)), vs = [.ref p, .int (P : Int), x] ∧ H p = some (.dT kvs) ∧ DrD ds ds.length kvs ∧
  ((x = .non ∧ Q (.bl false) H) ∨ ∃ (t : Addr) (m : Mv), x = .ref t ∧ H t = some (.tup (tI m)) ∧ VM ds P m ∧ ∀ H', Same H H' → Q (.bl true) H')
def spPeople : Sp := fun vs H Q _ => ∃ P : Nat, vs = [.int (P : Int)] ∧ 1 ≤ P ∧ Q .non H
def spPlan (K : PySem.W.Frag) : Sp := fun vs H Q _ => ∃ (a pl : Addr) (P n : Nat) (ds : List (Nat × Nat)) (l : List Mv) (bad : Bool), vs = [.ref a, .int (P : Int), .ref pl] ∧ HouseAt K H a ds ∧ Tree n ds ∧ n ≤ 1000 ∧ 1 ≤ P ∧ PlanAt H pl l bad ∧ (∀ m ∈ l, VM ds P m) ∧
  (bad = false → ∀ H', Same H H' → Q .non H') ∧ (bad = true → ∀ (H' : Hp) (t : Addr), Same H H' → H' t = some (.tup [.str "move", .int (l.length : Int)]) → Q (.ref t) H')
def spNP (K : PySem.W.Frag) : Sp := fun vs H Q _ => ∃ (a pl : Addr) (P n : Nat) (ds : List (Nat × Nat)) (l : List Mv), vs = [.ref a, .int (P : Int), .ref pl] ∧ HouseAt K H a ds ∧ Tree n ds ∧ n ≤ 1000 ∧ 1 ≤ P ∧ PlanAt H pl l false ∧ (∀ m ∈ l, VM ds P m) ∧ ∀ H', Same H H' → Q .non H'
/-- a plan that can be played, the doors given -/
def spPlayedG (K : PySem.W.Frag) : Sp := fun vs H Q _ => ∃ (pd s pl : Addr) (n : Nat) (ds : List (Nat × Nat)) (kvs : List (List Key × V)) (S S' : S2) (l : List Mv), vs = [.ref pd, .ref s, .ref pl] ∧ H pd = some (.dT kvs) ∧ DrD ds ds.length kvs ∧ Tree n ds ∧ n ≤ 1000 ∧ StateAt K H s S ∧ StOk n ds S ∧ PlanAt H pl l false ∧ (∀ m ∈ l, VM ds S.1.length m) ∧
  runs ds 0 S l = .inr S' ∧ ∀ (H' : Hp) (q : Addr), Same H H' → StateAt K H' q S' → Q (.ref q) H'
/-- a plan that can be played -/
def spPlayG (K : PySem.W.Frag) : Sp := fun vs H Q _ => ∃ (a s pl : Addr) (n : Nat) (ds : List (Nat × Nat)) (S S' : S2) (l : List Mv), vs = [.ref a, .ref s, .ref pl] ∧ HouseAt K H a ds ∧ Tree n ds ∧ n ≤ 1000 ∧ StateAt K H s S ∧ StOk n ds S ∧ PlanAt H pl l false ∧ (∀ m ∈ l, VM ds S.1.length m) ∧
  runs ds 0 S l = .inr S' ∧ ∀ (H' : Hp) (q : Addr), Same H H' → StateAt K H' q S' → Q (.ref q) H'
section
variable {P : Program} {w : World} {K : PySem.W.Frag}
      {mg : Str → Option Value} {base : Heap}
theorem ok_doors_by_ends (T : Bl mg) (D : Def K mg "doors_by_ends" s_doors_by_ends) : Cal P w K mg base "doors_by_ends" ["house"] 1 (spDoors K) := by
  refine D.ok sc_doors_by_ends (fun _ _ _ _ _ _ us hl => match us, hl with | [_], _ => rfl) (fun vs H Q E h => ?_) (fun f cdv A outer s H vs Q E hr h => ?_)
  · obtain ⟨a, ds, n, rfl, _⟩ := h
    rfl
  obtain ⟨a, ds, n, rfl, hH, tree, hn, q⟩ := h
  obtain ⟨rs, hrs, hlen, hds⟩ := id hH
  have hdn := tree.len
  refine ⟨_, (pss_cons (ps_set (i := 1) sc_doors_by_ends.nd rfl (.inl rfl) pe_dnewT)
    (pss_cons (ps_for PassesOwn.never rfl (pi_enumT (by rfl) T.enumerate (pa_cons (pv 0) pa_nil)) (pg_tup (n := 2) rfl (pgs_cons (pg_name (i := 2) sc_doors_by_ends.nd rfl (.inl rfl)) (pgs_cons (pg_tup (n := 2) rfl (pgs_cons (pg_name (i := 3) sc_doors_by_ends.nd rfl (.inl rfl)) (pgs_cons (pg_name (i := 4) sc_doors_by_ends.nd rfl (.inl rfl)) pgs_nil))) pgs_nil)))
    (pss_cons (ps_dput (hu_of hr) (pv 1) (pe_tup (pa_cons (pv 3) (pa_cons (pv 4) pa_nil))) (pv 2) rfl)
    (pss_one (ps_dput (hu_of hr) (pv 1) (pe_tup (pa_cons (pv 4) (pa_cons (pv 3) pa_nil))) (pv 2) rfl))))
    (pss_one (ps_ret (pv 1))))), ?_⟩
  refine fun p np => ?_
  refine ⟨_, rfl, a, _, rfl, (Same.upd np).tup hrs, ?_⟩
  refine for_it (walk_enumT (K := K) (a := a) (xs := rs.map V.ref)) (fun k σ H2 => ∃ kvs y3 y4 y5, σ = [some (.ref a), some (.ref p), y3, y4, y5] ∧ Same H H2 ∧ H2 p = some (.dT kvs) ∧ DrD ds k kvs)
    ⟨[], _, _, _, rfl, Same.upd np, upd_same, ⟨fun d x y h => by omega, Nat.zero_le _⟩⟩ (fun i σ H2 _ ⟨_, _, _, _, _, sm, _⟩ => sm.tup hrs) ?_ ?_
  · rintro k x σ H1 H2 hk ⟨kvs, y3, y4, y5, rfl, sm, hp, dr⟩ ⟨t, x1, x2, rfl, nt, rfl, ex1, ex2⟩
    cases ex1
    have hk' : k < ds.length := by
      rw [List.length_map, hlen] at hk
      exact hk
    obtain ⟨e, he⟩ : ∃ e, ds[k]? = some e := get_of rfl hk'
    obtain ⟨r, hr0⟩ : ∃ r, rs[k]? = some r := get_of hlen hk'
    have ex2' : V.ref r = x2 := by
      have ex2 : (rs.map V.ref)[k]? = some x2 := ex2
      rw [List.getElem?_map, hr0] at ex2
      exact Option.some.inj ex2
    subst ex2'
    have sm2 : Same H1 (upd H1 t (.tup [.int (k : Nat), .ref r])) := Same.upd nt
    have hrd := sm2.tup (sm.tup (hds k r e hr0 he))
    have hp2 := sm2 _ _ hp
    have sm3 := sm.trans sm2
    refine ⟨t, _, rfl, SqT.of upd_same, rfl, _, _, rfl, _, _, rfl, ⟨r, _, rfl, hrd, rfl, _, _, rfl, _, _, rfl, rfl, rfl, ?_⟩⟩
    generalize upd H1 t (.tup [.int (k : Nat), .ref r]) = H3 at sm2 hp2 sm3
    have dl := dr.len
    refine ⟨_, rfl, _, rfl, _, rfl, _, rfl, by show 2 ≤ sizeLine; decide, fun t1 nt1 => ⟨p, _, rfl, .t (k := kD e.1 e.2) (by rw [upd_ne (ne_of_none hp2 nt1)]; exact hp2) upd_same (small3k (by omega)), ?_⟩⟩
    have l1 := put_len kvs (kD e.1 e.2) (.int (k : Int))
    have hp4 : (upd (upd H3 t1 (.tup [.int (e.1 : Int), .int (e.2 : Int)])) p (.dT (putK kvs (kD e.1 e.2) (.int (k : Int))))) p = some (.dT (putK kvs (kD e.1 e.2) (.int (k : Int)))) := upd_same
    have sm4 : Same H (upd (upd H3 t1 (.tup [.int (e.1 : Int), .int (e.2 : Int)])) p (.dT (putK kvs (kD e.1 e.2) (.int (k : Int))))) := (sm3.trans (Same.upd nt1)).at np
    generalize upd (upd H3 t1 (.tup [.int (e.1 : Int), .int (e.2 : Int)])) p (.dT (putK kvs (kD e.1 e.2) (.int (k : Int)))) = H5 at hp4 sm4
    refine ⟨_, rfl, _, rfl, _, rfl, _, rfl, by show 2 ≤ sizeLine; decide, fun t2 nt2 => ⟨p, _, rfl, .t (k := kD e.2 e.1) (by rw [upd_ne (ne_of_none hp4 nt2)]; exact hp4) upd_same (small3k (by omega)), ?_⟩⟩
    exact ⟨_, _, _, _, rfl, (sm4.trans (Same.upd nt2)).at np, upd_same, dr.step tree he⟩
  · rintro σ H2 ⟨kvs, y3, y4, y5, rfl, sm, hp, dr⟩
    rw [List.length_map, hlen] at dr
    exact ⟨_, rfl, q H2 p kvs sm np hp dr⟩
theorem ok_need_people (T : Bl mg) (D : Def K mg "need_people" s_need_people) (C_is_whole : Cal P w K mg base "is_whole" ["value"] 1 spWhole) : Cal P w K mg base "need_people" ["people"] 2 spPeople := by
  refine D.ok sc_need_people (fun _ _ _ _ _ _ us hl => match us, hl with | [_], _ => rfl) (fun vs H Q E h => ?_) (fun f cdv A outer s H vs Q E hr h => ?_)
  · obtain ⟨p, rfl, _⟩ := h
    rfl
  obtain ⟨p, rfl, hp, q⟩ := h
  obtain ⟨f_is_whole, fd_is_whole, g_is_whole, k_is_whole, b_is_whole, G_is_whole⟩ := C_is_whole
  refine ⟨_, (pss_one (ps_if (PW.pt (pw_or (pt_not (pt_val (pe_call G_is_whole (hr.mono (by decide)) (by rfl) g_is_whole k_is_whole b_is_whole .nil pass0 (pa_cons (pv 0) pa_nil)))) (pw_or1 (pt_cmpR op_lt (pv 0) pe_int (nomark _))))) pss_never pss_nil)), ?_⟩
  refine ⟨_, rfl, _, rfl, _, rfl, iteF ?_⟩
  refine ⟨_, rfl, _, _, rfl, rfl, _, rfl, ?_⟩
  rw [decide_eq_false (show ¬ (p : Int) < 1 by omega)]
  exact iteF q
theorem ok_is_move (T : Bl mg) (D : Def K mg "is_move" s_is_move) (C_is_whole : Cal P w K mg base "is_whole" ["value"] 1 spWhole) (C_is_index : Cal P w K mg base "is_index" ["value", "count"] 2 spIndex) : Cal P w K mg base "is_move" ["doors", "people", "value"] 3 spMove := by
  refine D.ok sc_is_move (fun _ _ _ _ _ _ us hl => match us, hl with | [_, _, _], _ => rfl) (fun vs H Q E h => ?_) (fun f cdv A outer s H vs Q E hr h => ?_)
  · obtain ⟨p, n, x, ds, kvs, rfl, _⟩ := h
    rfl
  obtain ⟨p, n, x, ds, kvs, rfl, hp, dr, h⟩ := h
  obtain ⟨f_is_whole, fd_is_whole, g_is_whole, k_is_whole, b_is_whole, G_is_whole⟩ := C_is_whole
  obtain ⟨f_is_index, fd_is_index, g_is_index, k_is_index, b_is_index, G_is_index⟩ := C_is_index
  refine ⟨_, (pss_cons (ps_if (PW.pt (pw_or (pt_not (pt_val (pe_callB call_isi (by rfl) T.isinstance (by decide +kernel) (pa_cons (pv 2) (pa_cons (pe_bltn (v := .ty "tuple") (u := .type "tuple") (by rfl) T.tuple (by decide +kernel) rfl) pa_nil))))) (pw_or1 (pt_cmpR op_ne (pe_callB call_len_seq (by rfl) T.len PySem.boot_len (pa_cons (pv 2) pa_nil)) pe_int (nomark _))))) (pss_one (ps_ret pe_bl)) pss_nil)
    (pss_cons (ps_asg (pv 2) (pg_tup (n := 3) rfl (pgs_cons (pg_name (i := 3) sc_is_move.nd rfl (.inl rfl)) (pgs_cons (pg_name (i := 4) sc_is_move.nd rfl (.inl rfl)) (pgs_cons (pg_name (i := 5) sc_is_move.nd rfl (.inl rfl)) pgs_nil)))))
    (pss_cons (ps_if (PW.pt (pw_or (pt_not (pt_val (pe_call G_is_index (hr.mono (by decide)) (by rfl) g_is_index k_is_index b_is_index .nil pass0 (pa_cons (pv 3) (pa_cons (pv 1) pa_nil))))) (pw_or (pt_not (pt_val (pe_call G_is_whole (hr.mono (by decide)) (by rfl) g_is_whole k_is_whole b_is_whole .nil pass0 (pa_cons (pv 4) pa_nil)))) (pw_or1 (pt_not (pt_val (pe_call G_is_whole (hr.mono (by decide)) (by rfl) g_is_whole k_is_whole b_is_whole .nil pass0 (pa_cons (pv 5) pa_nil)))))))) (pss_one (ps_ret pe_bl)) pss_nil)
    (pss_one (ps_ret (pe_cmp (pc_din (hu_of hr) (pe_tup (pa_cons (pv 4) (pa_cons (pv 5) pa_nil))) (pv 0)))))))), ?_⟩
  rcases h with ⟨rfl, q⟩ | ⟨t, m, rfl, ht, ⟨v1, d, j⟩, q⟩
  · refine ⟨_, rfl, _, _, _, _, _, rfl, .ty _, .base .non, kit_ty (r := false) (by decide +kernel), _, rfl, iteT ?_⟩
    exact iteT q
  · refine ⟨_, rfl, _, _, _, _, _, rfl, .ty _, ty_tup (K := K) (SqT.of ht), kit_ty (r := true) (by decide +kernel), _, rfl, iteF ?_⟩
    refine ⟨_, rfl, _, _, rfl, .inr (SqT.of ht), rfl, _, rfl, iteF ?_⟩
    refine ⟨_, rfl, _, _, rfl, SqT.of ht, rfl, _, _, rfl, _, _, rfl, _, _, rfl, rfl, ?_⟩
    refine ⟨_, rfl, _, rfl, _, _, rfl, _, rfl, ?_⟩
    rw [decide_eq_true (show (0 : Int) ≤ (m.1 : Int) ∧ (m.1 : Int) < (n : Int) by omega)]
    refine iteF ⟨_, rfl, _, rfl, _, rfl, iteF ⟨_, rfl, _, rfl, _, rfl, iteF ?_⟩⟩
    refine ⟨_, rfl, _, rfl, by show 2 ≤ sizeLine; decide, fun t1 nt1 => ?_⟩
    refine ⟨_, rfl, p, _, rfl, .t (k := kD m.2.1 m.2.2) (by rw [upd_ne (ne_of_none hp nt1)]; exact hp) upd_same, ?_⟩
    rw [dr.at_ d m.2.1 m.2.2 (joins_lt j) j]
    exact q _ (Same.upd nt1)
theorem ok_check_plan (T : Bl mg) (D : Def K mg "check_plan" s_check_plan) (C_need_house : Cal P w K mg base "need_house" ["house"] 5 (spRing K)) (C_need_people : Cal P w K mg base "need_people" ["people"] 2 spPeople)
    (C_doors_by_ends : Cal P w K mg base "doors_by_ends" ["house"] 1 (spDoors K)) (C_is_move : Cal P w K mg base "is_move" ["doors", "people", "value"] 3 spMove) : Cal P w K mg base "check_plan" ["house", "people", "value"] 6 (spPlan K) := by
  refine D.ok sc_check_plan (fun _ _ _ _ _ _ us hl => match us, hl with | [_, _, _], _ => rfl) (fun vs H Q E h => ?_) (fun f cdv A outer s H vs Q E hr h => ?_)
  · obtain ⟨a, pl, p, n, ds, l, bad, rfl, _⟩ := h
    rfl
  obtain ⟨a, pl, p, n, ds, l, bad, rfl, hH, tree, hn, hp, ⟨ts, hpl, tl⟩, vm, q0, q1⟩ := h
  obtain ⟨f_need_house, fd_need_house, g_need_house, k_need_house, b_need_house, G_need_house⟩ := C_need_house
  obtain ⟨f_need_people, fd_need_people, g_need_people, k_need_people, b_need_people, G_need_people⟩ := C_need_people
  obtain ⟨f_doors_by_ends, fd_doors_by_ends, g_doors_by_ends, k_doors_by_ends, b_doors_by_ends, G_doors_by_ends⟩ := C_doors_by_ends
  obtain ⟨f_is_move, fd_is_move, g_is_move, k_is_move, b_is_move, G_is_move⟩ := C_is_move
  refine ⟨_, (pss_cons (ps_expr (pe_call G_need_house (hr.mono (by decide)) (by rfl) g_need_house k_need_house b_need_house .nil pass0 (pa_cons (pv 0) pa_nil)))
    (pss_cons (ps_expr (pe_call G_need_people (hr.mono (by decide)) (by rfl) g_need_people k_need_people b_need_people .nil pass0 (pa_cons (pv 1) pa_nil)))
    (pss_cons (ps_if (pt_not (pt_val (pe_callB call_isi (by rfl) T.isinstance (by decide +kernel) (pa_cons (pv 2) (pa_cons (pe_bltn (v := .ty "list") (u := .type "list") (by rfl) T.list (by decide +kernel) rfl) pa_nil))))) (pss_one (ps_ret (pe_tup (pa_cons pe_str pa_nil)))) pss_nil)
    (pss_cons (ps_set (i := 3) sc_check_plan.nd rfl (.inl rfl) (pe_call G_doors_by_ends (hr.mono (by decide)) (by rfl) g_doors_by_ends k_doors_by_ends b_doors_by_ends .nil pass0 (pa_cons (pv 0) pa_nil)))
    (pss_cons (ps_for PassesOwn.never rfl (pi_enum (by rfl) T.enumerate (pa_cons (pv 2) pa_nil)) (pg_tup (n := 2) rfl (pgs_cons (pg_name (i := 4) sc_check_plan.nd rfl (.inl rfl)) (pgs_cons (pg_name (i := 5) sc_check_plan.nd rfl (.inl rfl)) pgs_nil)))
    (pss_one (ps_if (pt_not (pt_val (pe_call G_is_move (hr.mono (by decide)) (by rfl) g_is_move k_is_move b_is_move .nil pass0 (pa_cons (pv 3) (pa_cons (pv 1) (pa_cons (pv 5) pa_nil)))))) (pss_one (ps_ret (pe_tup (pa_cons pe_str (pa_cons (pv 4) pa_nil))))) pss_nil)))
    (pss_one (ps_ret pe_non))))))), ?_⟩
  refine ⟨_, rfl, a, ds, n, rfl, hH, tree, hn, fun H1 s1 => ?_⟩
  refine ⟨_, rfl, p, rfl, hp, ?_⟩
  refine ⟨_, rfl, _, _, _, _, _, rfl, .ty _, .base (.lst (s1 _ _ hpl)), kit_ty (r := true) (by decide +kernel), _, rfl, iteF ?_⟩
  refine ⟨_, rfl, a, ds, n, rfl, hH.same s1, tree, hn, fun H2 pd kvs s2 npd hpd dr => ?_⟩
  have s12 := s1.trans s2
  have hpl2 := s12 _ _ hpl
  refine ⟨_, rfl, pl, _, rfl, SqL.of hpl2, ?_⟩
  refine for_it (walk_enum (K := K) (a := pl) (xs := ts.map V.ref ++ if bad = true then [.non] else [])) (fun k σ H3 => ∃ y4 y5, σ = [some (.ref a), some (.int (p : Int)), some (.ref pl), some (.ref pd), y4, y5] ∧ Same H2 H3 ∧ k ≤ l.length)
    ⟨_, _, rfl, Same.refl _, Nat.zero_le _⟩ (fun i σ H3 _ ⟨_, _, _, sm, _⟩ => SqL.of (sm _ _ hpl2)) ?_ ?_
  · rintro k x σ H3 H4 hk ⟨y4, y5, rfl, sm, hkl⟩ ⟨t, x1, x2, rfl, nt, rfl, ex1, ex2⟩
    cases ex1
    have sm4 := sm.trans (Same.upd (o := .tup [.int (k : Nat), x2]) nt)
    refine ⟨t, _, rfl, SqT.of upd_same, rfl, _, _, rfl, _, _, rfl, rfl, ?_⟩
    generalize upd H3 t (.tup [.int (k : Nat), x2]) = H5 at sm4
    by_cases hkk : k < l.length
    · obtain ⟨t1, ht1⟩ : ∃ t1, ts[k]? = some t1 := get_of tl.1 hkk
      obtain ⟨m, hm⟩ : ∃ m, l[k]? = some m := get_of rfl hkk
      have e : x2 = V.ref t1 := by
        have ex2 : (ts.map V.ref ++ if bad = true then [.non] else [])[k]? = some x2 := ex2
        rw [List.getElem?_append_left (by rw [List.length_map, tl.1]; exact hkk), List.getElem?_map, ht1] at ex2
        exact (Option.some.inj ex2).symm
      subst e
      refine ⟨_, rfl, _, rfl, _, rfl, pd, p, _, ds, kvs, rfl, sm4 _ _ hpd, dr, .inr ⟨t1, m, rfl, sm4 _ _ (s12 _ _ (tl.2 k t1 m ht1 hm)), vm m (List.mem_of_getElem? hm), fun H6 s6 => ?_⟩⟩
      exact ⟨_, rfl, iteF ⟨_, _, rfl, sm4.trans s6, hkk⟩⟩
    · have e : k = l.length := by omega
      subst e
      have eb : bad = true ∧ x2 = .non := by
        have ex2 : (ts.map V.ref ++ if bad = true then [.non] else [])[l.length]? = some x2 := ex2
        rw [List.getElem?_append_right (by rw [List.length_map, tl.1]; exact Nat.le_refl _), List.length_map, tl.1, Nat.sub_self] at ex2
        cases bad with
        | false => simp at ex2
        | true => exact ⟨rfl, (by simpa using ex2.symm)⟩
      obtain ⟨rfl, rfl⟩ := eb
      refine ⟨_, rfl, _, rfl, _, rfl, pd, p, _, ds, kvs, rfl, sm4 _ _ hpd, dr, .inl ⟨rfl, _, rfl, iteT ?_⟩⟩
      refine ⟨_, rfl, by show 2 ≤ sizeLine; decide, fun t2 nt2 => ?_⟩
      exact q1 rfl _ t2 ((s12.trans sm4).trans (Same.upd nt2)) upd_same
  · rintro σ H3 ⟨y4, y5, rfl, sm, hkl⟩
    have eb : bad = false := by
      cases bad with
      | false => rfl
      | true =>
        rw [List.length_append, List.length_map, tl.1] at hkl
        simp at hkl
        omega
    exact q0 eb H3 (s12.trans sm)
theorem ok_need_plan (T : Bl mg) (D : Def K mg "need_plan" s_need_plan) (C_check_plan : Cal P w K mg base "check_plan" ["house", "people", "value"] 6 (spPlan K)) : Cal P w K mg base "need_plan" ["house", "people", "plan"] 7 (spNP K) := by
  refine D.ok sc_need_plan (fun _ _ _ _ _ _ us hl => match us, hl with | [_, _, _], _ => rfl) (fun vs H Q E h => ?_) (fun f cdv A outer s H vs Q E hr h => ?_)
  · obtain ⟨a, pl, p, n, ds, l, rfl, _⟩ := h
    rfl
  obtain ⟨a, pl, p, n, ds, l, rfl, hH, tree, hn, hp, hpl, vm, q0⟩ := h
  obtain ⟨f_check_plan, fd_check_plan, g_check_plan, k_check_plan, b_check_plan, G_check_plan⟩ := C_check_plan
  refine ⟨_, (pss_cons (ps_set (i := 3) sc_need_plan.nd rfl (.inl rfl) (pe_call G_check_plan (hr.mono (by decide)) (by rfl) g_check_plan k_check_plan b_check_plan .nil pass0 (pa_cons (pv 0) (pa_cons (pv 1) (pa_cons (pv 2) pa_nil)))))
    (pss_one (ps_if (pt_cmpR op_notN (pv 3) pe_non (nomark _)) pss_never pss_nil))), ?_⟩
  refine ⟨_, rfl, _, rfl, _, rfl, a, pl, p, n, ds, l, false, rfl, hH, tree, hn, hp, hpl, vm, fun _ H2 sm2 => ?_, fun eb => (by cases eb)⟩
  exact ⟨_, rfl, rfl, _, rfl, iteF (q0 H2 sm2)⟩
theorem ok_played (T : Bl mg) (D : Def K mg "played" s_played) : Cal P w K mg base "played" ["doors", "state", "plan"] 1 (spPlayedG K) := by
  refine D.ok sc_played (fun _ _ _ _ _ _ us hl => match us, hl with | [_, _, _], _ => rfl) (fun vs H Q E h => ?_) (fun f cdv A outer s0 H vs Q E hr h => ?_)
  · obtain ⟨pd, s, pl, n, ds, kvs, S, S', l, rfl, _⟩ := h
    rfl
  obtain ⟨pd, s, pl, n, ds, kvs, S, S', l, rfl, hpd, dr, tree, hn, st, ok, hpl, vm, run, q0⟩ := h
  obtain ⟨r, b, h1, h2, h3⟩ := id st
  have hdn := tree.len
  have one := ok.one
  skip
  refine ⟨_, (pss_cons (ps_set (i := 3) sc_played.nd rfl (.inl rfl) (pe_callTy call_list_of (by rfl) T.list (by decide +kernel) (pa_cons (pe_ix ix_tup (pv 1) pe_int (fun _ _ => rfl)) pa_nil)))
    (pss_cons (ps_set (i := 4) sc_played.nd rfl (.inl rfl) (pe_callTy call_list_of (by rfl) T.list (by decide +kernel) (pa_cons (pe_ix ix_tup (pv 1) pe_int (fun _ _ => rfl)) pa_nil)))
    (pss_cons (ps_for PassesOwn.never rfl (pi_enum (by rfl) T.enumerate (pa_cons (pv 2) pa_nil)) (pg_tup (n := 2) rfl (pgs_cons (pg_name (i := 5) sc_played.nd rfl (.inl rfl)) (pgs_cons (pg_tup (n := 3) rfl (pgs_cons (pg_name (i := 6) sc_played.nd rfl (.inl rfl)) (pgs_cons (pg_name (i := 7) sc_played.nd rfl (.inl rfl)) (pgs_cons (pg_name (i := 8) sc_played.nd rfl (.inl rfl)) pgs_nil)))) pgs_nil)))
    (pss_cons (ps_set (i := 9) sc_played.nd rfl (.inl rfl) (pe_dget (hu_of hr) (pv 0) (pe_tup (pa_cons (pv 7) (pa_cons (pv 8) pa_nil))) (fun _ _ => rfl)))
    (pss_cons (ps_if (pt_cmpR op_ne (pe_ix ix_list (pv 3) (pv 6) (fun _ _ => rfl)) (pv 7) (nomark _)) pss_never pss_nil)
    (pss_cons (ps_if (pt_cmpR op_eq (pe_ix ix_list (pv 4) (pv 9) (fun _ _ => rfl)) (pv 6) (nomark _)) pss_never pss_nil)
    (pss_cons (ps_asg (pv 8) (pg_sub (pv 3) (pv 6) set_list))
    (pss_one (ps_asg (pv 6) (pg_sub (pv 4) (pv 9) set_list))))))))
    (pss_one (ps_ret (pe_tup (pa_cons (pe_callTy call_tuple_of (by rfl) T.tuple (by decide +kernel) (pa_cons (pv 3) pa_nil)) (pa_cons (pe_callTy call_tuple_of (by rfl) T.tuple (by decide +kernel) (pa_cons (pv 4) pa_nil)) pa_nil)))))))), ?_⟩
  obtain ⟨ts, hts, tl⟩ := hpl
  rw [if_neg (by simp), List.append_nil] at hts
  refine ⟨_, rfl, s, _, _, _, rfl, rfl, h1, atI_nat (j := 0) rfl, r, _, rfl, .inr h2, fun pr npr => ?_⟩
  have s14 := Same.upd (o := .lst (nv S.1)) npr
  have hpd4 : (upd H pr (.lst (nv S.1))) pd = some (.dT kvs) := by rw [upd_ne (ne_of_none hpd npr)]; exact hpd
  have hpr4 : (upd H pr (.lst (nv S.1))) pr = some (.lst (nv S.1)) := upd_same
  have npr0 := npr
  generalize upd H pr (.lst (nv S.1)) = H4 at s14 hpd4 hpr4
  refine ⟨_, rfl, s, _, _, _, rfl, rfl, s14.tup h1, atI_nat (j := 1) rfl, b, _, rfl, .inr (s14.tup h3), fun pb npb => ?_⟩
  have s15 := s14.trans (Same.upd (o := .lst (nv S.2)) npb)
  have hpd5 : (upd H4 pb (.lst (nv S.2))) pd = some (.dT kvs) := by rw [upd_ne (ne_of_none hpd4 npb)]; exact hpd4
  have nrb : pr ≠ pb := ne_of_none hpr4 npb
  have hpr5 : (upd H4 pb (.lst (nv S.2))) pr = some (.lst (nv S.1)) := by rw [upd_ne nrb]; exact hpr4
  have hpb5 : (upd H4 pb (.lst (nv S.2))) pb = some (.lst (nv S.2)) := upd_same
  have npb0 := s14.free npb
  generalize upd H4 pb (.lst (nv S.2)) = H5 at s15 hpd5 hpr5 hpb5
  have ndr : pd ≠ pr := ne_of hpd5 hpr5 (by intro z; cases z)
  have ndb : pd ≠ pb := ne_of hpd5 hpb5 (by intro z; cases z)
  refine ⟨_, rfl, pl, _, rfl, SqL.of (s15 _ _ hts), ?_⟩
  refine for_it (walk_enum (K := K) (a := pl) (xs := ts.map V.ref)) (fun k σ H6 => ∃ Sk y6 y7 y8 y9 y10, σ = [some (.ref pd), some (.ref s), some (.ref pl), some (.ref pr), some (.ref pb), y6, y7, y8, y9, y10] ∧ Same H H6 ∧
      H6 pd = some (.dT kvs) ∧ H6 pr = some (.lst (nv Sk.1)) ∧ H6 pb = some (.lst (nv Sk.2)) ∧ StOk n ds Sk ∧ Sk.1.length = S.1.length ∧ runs ds 0 S l = runs ds k Sk (l.drop k))
    ⟨S, _, _, _, _, _, rfl, s15, hpd5, hpr5, hpb5, ok, rfl, rfl⟩ (fun i σ H6 _ ⟨_, _, _, _, _, _, _, sm, _⟩ => SqL.of (sm _ _ hts)) ?_ ?_
  · rintro k x σ H6 H7 hk ⟨Sk, y6, y7, y8, y9, y10, rfl, sm, g1, g2, g3, okk, lk, er⟩ ⟨t, x1, x2, rfl, nt, rfl, ex1, ex2⟩
    cases ex1
    have hk' : k < l.length := by
      rw [List.length_map, tl.1] at hk
      exact hk
    obtain ⟨t1, ht1⟩ : ∃ t1, ts[k]? = some t1 := get_of tl.1 hk'
    obtain ⟨m, hm⟩ : ∃ m, l[k]? = some m := get_of rfl hk'
    have ex2' : V.ref t1 = x2 := by
      have ex2 : (ts.map V.ref)[k]? = some x2 := ex2
      rw [List.getElem?_map, ht1] at ex2
      exact Option.some.inj ex2
    subst ex2'
    obtain ⟨v1, d, j⟩ := vm m (List.mem_of_getElem? hm)
    have smt : Same H6 (upd H6 t (.tup [.int (k : Nat), .ref t1])) := Same.upd nt
    have sm7 := sm.trans smt
    have htm := sm7 _ _ (tl.2 k t1 m ht1 hm)
    have g17 := smt _ _ g1
    have g27 := smt _ _ g2
    have g37 := smt _ _ g3
    refine ⟨t, _, rfl, SqT.of upd_same, rfl, _, _, rfl, _, _, rfl, ⟨t1, _, rfl, SqT.of htm, rfl, _, _, rfl, _, _, rfl, _, _, rfl, rfl, rfl, ?_⟩⟩
    generalize upd H6 t (.tup [.int (k : Nat), .ref t1]) = H8 at smt sm7 htm g17 g27 g37
    refine ⟨_, rfl, _, rfl, _, rfl, by show 2 ≤ sizeLine; decide, fun t2 nt2 => ?_⟩
    have sm9 := sm7.trans (Same.upd (o := .tup [.int (m.2.1 : Int), .int (m.2.2 : Int)]) nt2)
    have g19 := (Same.upd (o := .tup [.int (m.2.1 : Int), .int (m.2.2 : Int)]) nt2) _ _ g17
    have g29 := (Same.upd (o := .tup [.int (m.2.1 : Int), .int (m.2.2 : Int)]) nt2) _ _ g27
    have g39 := (Same.upd (o := .tup [.int (m.2.1 : Int), .int (m.2.2 : Int)]) nt2) _ _ g37
    refine ⟨pd, .int (d : Int), rfl, ?_, ?_⟩
    · have := DGet.t (k := kD m.2.1 m.2.2) g19 upd_same
      rw [dr.at_ d _ _ (joins_lt j) j] at this
      exact this
    generalize upd H8 t2 (.tup [.int (m.2.1 : Int), .int (m.2.2 : Int)]) = H9 at sm9 g19 g29 g39
    have v1' : m.1 < Sk.1.length := by rw [lk]; exact v1
    obtain ⟨v, hv⟩ : ∃ v, Sk.1[m.1]? = some v := get_of rfl v1'
    have hd : d < Sk.2.length := by rw [okk.doors]; exact joins_lt j
    obtain ⟨bd, hbd⟩ : ∃ bd, Sk.2[d]? = some bd := get_of rfl hd
    have ed := dix_is tree j
    have rd := runs_drop (ds := ds) (S := Sk) hm
    refine ⟨_, rfl, _, rfl, pr, _, _, _, rfl, rfl, SqL.of g29, nv_at hv, _, rfl, rfl, _, rfl, ?_⟩
    by_cases cv : v = m.2.1
    · rw [decide_eq_true (show V.int (v : Int) = V.int (m.2.1 : Int) by rw [cv])]
      refine iteF ?_
      refine ⟨_, rfl, _, rfl, pb, _, _, _, rfl, rfl, SqL.of g39, nv_at hbd, _, rfl, rfl, _, rfl, ?_⟩
      by_cases cb : bd = m.1
      · rw [decide_eq_true (show V.int (bd : Int) = V.int (m.1 : Int) by rw [cb])]
        have hw : why ds Sk m = some "barred" := by
          unfold why
          rw [if_neg (by rw [getD_of hv, cv]; simp), ed, if_pos (by rw [getD_of hbd, cb])]
        rw [hw, ← er, run] at rd
        cases rd
      · rw [decide_eq_false (show ¬ V.int (bd : Int) = V.int (m.1 : Int) from fun z => cb (by have := V.int.inj z; omega))]
        have hw : why ds Sk m = none := by
          unfold why
          rw [if_neg (by rw [getD_of hv, cv]; simp), ed, if_neg (by rw [getD_of hbd]; exact cb)]
        rw [hw] at rd
        refine iteF ?_
        refine ⟨_, rfl, _, rfl, _, rfl, pr, _, _, m.1, rfl, rfl, g29, ixN_nat (by rw [nv_len]; exact v1'), ?_⟩
        refine ⟨_, rfl, _, rfl, _, rfl, pb, _, _, d, rfl, rfl, by rw [upd_ne nrb.symm]; exact g39, ixN_nat (by rw [nv_len]; exact hd), ?_⟩
        rw [nv_set, nv_set]
        refine ⟨nxt ds Sk m, _, _, _, _, _, rfl, (sm9.at npr0).at npb0, by rw [upd_ne ndb, upd_ne ndr]; exact g19, by rw [upd_ne nrb, upd_same]; rfl, by rw [upd_same, ← ed]; rfl, okk.nxt tree ⟨v1', d, j⟩, by rw [nxt_len]; exact lk, er.trans rd⟩
    · rw [decide_eq_false (show ¬ V.int (v : Int) = V.int (m.2.1 : Int) from fun z => cv (by have := V.int.inj z; omega))]
      have hw : why ds Sk m = some "away" := by
        unfold why
        rw [if_pos (by rw [getD_of hv]; exact cv)]
      rw [hw, ← er, run] at rd
      cases rd
  · rintro σ H6 ⟨Sk, y6, y7, y8, y9, y10, rfl, sm, g1, g2, g3, okk, lk, er⟩
    rw [List.length_map, tl.1, List.drop_length] at er
    refine ⟨_, rfl, pr, _, rfl, .inl ⟨SqL.of g2, fun u1 nu1 => ?_⟩⟩
    have sA := Same.upd (o := .tup (nv Sk.1)) nu1
    refine ⟨_, rfl, pb, _, rfl, .inl ⟨SqL.of (sA _ _ g3), fun u2 nu2 => ?_⟩⟩
    have sB := Same.upd (o := .tup (nv Sk.2)) nu2
    refine ⟨by show 2 ≤ sizeLine; decide, fun u3 nu3 => ?_⟩
    have sC := Same.upd (o := .tup [.ref u1, .ref u2]) nu3
    rw [run, runs] at er
    cases er
    exact q0 _ u3 (((sm.trans sA).trans sB).trans sC) ⟨u1, u2, SqT.of upd_same, SqT.of (sC _ _ (sB _ _ upd_same)), SqT.of (sC _ _ upd_same)⟩
theorem ok_play (T : Bl mg) (D : Def K mg "play" s_play) (C_need_state : Cal P w K mg base "need_state" ["house", "state"] 7 (spSt K))
    (C_need_plan : Cal P w K mg base "need_plan" ["house", "people", "plan"] 7 (spNP K)) (C_doors_by_ends : Cal P w K mg base "doors_by_ends" ["house"] 1 (spDoors K)) (C_played : Cal P w K mg base "played" ["doors", "state", "plan"] 1 (spPlayedG K)) : Cal P w K mg base "play" ["house", "state", "plan"] 8 (spPlayG K) := by
  refine D.ok sc_play (fun _ _ _ _ _ _ us hl => match us, hl with | [_, _, _], _ => rfl) (fun vs H Q E h => ?_) (fun f cdv A outer s0 H vs Q E hr h => ?_)
  · obtain ⟨a, s, pl, n, ds, S, S', l, rfl, _⟩ := h
    rfl
  obtain ⟨a, s, pl, n, ds, S, S', l, rfl, hH, tree, hn, st, ok, hpl, vm, run, q0⟩ := h
  obtain ⟨r, b, h1, h2, h3⟩ := id st
  have hdn := tree.len
  have one := ok.one
  obtain ⟨f_need_state, fd_need_state, g_need_state, k_need_state, b_need_state, G_need_state⟩ := C_need_state
  obtain ⟨f_need_plan, fd_need_plan, g_need_plan, k_need_plan, b_need_plan, G_need_plan⟩ := C_need_plan
  obtain ⟨f_played, fd_played, g_played, k_played, b_played, G_played⟩ := C_played
  obtain ⟨f_doors_by_ends, fd_doors_by_ends, g_doors_by_ends, k_doors_by_ends, b_doors_by_ends, G_doors_by_ends⟩ := C_doors_by_ends
  refine ⟨_, (pss_cons (ps_expr (pe_call G_need_state (hr.mono (by decide)) (by rfl) g_need_state k_need_state b_need_state .nil pass0 (pa_cons (pv 0) (pa_cons (pv 1) pa_nil))))
    (pss_cons (ps_expr (pe_call G_need_plan (hr.mono (by decide)) (by rfl) g_need_plan k_need_plan b_need_plan .nil pass0 (pa_cons (pv 0) (pa_cons (pe_callB call_len_seq (by rfl) T.len PySem.boot_len (pa_cons (pe_ix ix_tup (pv 1) pe_int (fun _ _ => rfl)) pa_nil)) (pa_cons (pv 2) pa_nil)))))
    (pss_one (ps_ret (pe_call G_played (hr.mono (by decide)) (by rfl) g_played k_played b_played .nil pass0 (pa_cons (pe_call G_doors_by_ends (hr.mono (by decide)) (by rfl) g_doors_by_ends k_doors_by_ends b_doors_by_ends .nil pass0 (pa_cons (pv 0) pa_nil)) (pa_cons (pv 1) (pa_cons (pv 2) pa_nil)))))))), ?_⟩
  refine ⟨_, rfl, _, rfl, a, s, ds, n, S, rfl, hH, tree, hn, st, ok, fun H1 s1 => ?_⟩
  refine ⟨_, rfl, _, rfl, s, _, _, _, rfl, rfl, s1.tup h1, atI_nat (j := 0) rfl, _, _, rfl, .inr (s1.tup h2), _, rfl, ?_⟩
  refine ⟨a, pl, S.1.length, n, ds, l, by rw [nv_len]; rfl, hH.same s1, tree, hn, one, hpl.same s1, vm, fun H2 s2 => ?_⟩
  have s12 := s1.trans s2
  refine ⟨_, rfl, a, ds, n, rfl, hH.same s12, tree, hn, fun H3 pd kvs s3 npd hpd dr => ?_⟩
  have s13 := s12.trans s3
  refine ⟨_, rfl, _, rfl, pd, s, pl, n, ds, kvs, S, S', l, rfl, hpd, dr, tree, hn, st.same s13, ok, hpl.same s13, vm, run, fun H4 q s4 hq => ?_⟩
  exact q0 _ q (s13.trans s4) hq
end
end K5

namespace K5
open PySem PySem.Spec PyProof.Rows L2
theorem PairsAt.but {g q : Addr} {H H' : Hp} {l} (h : PairsAt H q l) (hg : ∃ xs, H g = some (.lst xs)) (ne : q ≠ g) (s : But g H H') : PairsAt H' q l := by
  obtain ⟨xs, hx⟩ := hg
  exact h.aside hx ne s
/-- a rearranged list of the same pairs -/
theorem PairsAt.perm {H : Hp} {l : List (Nat × Nat)} {ts : List Addr} {ys : List V} (h2 : ts.length = l.length) (h3 : ∀ (i : Nat) (t : Addr) (e : Nat × Nat), ts[i]? = some t → l[i]? = some e → H t = some (.tup [.int e.1, .int e.2]))
    (p : ys.Perm (ts.map V.ref)) : ∃ (ts' : List Addr) (l' : List (Nat × Nat)), ys = ts'.map V.ref ∧ l'.Perm l ∧ ts'.length = l'.length ∧ ∀ (i : Nat) (t : Addr) (e : Nat × Nat), ts'[i]? = some t → l'[i]? = some e → H t = some (.tup [.int e.1, .int e.2]) := by
  have e1 : ts.map V.ref = (ts.zip l).map (fun z => V.ref z.1) := by
    have e : (ts.zip l).map (fun z => V.ref z.1) = ((ts.zip l).map Prod.fst).map V.ref := by rw [List.map_map]; rfl
    rw [e, List.map_fst_zip (by omega)]
  rw [e1] at p
  obtain ⟨zs, ez, pz⟩ := perm_of_map _ _ _ p
  refine ⟨zs.map Prod.fst, zs.map Prod.snd, by rw [ez, List.map_map]; rfl, ?_, by simp, fun i t e a b => ?_⟩
  · have q := pz.map Prod.snd
    rw [List.map_snd_zip (by omega)] at q
    exact q
  · rw [List.getElem?_map] at a b
    cases hz : zs[i]? with
    | none => rw [hz] at a; cases a
    | some z =>
      rw [hz] at a b
      cases a
      cases b
      have hm := pz.mem_iff.mp (List.mem_of_getElem? hz)
      obtain ⟨j, hj⟩ := List.mem_iff_getElem?.mp hm
      rw [List.getElem?_zip_eq_some] at hj
      exact h3 j _ _ hj.1 hj.2
def spHouse (K : PySem.W.Frag) : Sp := fun vs H Q _ => ∃ (g : Addr) (b most : Nat), vs = [.ref g, .int (most : Int)] ∧ GenAt H g b ∧ 0 < most ∧ most ≤ 100 ∧ b < 2 ^ 50 ∧
  ∀ (H' : Hp) (a : Addr) (ds : List (Nat × Nat)) (n : Nat), But g H H' → GenAt H' g (b + 1000) → a ≠ g → HouseAt K H' a ds → Tree n ds → n ≤ most → Q (.ref a) H'
section
variable {P : Program} {w : World} {K : PySem.W.Frag}
      {mg : Str → Option Value} {base : Heap}
theorem ok_random_house (T : Bl mg) (D : Def K mg "_law_random_house" s_l_random_house) (C_l_random : Cal P w K mg base "_law_random" ["_law_generator_here", "_law_bound"] 2 spRand)
    (C_l_shuffled : Cal P w K mg base "_law_shuffled" ["_law_generator_here", "_law_items"] 3 (spShuf K)) : Cal P w K mg base "_law_random_house" ["_law_generator_here", "_law_most"] 4 (spHouse K) := by
  refine D.ok sc_l_random_house (fun _ _ _ _ _ _ us hl => match us, hl with | [_, _], _ => rfl) (fun vs H Q E h => ?_) (fun f cdv A outer s H vs Q E hr h => ?_)
  · obtain ⟨g, b, most, rfl, _⟩ := h
    rfl
  obtain ⟨g, b, most, rfl, hg, hm0, hm1, hb, q⟩ := h
  obtain ⟨f_l_random, fd_l_random, g_l_random, k_l_random, b_l_random, G_l_random⟩ := C_l_random
  obtain ⟨f_l_shuffled, fd_l_shuffled, g_l_shuffled, k_l_shuffled, b_l_shuffled, G_l_shuffled⟩ := C_l_shuffled
  refine ⟨_, (pss_cons (ps_set (i := 2) sc_l_random_house.nd rfl (.inl rfl) (pe_op op_add pe_int (pe_call G_l_random (hr.mono (by decide)) (by rfl) g_l_random k_l_random b_l_random .nil pass0 (pa_cons (pv 0) (pa_cons (pv 1) pa_nil)))))
    (pss_cons (ps_set (i := 3) sc_l_random_house.nd rfl (.inl rfl) (pe_call G_l_random (hr.mono (by decide)) (by rfl) g_l_random k_l_random b_l_random .nil pass0 (pa_cons (pv 0) (pa_cons pe_int pa_nil))))
    (pss_cons (ps_set (i := 4) sc_l_random_house.nd rfl (.inl rfl) (pe_lst pa_nil))
    (pss_cons (ps_for PassesOwn.never rfl (pi_range2 rfl T.range (pa_cons pe_int (pa_cons (pv 2) pa_nil))) (pg_name (i := 5) sc_l_random_house.nd rfl (.inl rfl))
    (pss_cons (ps_set (i := 6) sc_l_random_house.nd rfl (.inl rfl) (pe_ix ix_list (pe_lst (pa_cons (pe_op op_sub (pv 5) pe_int) (pa_cons pe_int (pa_cons (pe_call G_l_random (hr.mono (by decide)) (by rfl) g_l_random k_l_random b_l_random .nil pass0 (pa_cons (pv 0) (pa_cons (pv 5) pa_nil))) (pa_cons (pe_callB (call_max2 rfl) (by rfl) T.max (by decide +kernel) (pa_cons pe_int (pa_cons (pe_op op_sub (pe_op op_sub (pv 5) pe_int) (pe_call G_l_random (hr.mono (by decide)) (by rfl) g_l_random k_l_random b_l_random .nil pass0 (pa_cons (pv 0) (pa_cons pe_int pa_nil)))) pa_nil))) pa_nil))))) (pv 3) (fun _ _ => rfl)))
    (pss_one (ps_expr (pe_bm PySem.F.plainAttrs_list PySem.F.slot_list_append PySem.F.type_list_append mt_append (pv 4) (pa_cons (pe_tup (pa_cons (pv 6) (pa_cons (pv 5) pa_nil))) pa_nil))))))
    (pss_cons (ps_set (i := 7) sc_l_random_house.nd rfl (.inl rfl) (pe_call G_l_shuffled (hr.mono (by decide)) (by rfl) g_l_shuffled k_l_shuffled b_l_shuffled .nil pass0 (pa_cons (pv 0) (pa_cons (pe_listRg rfl (by rfl) T.list (prg_1 (by rfl) T.range (pv 2))) pa_nil))))
    (pss_cons (ps_set (i := 8) sc_l_random_house.nd rfl (.inl rfl) (pe_lst pa_nil))
    (pss_cons (ps_for PassesOwn.never rfl (pi_list (pe_call G_l_shuffled (hr.mono (by decide)) (by rfl) g_l_shuffled k_l_shuffled b_l_shuffled .nil pass0 (pa_cons (pv 0) (pa_cons (pv 4) pa_nil)))) (pg_tup (n := 2) rfl (pgs_cons (pg_name (i := 9) sc_l_random_house.nd rfl (.inl rfl)) (pgs_cons (pg_name (i := 6) sc_l_random_house.nd rfl (.inl rfl)) pgs_nil)))
    (pss_cons (ps_set (i := 10) sc_l_random_house.nd rfl (.inl rfl) (pe_tup (pa_cons (pe_ix ix_list (pv 7) (pv 9) (fun _ _ => rfl)) (pa_cons (pe_ix ix_list (pv 7) (pv 6) (fun _ _ => rfl)) pa_nil))))
    (pss_one (ps_expr (pe_bm PySem.F.plainAttrs_list PySem.F.slot_list_append PySem.F.type_list_append mt_append (pv 8) (pa_cons (pe_stp (pv 10) (pe_op op_sub pe_int (pe_op op_mul pe_int (pe_call G_l_random (hr.mono (by decide)) (by rfl) g_l_random k_l_random b_l_random .nil pass0 (pa_cons (pv 0) (pa_cons pe_int pa_nil)))))) pa_nil))))))
    (pss_one (ps_ret (pe_callTy call_tuple_of (by rfl) T.tuple (by decide +kernel) (pa_cons (pv 8) pa_nil))))))))))), ?_⟩
  refine ⟨_, rfl, _, rfl, g, b, most, rfl, hg, hm0, by omega, by omega, fun H1 v bt1 g1 hv => ⟨_, _, rfl, rfl, ?_⟩⟩
  refine ⟨_, rfl, g, b + 1, 4, rfl, g1, by decide, by decide, by omega, fun H2 kind bt2 g2 hk => ?_⟩
  refine ⟨Nat.zero_le _, fun pd npd => ?_⟩
  have btd := (bt1.trans bt2).at ((bt1.trans bt2).free (g2.ne npd) npd) (.lst [])
  have hpdg := g2.ne npd
  have npd0 : H pd = none := (bt1.trans bt2).free hpdg npd
  have gd := g2.same (Same.upd (o := .lst []) npd)
  have hd0 : PairsAt (upd H2 pd (.lst [])) pd [] := ⟨[], upd_same, rfl, fun i t e h => by simp at h⟩
  generalize upd H2 pd (.lst []) = H3 at btd gd hd0
  refine ⟨_, rfl, _, _, rfl, ⟨by omega, by omega, by omega, by omega⟩, ?_⟩
  have ev : (1 + (v : Int) - 1).toNat = v := by omega
  refine for_it (walk_range (lo := 1) (n := (1 + (v : Int) - 1).toNat)) (fun i σ H4 => ∃ es y5 y6 y7 y8 y9 y10, σ = [some (.ref g), some (.int (most : Int)), some (.int (1 + (v : Int))), some (.int (kind : Int)), some (.ref pd), y5, y6, y7, y8, y9, y10] ∧
    But g H H4 ∧ GenAt H4 g (b + 2 + 2 * i) ∧ PairsAt H4 pd es ∧ Tr0 (1 + i) es) ⟨[], _, _, _, _, _, _, rfl, btd, gd, hd0, Tr0.one⟩ (fun _ _ _ _ _ => trivial) ?_ ?_
  · rintro i x σ H4 H5 hi ⟨es, y5, y6, y7, y8, y9, y10, rfl, bt, g4, hp, tr⟩ ⟨rfl, hx⟩
    rw [ev] at hi
    have hel := tr.len
    have er : (1 : Int) + (i : Int) = ((1 + i : Nat) : Int) := by omega
    have hx' : x = V.int ((1 + i : Nat) : Int) := hx.trans (congrArg V.int er)
    subst hx'
    refine ⟨_, rfl, _, _, rfl, rfl, _, rfl, _, rfl, g, b + 2 + 2 * i, 1 + i, rfl, g4, by omega, by omega, by omega, fun H6 u1 bt6 g6 hu1 => ?_⟩
    refine ⟨_, rfl, _, _, rfl, rfl, _, rfl, g, _, 3, rfl, g6, by decide, by decide, by omega, fun H7 u2 bt7 g7 hu2 => ⟨_, _, rfl, rfl, _, _, rfl, by show 4 ≤ sizeLine; decide, fun pl npl => ?_⟩⟩
    obtain ⟨o, ho, hlt⟩ : ∃ o : Nat, ([V.int (((1 + i : Nat) : Int) - 1), V.int 0, V.int (u1 : Int), V.int (if ((((1 + i : Nat) : Int) - 1) - (u2 : Int)) > 0 then ((((1 + i : Nat) : Int) - 1) - (u2 : Int)) else 0)] : List V)[kind]? = some (.int (o : Int)) ∧ o < 1 + i := by
      match kind, hk with
      | 0, _ => exact ⟨i, congrArg (fun z => some (V.int z)) (by omega), by omega⟩
      | 1, _ => exact ⟨0, rfl, by omega⟩
      | 2, _ => exact ⟨u1, rfl, hu1⟩
      | 3, _ =>
        by_cases c : ((((1 + i : Nat) : Int) - 1) - (u2 : Int)) > 0
        · exact ⟨((((1 + i : Nat) : Int) - 1) - (u2 : Int)).toNat, congrArg (fun z => some (V.int z)) (by rw [if_pos c]; omega), by omega⟩
        · exact ⟨0, congrArg (fun z => some (V.int z)) (by rw [if_neg c]; rfl), by omega⟩
    refine ⟨_, rfl, pl, _, _, _, rfl, rfl, SqL.of upd_same, atI_nat ho, ?_⟩
    have nplg : pl ≠ g := g7.ne npl
    have bt8 := ((bt.trans bt6).trans bt7).at (((bt.trans bt6).trans bt7).free nplg npl) (.lst [V.int (((1 + i : Nat) : Int) - 1), V.int 0, V.int (u1 : Int), V.int (if ((((1 + i : Nat) : Int) - 1) - (u2 : Int)) > 0 then ((((1 + i : Nat) : Int) - 1) - (u2 : Int)) else 0)])
    have g8 := g7.at (o := .lst [V.int (((1 + i : Nat) : Int) - 1), V.int 0, V.int (u1 : Int), V.int (if ((((1 + i : Nat) : Int) - 1) - (u2 : Int)) > 0 then ((((1 + i : Nat) : Int) - 1) - (u2 : Int)) else 0)]) nplg
    have hp8 := ((hp.but g4.lst hpdg bt6).but g6.lst hpdg bt7).same (Same.upd (o := .lst [V.int (((1 + i : Nat) : Int) - 1), V.int 0, V.int (u1 : Int), V.int (if ((((1 + i : Nat) : Int) - 1) - (u2 : Int)) > 0 then ((((1 + i : Nat) : Int) - 1) - (u2 : Int)) else 0)]) npl)
    generalize upd H7 pl (.lst [V.int (((1 + i : Nat) : Int) - 1), V.int 0, V.int (u1 : Int), V.int (if ((((1 + i : Nat) : Int) - 1) - (u2 : Int)) > 0 then ((((1 + i : Nat) : Int) - 1) - (u2 : Int)) else 0)]) = H8 at bt8 g8 hp8
    obtain ⟨ts, e1, e2, e3⟩ := hp8
    refine ⟨_, rfl, .inl ⟨rfl, _, SqL.of e1⟩, _, rfl, _, rfl, by show 2 ≤ sizeLine; decide, fun t nt => ⟨pd, _, _, rfl, rfl, by rw [upd_ne (ne_of_none e1 nt)]; exact e1, by rw [List.length_map, e2]; exact small1000 (by omega), ?_⟩⟩
    have ntd : t ≠ pd := (ne_of_none e1 nt).symm
    have ntg : t ≠ g := g8.ne nt
    refine ⟨es ++ [(o, 1 + i)], _, _, _, _, _, _, rfl, (bt8.at (bt8.free ntg nt) _).at npd0 _, ((g8.at ntg).at hpdg).mono (by omega), .push (ts := ts) e1 e2 e3 (fun b o ne e => by rw [upd_ne ne, upd_ne (ne_of_none e nt)]; exact e) upd_same (by rw [upd_ne ntd, upd_same]), ?_⟩
    have := tr.grow o hlt
    rw [show 1 + (i + 1) = 1 + i + 1 by omega]
    exact this
  · rintro σ H4 ⟨es, y5, y6, y7, y8, y9, y10, rfl, bt, g4, hp, tr⟩
    rw [ev] at g4 tr
    have hel := tr.len
    obtain ⟨ts, e1, e2, e3⟩ := hp
    have en : rgV 0 (1 + (v : Int)) = nv (List.range (1 + v)) := by
      rw [← rgV_nat, show (((1 + v : Nat)) : Int) = 1 + (v : Int) by omega]
    refine ⟨_, rfl, _, rfl, _, rfl, .of_le (Int.le_refl _) (by omega) (by omega) (by omega), fun pn npn => ?_⟩
    rw [en]
    have npng : pn ≠ g := g4.ne npn
    have bt5 := bt.at (bt.free npng npn) (.lst (nv (List.range (1 + v))))
    have g5 := g4.same (Same.upd (o := .lst (nv (List.range (1 + v)))) npn)
    have hn5 : (upd H4 pn (.lst (nv (List.range (1 + v))))) pn = some (.lst (nv (List.range (1 + v)))) := upd_same
    have s5 := Same.upd (o := .lst (nv (List.range (1 + v)))) npn
    have e1' := s5 _ _ e1
    have e3' := fun i t e a b => s5 _ _ (e3 i t e a b)
    generalize upd H4 pn (.lst (nv (List.range (1 + v)))) = H5 at bt5 g5 hn5 s5 e1' e3'
    refine ⟨g, pn, _, nv (List.range (1 + v)), rfl, g5, SqL.of hn5, npng, by rw [nv_len, List.length_range]; omega, by omega, fun H6 qn ys bt6 g6 nqn hqn pm => ?_⟩
    rw [nv_len, List.length_range] at g6
    obtain ⟨L, rfl, pL⟩ := perm_of_map _ _ _ pm
    have e1'' := bt6 _ _ hpdg e1'
    have e3'' := fun i t e a b => bt6 _ _ (ne_lt (g5.lst.choose_spec) (e3' i t e a b)) (e3' i t e a b)
    have hnd := pL.symm.nodup List.nodup_range
    have hLl : L.length = 1 + v := by rw [pL.length_eq, List.length_range]
    refine ⟨Nat.zero_le _, fun pr npr => ?_⟩
    have nprg : pr ≠ g := g6.ne npr
    have nprn : qn ≠ pr := ne_of_none hqn npr
    have bt7 := (bt5.trans bt6).at ((bt5.trans bt6).free nprg npr) (.lst [])
    have s7 := Same.upd (o := .lst []) npr
    have g7 := g6.same s7
    have hqn7 := s7 _ _ hqn
    have e17 := s7 _ _ e1''
    have e37 := fun i t e a b => s7 _ _ (e3'' i t e a b)
    have hpr7 : (upd H6 pr (.lst [])) pr = some (.lst []) := upd_same
    have npr0 : H pr = none := (bt5.trans bt6).free nprg npr
    generalize upd H6 pr (.lst []) = H7 at bt7 g7 hqn7 e17 e37 hpr7 s7
    refine ⟨_, rfl, _, rfl, g, pd, _, _, rfl, g7, SqL.of e17, hpdg, by rw [List.length_map, e2]; omega, by omega, fun H8 qs ys2 bt8 g8 nqs hqs pm2 => ?_⟩
    rw [List.length_map, e2] at g8
    have nqsg : qs ≠ g := g7.ne nqs
    have nqsr : qs ≠ pr := (ne_of_none hpr7 nqs).symm
    have nqng : qn ≠ g := fun z => by
      subst z
      obtain ⟨xx, yy, zz, ga, _⟩ := g5
      rw [ga] at nqn
      cases nqn
    have e38 := fun i t e a b => bt8 _ _ (ne_lt (g7.lst.choose_spec) (e37 i t e a b)) (e37 i t e a b)
    obtain ⟨ts', es', rfl, pe, hl', pr'⟩ := PairsAt.perm e2 e38 pm2
    have tr' := tr.perm pe
    have hel' := tr'.len
    refine ⟨qs, rfl, ⟨_, SqL.of hqs⟩, ?_⟩
    refine for_it (walk_list (K := K) (a := qs) (xs := ts'.map V.ref)) (fun j σ H9 => ∃ fs y5 y6 y9 y10, σ = [some (.ref g), some (.int (most : Int)), some (.int (1 + (v : Int))), some (.int (kind : Int)), some (.ref pd), y5, y6, some (.ref qn), some (.ref pr), y9, y10] ∧
      But g H H9 ∧ GenAt H9 g (b + 800 + j) ∧ H9 qn = some (.lst (L.map fun (x : Nat) => V.int (x : Int))) ∧ H9 qs = some (.lst (ts'.map V.ref)) ∧ (∀ (i : Nat) (t : Addr) (e : Nat × Nat), ts'[i]? = some t → es'[i]? = some e → H9 t = some (.tup [.int e.1, .int e.2])) ∧
      PairsAt H9 pr fs ∧ Flip ((es'.take j).map fun e => (L.getD e.1 0, L.getD e.2 0)) fs)
      ⟨[], _, _, _, _, rfl, bt7.trans bt8, g8.mono (by omega), bt8 _ _ nqng hqn7, hqs, pr', ⟨[], bt8 _ _ nprg hpr7, rfl, fun i t e h => by simp at h⟩, .nil⟩ (fun i σ H9 _ ⟨_, _, _, _, _, _, _, _, _, h, _⟩ => SqL.of h) ?_ ?_
    · rintro j x σ H9 H10 hj ⟨fs, y5, y6, y9, y10, rfl, bt9, g9, hn9, hs9, p9, hp9, fl⟩ ⟨rfl, ex⟩
      have hj' : j < ts'.length := by
        rw [List.length_map] at hj
        exact hj
      obtain ⟨t, ht⟩ : ∃ t, ts'[j]? = some t := get_of rfl hj'
      obtain ⟨e, he⟩ : ∃ e, es'[j]? = some e := get_of hl'.symm hj'
      rw [List.getElem?_map, ht] at ex
      cases ex
      have htup := p9 j t e ht he
      have elt := tr'.lt e (List.mem_of_getElem? he)
      have a1 : L[e.1]? = some (L.getD e.1 0) := by
        rw [List.getD_eq_getElem?_getD, List.getElem?_eq_getElem (by omega)]
        rfl
      have a2 : L[e.2]? = some (L.getD e.2 0) := by
        rw [List.getD_eq_getElem?_getD, List.getElem?_eq_getElem (by omega)]
        rfl
      obtain ⟨ts3, f1, f2, f3⟩ := hp9
      have flen : fs.length = j := by
        rw [← fl.len, List.length_map, List.length_take]
        have := tr'.len
        have := (List.getElem?_eq_some_iff.mp he).1
        omega
      have etake : (es'.take (j + 1)).map (fun e => (L.getD e.1 0, L.getD e.2 0)) = (es'.take j).map (fun e => (L.getD e.1 0, L.getD e.2 0)) ++ [(L.getD e.1 0, L.getD e.2 0)] := by
        rw [List.take_add_one, he, List.map_append]
        rfl
      have fin : ∀ (Hc : Hp) (tt : Addr) (d1 d2 : Nat), But g H Hc → GenAt Hc g (b + 800 + j + 1) → Hc qn = some (.lst (L.map fun (x : Nat) => V.int (x : Int))) → Hc qs = some (.lst (ts'.map V.ref)) →
          (∀ (i : Nat) (t : Addr) (e : Nat × Nat), ts'[i]? = some t → es'[i]? = some e → Hc t = some (.tup [.int e.1, .int e.2])) → Hc pr = some (.lst (ts3.map V.ref)) →
          (∀ (i : Nat) (t : Addr) (e : Nat × Nat), ts3[i]? = some t → fs[i]? = some e → Hc t = some (.tup [.int e.1, .int e.2])) → Hc tt = some (.tup [.int (d1 : Int), .int (d2 : Int)]) →
          Flip ((es'.take (j + 1)).map fun e => (L.getD e.1 0, L.getD e.2 0)) (fs ++ [(d1, d2)]) →
          ∀ y5 y6 y9 y10, ∃ fs' z5 z6 z9 z10, ([some (.ref g), some (.int (most : Int)), some (.int (1 + (v : Int))), some (.int (kind : Int)), some (.ref pd), y5, y6, some (.ref qn), some (.ref pr), y9, y10] : L2.St) = [some (.ref g), some (.int (most : Int)), some (.int (1 + (v : Int))), some (.int (kind : Int)), some (.ref pd), z5, z6, some (.ref qn), some (.ref pr), z9, z10] ∧
          But g H (upd Hc pr (.lst (ts3.map V.ref ++ [V.ref tt]))) ∧ GenAt (upd Hc pr (.lst (ts3.map V.ref ++ [V.ref tt]))) g (b + 800 + (j + 1)) ∧ (upd Hc pr (.lst (ts3.map V.ref ++ [V.ref tt]))) qn = some (.lst (L.map fun (x : Nat) => V.int (x : Int))) ∧ (upd Hc pr (.lst (ts3.map V.ref ++ [V.ref tt]))) qs = some (.lst (ts'.map V.ref)) ∧
          (∀ (i : Nat) (t : Addr) (e : Nat × Nat), ts'[i]? = some t → es'[i]? = some e → (upd Hc pr (.lst (ts3.map V.ref ++ [V.ref tt]))) t = some (.tup [.int e.1, .int e.2])) ∧
          PairsAt (upd Hc pr (.lst (ts3.map V.ref ++ [V.ref tt]))) pr fs' ∧ Flip ((es'.take (j + 1)).map fun e => (L.getD e.1 0, L.getD e.2 0)) fs' := by
        intro Hc tt d1 d2 k1 k2 k3 k4 k5 k6 k7 k8 k9 y5 y6 y9 y10
        refine ⟨fs ++ [(d1, d2)], _, _, _, _, rfl, k1.at npr0 _, k2.at nprg, by rw [upd_ne nprn]; exact k3, by rw [upd_ne nqsr]; exact k4, fun i t e x y => ?_, .push (ts := ts3) k6 f2 k7 (fun b o ne e => by rw [upd_ne ne]; exact e) upd_same (by rw [upd_ne (ne_lt k6 k8)]; exact k8), k9⟩
        have := k5 i t e x y
        rw [upd_ne (ne_lt k6 this)]
        exact this
      refine ⟨t, _, rfl, SqT.of htup, rfl, _, _, rfl, _, _, rfl, rfl, ?_⟩
      refine ⟨_, rfl, _, rfl, qn, _, _, _, rfl, rfl, SqL.of hn9, atI_nat (v := V.int (L.getD e.1 0 : Nat)) (by rw [List.getElem?_map, a1]; rfl), _, rfl, _, rfl, qn, _, _, _, rfl, rfl, SqL.of hn9, atI_nat (v := V.int (L.getD e.2 0 : Nat)) (by rw [List.getElem?_map, a2]; rfl), by show 2 ≤ sizeLine; decide, fun te nte => ?_⟩
      have nteg : te ≠ g := g9.ne nte
      have sA := Same.upd (o := .tup [.int (L.getD e.1 0 : Nat), .int (L.getD e.2 0 : Nat)]) nte
      have btA := bt9.at (bt9.free nteg nte) (.tup [.int (L.getD e.1 0 : Nat), .int (L.getD e.2 0 : Nat)])
      have gA := g9.same sA
      have hteA : (upd H10 te (.tup [.int (L.getD e.1 0 : Nat), .int (L.getD e.2 0 : Nat)])) te = some (.tup [.int (L.getD e.1 0 : Nat), .int (L.getD e.2 0 : Nat)]) := upd_same
      have hnA := sA _ _ hn9
      have hsA := sA _ _ hs9
      have pA := fun i t e x y => sA _ _ (p9 i t e x y)
      have fA := sA _ _ f1
      have f3A := fun i t e x y => sA _ _ (f3 i t e x y)
      generalize upd H10 te (.tup [.int (L.getD e.1 0 : Nat), .int (L.getD e.2 0 : Nat)]) = HA at sA btA gA hteA hnA hsA pA fA f3A
      refine ⟨_, rfl, .inl ⟨rfl, _, SqL.of fA⟩, _, rfl, _, rfl, g, b + 800 + j, 2, rfl, gA, by decide, by decide, by omega, fun HB u btB gB hu => ?_⟩
      have gAl := gA.lst.choose_spec
      have hteB := btB _ _ nteg hteA
      have hnB := btB _ _ nqng hnA
      have hsB := btB _ _ nqsg hsA
      have pB := fun i t e x y => btB _ _ (ne_lt gAl (pA i t e x y)) (pA i t e x y)
      have fB := btB _ _ nprg fA
      have f3B := fun i t e x y => btB _ _ (ne_lt gAl (f3A i t e x y)) (f3A i t e x y)
      have btHB := btA.trans btB
      refine ⟨_, _, rfl, rfl, .inl (by decide), _, _, rfl, rfl, te, _, _, rfl, SqT.of hteB, ?_⟩
      match u, hu with
      | 0, _ =>
        refine .inl ⟨rfl, pr, _, _, rfl, rfl, fB, by rw [List.length_map, f2]; exact small1000 (by have := tr'.len; have := (List.getElem?_eq_some_iff.mp he).1; omega), ?_⟩
        exact fin HB te _ _ btHB gB hnB hsB pB fB f3B hteB (by rw [etake]; exact fl.snoc _) _ _ _ _
      | 1, _ =>
        refine .inr ⟨rfl, fun tt ntt => ⟨pr, _, _, rfl, rfl, by rw [upd_ne (ne_of_none fB ntt)]; exact fB, by rw [List.length_map, f2]; exact small1000 (by have := tr'.len; have := (List.getElem?_eq_some_iff.mp he).1; omega), ?_⟩⟩
        have nttg : tt ≠ g := gB.ne ntt
        have sC := Same.upd (o := .tup [.int (L.getD e.2 0 : Nat), .int (L.getD e.1 0 : Nat)]) ntt
        exact fin _ tt _ _ (btHB.at (btHB.free nttg ntt) _) (gB.same sC) (sC _ _ hnB) (sC _ _ hsB) (fun i t e x y => sC _ _ (pB i t e x y)) (sC _ _ fB) (fun i t e x y => sC _ _ (f3B i t e x y)) upd_same (by rw [etake]; exact fl.snocT _ _) _ _ _ _
    · rintro σ H9 ⟨fs, y5, y6, y9, y10, rfl, bt9, g9, hn9, hs9, p9, hp9, fl⟩
      rw [List.length_map, hl', List.take_length] at fl
      obtain ⟨ts3, f1, f2, f3⟩ := hp9
      refine ⟨_, rfl, pr, _, rfl, .inl ⟨SqL.of f1, fun pt npt => ?_⟩⟩
      have nptg : pt ≠ g := g9.ne npt
      refine q _ pt fs (1 + v) (bt9.at (bt9.free nptg npt) _) ((g9.same (Same.upd npt)).mono ?_) nptg ⟨ts3, SqT.of upd_same, f2, fun d r e x y => SqT.of (Same.upd npt _ _ (f3 d r e x y))⟩ ((tr'.nv pL).tree fl) (by omega)
      rw [List.length_map, hl']
      omega
end
end K5

namespace K5
open PySem PySem.Spec PyProof.Rows L2
def spNeigh (K : PySem.W.Frag) : Sp := fun vs H Q _ => ∃ (a : Addr) (ds : List (Nat × Nat)) (n x : Nat), vs = [.ref a, .int (x : Int)] ∧ HouseAt K H a ds ∧ Tree n ds ∧ n ≤ 1000 ∧
  ∀ (H' : Hp) (q : Addr) (l : List (Nat × Nat)), Same H H' → H q = none → PairsAt H' q l → (∀ y d, (y, d) ∈ l ↔ Joins ds d x y) → l.Nodup → l.length ≤ ds.length → Q (.ref q) H'
theorem in_pair (x a b : Int) : inV (.int x) [.int a, .int b] = (decide (x = a) || decide (x = b)) := by
  show ((a == x) || ((b == x) || false)) = _
  by_cases h1 : x = a
  · subst h1
    simp
  · by_cases h2 : x = b
    · subst h2
      simp [h1]
    · have e1 : (a == x) = false := beq_eq_false_iff_ne.mpr (Ne.symm h1)
      have e2 : (b == x) = false := beq_eq_false_iff_ne.mpr (Ne.symm h2)
      rw [e1, e2, decide_eq_false h1, decide_eq_false h2]
      rfl
theorem nb_mem {ds : List (Nat × Nat)} {l : List (Nat × Nat)} {k x z : Nat} {e : Nat × Nat} (he : ds[k]? = some e) (mem : ∀ y d, (y, d) ∈ l ↔ d < k ∧ Joins ds d x y) (hz : (x = e.1 ∧ z = e.2) ∨ (x = e.2 ∧ z = e.1)) (ne : e.1 ≠ e.2) (y d : Nat) :
    (y, d) ∈ l ++ [(z, k)] ↔ d < k + 1 ∧ Joins ds d x y := by
  rw [List.mem_append, List.mem_singleton, Prod.mk.injEq, mem y d]
  have jk : Joins ds k x z := by
    rcases hz with ⟨rfl, rfl⟩ | ⟨rfl, rfl⟩
    · exact .inl he
    · exact .inr he
  have nxz : x ≠ z := by
    rcases hz with ⟨rfl, rfl⟩ | ⟨rfl, rfl⟩
    · exact ne
    · exact ne.symm
  constructor
  · rintro (⟨h1, h2⟩ | ⟨rfl, rfl⟩)
    · exact ⟨by omega, h2⟩
    · exact ⟨by omega, jk⟩
  · rintro ⟨h1, h2⟩
    by_cases q : d = k
    · subst q
      exact .inr ⟨(jk.other h2 nxz).symm, rfl⟩
    · exact .inl ⟨by omega, h2⟩
theorem nb_skip {ds : List (Nat × Nat)} {l : List (Nat × Nat)} {k x : Nat} {e : Nat × Nat} (he : ds[k]? = some e) (mem : ∀ y d, (y, d) ∈ l ↔ d < k ∧ Joins ds d x y) (h1 : x ≠ e.1) (h2 : x ≠ e.2) (y d : Nat) :
    (y, d) ∈ l ↔ d < k + 1 ∧ Joins ds d x y := by
  rw [mem y d]
  constructor
  · rintro ⟨a, b⟩
    exact ⟨by omega, b⟩
  · rintro ⟨a, b⟩
    refine ⟨?_, b⟩
    by_cases q : d = k
    · subst q
      rcases b with h | h <;> rw [he] at h <;> cases h
      · exact absurd rfl h1
      · exact absurd rfl h2
    · omega
section
variable {P : Program} {w : World} {K : PySem.W.Frag}
      {mg : Str → Option Value} {base : Heap}
theorem ok_neighbours (T : Bl mg) (D : Def K mg "_law_neighbours" s_l_neighbours) : Cal P w K mg base "_law_neighbours" ["_law_doors", "_law_place"] 1 (spNeigh K) := by
  refine D.ok sc_l_neighbours (fun _ _ _ _ _ _ us hl => match us, hl with | [_, _], _ => rfl) (fun vs H Q E h => ?_) (fun f cdv A outer s H vs Q E hr h => ?_)
  · obtain ⟨a, ds, n, x, rfl, _⟩ := h
    rfl
  obtain ⟨a, ds, n, x, rfl, hH, tree, hn, q⟩ := h
  obtain ⟨rs, hrs, hlen, hds⟩ := id hH
  have hdn := tree.len
  refine ⟨_, (pss_cons (ps_set (i := 2) sc_l_neighbours.nd rfl (.inl rfl) (pe_lst pa_nil))
    (pss_cons (ps_for PassesOwn.never rfl (pi_enumT (by rfl) T.enumerate (pa_cons (pv 0) pa_nil)) (pg_tup (n := 2) rfl (pgs_cons (pg_name (i := 3) sc_l_neighbours.nd rfl (.inl rfl)) (pgs_cons (pg_name (i := 4) sc_l_neighbours.nd rfl (.inl rfl)) pgs_nil)))
    (pss_one (ps_if (pt_cmpR op_in_seq (pv 1) (pv 4) (by rfl)) (pss_one (ps_expr (pe_bm PySem.F.plainAttrs_list PySem.F.slot_list_append PySem.F.type_list_append mt_append (pv 2) (pa_cons (pe_tup (pa_cons (pe_ix ix_tup (pv 4) (pe_callTy call_int1 (by rfl) T.int (by decide +kernel) (pa_cons (pe_cmpR op_eq (pe_ix ix_tup (pv 4) pe_int (fun _ _ => rfl)) (pv 1) (nomark _)) pa_nil)) (fun _ _ => rfl)) (pa_cons (pv 3) pa_nil))) pa_nil)))) pss_nil)))
    (pss_one (ps_ret (pe_callB cr_sortedP (by rfl) T.sorted (by decide +kernel) (pa_cons (pv 2) pa_nil)))))), ?_⟩
  refine ⟨Nat.zero_le _, fun p np => ?_⟩
  refine ⟨_, rfl, a, _, rfl, (Same.upd np).tup hrs, ?_⟩
  refine for_it (walk_enumT (K := K) (a := a) (xs := rs.map V.ref)) (fun k σ H2 => ∃ l y3 y4, σ = [some (.ref a), some (.int (x : Int)), some (.ref p), y3, y4] ∧ Same H H2 ∧ PairsAt H2 p l ∧ (∀ y d, (y, d) ∈ l ↔ d < k ∧ Joins ds d x y) ∧ l.length ≤ k ∧ l.Nodup)
    ⟨[], _, _, rfl, Same.upd np, ⟨[], upd_same, rfl, fun i t e h => by simp at h⟩, fun y d => by simp, Nat.zero_le _, List.nodup_nil⟩ (fun i σ H1 _ ⟨_, _, _, _, sm, _⟩ => sm.tup hrs) ?_ ?_
  · rintro k v σ H2 H3 hk ⟨l, y3, y4, rfl, sm, pa, mem, le, nod⟩ ⟨t, x1, x2, rfl, nt, rfl, ex1, ex2⟩
    cases ex1
    have hk' : k < ds.length := by
      rw [List.length_map, hlen] at hk
      exact hk
    obtain ⟨e, he⟩ : ∃ e, ds[k]? = some e := get_of rfl hk'
    obtain ⟨r, hr0⟩ : ∃ r, rs[k]? = some r := get_of hlen hk'
    have ex2' : V.ref r = x2 := by
      have ex2 : (rs.map V.ref)[k]? = some x2 := ex2
      rw [List.getElem?_map, hr0] at ex2
      exact Option.some.inj ex2
    subst ex2'
    obtain ⟨side, s1, s2⟩ := tree.side
    have ene : e.1 ≠ e.2 := fun z => s1 k e he (by rw [z])
    have smt : Same H2 (upd H2 t (.tup [.int (k : Nat), .ref r])) := Same.upd nt
    have sm3 := sm.trans smt
    have pa3 := pa.same smt
    have htt : (upd H2 t (.tup [.int (k : Nat), .ref r])) t = some (.tup [.int (k : Nat), .ref r]) := upd_same
    generalize upd H2 t (.tup [.int (k : Nat), .ref r]) = H4 at sm3 pa3 smt htt
    have hrd := sm3.tup (hds k r e hr0 he)
    refine ⟨t, _, rfl, SqT.of htt, rfl, _, _, rfl, _, _, rfl, rfl, ?_⟩
    refine ⟨_, rfl, _, rfl, r, _, rfl, .inr hrd, rfl, rfl, _, rfl, ?_⟩
    show if inV (V.int (x : Int)) [V.int (e.1 : Int), V.int (e.2 : Int)] = true then _ else _
    rw [in_pair]
    have fin : ∀ (z : Nat), ((x = e.1 ∧ z = e.2) ∨ (x = e.2 ∧ z = e.1)) → ∀ (y3 y4 : Option V) (t2 : Addr), H4 t2 = none → ∃ ts : List Addr, H4 p = some (.lst (ts.map V.ref)) ∧ (ts.map V.ref).length < sizeLine ∧
        ∃ l' z3 z4, ([some (.ref a), some (.int (x : Int)), some (.ref p), y3, y4] : L2.St) = [some (.ref a), some (.int (x : Int)), some (.ref p), z3, z4] ∧ Same H (upd (upd H4 t2 (.tup [.int (z : Int), .int (k : Int)])) p (.lst (ts.map V.ref ++ [V.ref t2]))) ∧
          PairsAt (upd (upd H4 t2 (.tup [.int (z : Int), .int (k : Int)])) p (.lst (ts.map V.ref ++ [V.ref t2]))) p l' ∧ (∀ y d, (y, d) ∈ l' ↔ d < k + 1 ∧ Joins ds d x y) ∧ l'.length ≤ k + 1 ∧ l'.Nodup := by
      intro z hz y3 y4 t2 nt2
      obtain ⟨ts, f1, f2, f3⟩ := pa3
      refine ⟨ts, f1, by rw [List.length_map, f2]; exact small1000 (by omega), l ++ [(z, k)], _, _, rfl, (sm3.trans (Same.upd nt2)).at np, .push (ts := ts) f1 f2 f3 (fun b o ne e => by rw [upd_ne ne, upd_ne (ne_of_none e nt2)]; exact e) upd_same (by rw [upd_ne (ne_of_none f1 nt2).symm, upd_same]), nb_mem he mem hz ene, by simp; exact le, ?_⟩
      refine List.nodup_append.mpr ⟨nod, by simp, fun a ha b hb => ?_⟩
      rintro rfl
      rw [List.mem_singleton] at hb
      subst hb
      have := (mem z k).mp ha
      omega
    by_cases h1 : x = e.1
    · rw [decide_eq_true (show (x : Int) = (e.1 : Int) by omega), Bool.true_or]
      refine iteT ?_
      obtain ⟨ts0, f10, _⟩ := pa3
      refine ⟨_, rfl, .inl ⟨rfl, _, SqL.of f10⟩, _, rfl, _, rfl, r, _, _, _, rfl, rfl, hrd, atI_nat (j := 0) rfl, _, rfl, rfl, .inr ⟨_, rfl, ?_⟩⟩
      rw [decide_eq_true (show V.int (e.1 : Int) = V.int (x : Int) by rw [h1])]
      refine ⟨r, _, _, _, rfl, rfl, hrd, atI_nat (j := 1) rfl, _, rfl, by show 2 ≤ sizeLine; decide, fun t2 nt2 => ?_⟩
      obtain ⟨ts, g1, g2, g3⟩ := fin e.2 (.inl ⟨h1, rfl⟩) _ _ t2 nt2
      exact ⟨p, _, _, rfl, rfl, by rw [upd_ne (ne_of_none g1 nt2)]; exact g1, g2, g3⟩
    · by_cases h2 : x = e.2
      · rw [decide_eq_true (show (x : Int) = (e.2 : Int) by omega), Bool.or_true]
        refine iteT ?_
        obtain ⟨ts0, f10, _⟩ := pa3
        refine ⟨_, rfl, .inl ⟨rfl, _, SqL.of f10⟩, _, rfl, _, rfl, r, _, _, _, rfl, rfl, hrd, atI_nat (j := 0) rfl, _, rfl, rfl, .inr ⟨_, rfl, ?_⟩⟩
        rw [decide_eq_false (show ¬ V.int (e.1 : Int) = V.int (x : Int) from fun z => h1 (by have := V.int.inj z; omega))]
        refine ⟨r, _, _, _, rfl, rfl, hrd, atI_nat (j := 0) rfl, _, rfl, by show 2 ≤ sizeLine; decide, fun t2 nt2 => ?_⟩
        obtain ⟨ts, g1, g2, g3⟩ := fin e.1 (.inr ⟨h2, rfl⟩) _ _ t2 nt2
        exact ⟨p, _, _, rfl, rfl, by rw [upd_ne (ne_of_none g1 nt2)]; exact g1, g2, g3⟩
      · rw [decide_eq_false (show ¬ (x : Int) = (e.1 : Int) by omega), decide_eq_false (show ¬ (x : Int) = (e.2 : Int) by omega)]
        exact iteF ⟨l, _, _, rfl, sm3, pa3, nb_skip he mem h1 h2, by omega, nod⟩
  · rintro σ H2 ⟨l, y3, y4, rfl, sm, pa, mem, le, nod⟩
    obtain ⟨ts, f1, f2, f3⟩ := pa
    refine ⟨_, rfl, p, _, rfl, SqL.of f1, fun v hv => ?_, fun ys q0 pm nq => ?_⟩
    · obtain ⟨t, ht, rfl⟩ := List.mem_map.mp hv
      obtain ⟨i, hi⟩ := List.mem_iff_getElem?.mp ht
      obtain ⟨e, he⟩ := get_of f2.symm (get_lt hi)
      exact ⟨t, _, _, rfl, f3 i t e hi he⟩
    · obtain ⟨ts', l', rfl, pl, hl', pr'⟩ := PairsAt.perm f2 f3 pm
      refine q _ q0 l' (sm.trans (Same.upd nq)) (sm.free nq) ⟨ts', upd_same, hl', fun i t e x y => Same.upd nq _ _ (pr' i t e x y)⟩ (fun y d => ?_) (pl.nodup_iff.mpr nod) (by rw [pl.length_eq]; rw [List.length_map, hlen] at le; exact le)
      rw [pl.mem_iff, mem y d]
      refine ⟨fun h => h.2, fun h => ⟨?_, h⟩⟩
      rw [List.length_map, hlen]
      rcases h with h | h
      · exact get_lt h
      · exact get_lt h
end
end K5

namespace K5
open PySem PySem.Spec PyProof.Rows L2
/-- two tuples joined, whatever they hold -/
theorem catA_of {K : PySem.W.Frag} {H : Hp} {a b : Addr} {xs ys : List V} {Q : VK} (h1 : SqT K H a xs) (h2 : SqT K H b ys) (hl : xs.length + ys.length ≤ sizeLine) (q : ∀ (H' : Hp) (p : Addr), Same H H' → SqT K H' p (xs ++ ys) → Q (.ref p) H') :
    rCatA K (.ref a) (.ref b) H Q := by
  refine ⟨a, b, xs, ys, rfl, rfl, h1, h2, hl, fun e => ?_, fun _ e => ?_, fun _ _ p np => q _ p (Same.upd np) (SqT.of upd_same)⟩
  · refine q H b (Same.refl _) ?_
    rw [e, List.nil_append]
    exact h2
  · refine q H a (Same.refl _) ?_
    rw [e, List.append_nil]
    exact h1
theorem nv_app (a b : List Nat) : nv a ++ nv b = nv (a ++ b) := by
  unfold nv
  rw [List.map_append]
theorem set_cut {α : Type} : ∀ (l : List α) (k : Nat) (x : α), k < l.length → l.take k ++ [x] ++ l.drop (k + 1) = l.set k x
  | [], k, x, h => by simp at h
  | a :: r, 0, x, h => rfl
  | a :: r, k + 1, x, h => by
    have := set_cut r k x (by simpa using h)
    show a :: (r.take k ++ [x] ++ r.drop (k + 1)) = a :: r.set k x
    rw [this]
theorem nv_cut (L : List Nat) (k x : Nat) (h : k < L.length) : nv (L.take k) ++ [V.int (x : Int)] ++ nv (L.drop (k + 1)) = nv (L.set k x) := by
  rw [← set_cut L k x h, ← nv_app, ← nv_app]
  rfl
theorem cut_to {L : List Nat} {k : Nat} (h : k < L.length) : cutV (nv L) none (some (k : Int)) = nv (L.take k) ∧ ¬ (HT.sIx (nv L).length 0 none = 0 ∧ HT.sIx (nv L).length (nv L).length (some (k : Int)) = (nv L).length) := by
  unfold cutV
  rw [HT.sIx_none, HT.sIx_nat, nv_len, Nat.min_eq_left (Nat.le_of_lt h)]
  refine ⟨?_, fun z => by omega⟩
  unfold nv
  rw [List.drop_zero, Nat.sub_zero, List.map_take]
theorem cut_from {L : List Nat} {k : Nat} (h : k < L.length) : cutV (nv L) (some ((k : Int) + 1)) none = nv (L.drop (k + 1)) ∧ ¬ (HT.sIx (nv L).length 0 (some ((k : Int) + 1)) = 0 ∧ HT.sIx (nv L).length (nv L).length none = (nv L).length) := by
  unfold cutV
  rw [show (k : Int) + 1 = ((k + 1 : Nat) : Int) by omega, HT.sIx_none, HT.sIx_nat, nv_len, Nat.min_eq_left h]
  refine ⟨?_, fun z => by omega⟩
  unfold nv
  rw [← List.map_drop, List.take_of_length_le]
  rw [List.length_map, List.length_drop]
  exact Nat.le_refl _
def spRState (K : PySem.W.Frag) : Sp := fun vs H Q _ => ∃ (g a : Addr) (b p n : Nat) (ds : List (Nat × Nat)), vs = [.ref g, .ref a, .int (p : Int)] ∧ GenAt H g b ∧ HouseAt K H a ds ∧ Tree n ds ∧ n ≤ 15 ∧ 1 ≤ p ∧ p ≤ 4 ∧ b < 2 ^ 59 ∧
  ∀ (H' : Hp) (s : Addr) (S : S2), But g H H' → GenAt H' g (b + 100) → StateAt K H' s S → StOk n ds S → Q (.ref s) H'
def spMoved (K : PySem.W.Frag) : Sp := fun vs H Q _ => ∃ (a s t : Addr) (n : Nat) (ds : List (Nat × Nat)) (S : S2) (m : Mv), vs = [.ref a, .ref s, .ref t] ∧ HouseAt K H a ds ∧ Tree n ds ∧ n ≤ 1000 ∧ StateAt K H s S ∧ StOk n ds S ∧ H t = some (.tup (tI m)) ∧ VM ds S.1.length m ∧
  (∀ w, why ds S m = some w → ∀ (H' : Hp) (q : Addr), Same H H' → H' q = some (.lst [.str (Str.ofString w), .ref s]) → Q (.ref q) H') ∧
  (why ds S m = none → ∀ (H' : Hp) (q s' : Addr), Same H H' → H' q = some (.lst [.str "done", .ref s']) → StateAt K H' s' (nxt ds S m) → Q (.ref q) H')
section
variable {P : Program} {w : World} {K : PySem.W.Frag}
      {mg : Str → Option Value} {base : Heap}
theorem ok_random_state (T : Bl mg) (D : Def K mg "_law_random_state" s_l_random_state) (C_l_random : Cal P w K mg base "_law_random" ["_law_generator_here", "_law_bound"] 2 spRand) : Cal P w K mg base "_law_random_state" ["_law_generator_here", "_law_doors", "_law_people"] 3 (spRState K) := by
  refine D.ok sc_l_random_state (fun _ _ _ _ _ _ us hl => match us, hl with | [_, _, _], _ => rfl) (fun vs H Q E h => ?_) (fun f cdv A outer s H vs Q E hr h => ?_)
  · obtain ⟨g, a, b, p, n, ds, rfl, _⟩ := h
    rfl
  obtain ⟨g, a, b, p, n, ds, rfl, hg, hH, tree, hn, hp1, hp4, hb, q⟩ := h
  obtain ⟨rs, hrs, hlen, hds⟩ := id hH
  have hdn := tree.len
  have hn1 : 1 ≤ n := by omega
  obtain ⟨f_l_random, fd_l_random, g_l_random, k_l_random, b_l_random, G_l_random⟩ := C_l_random
  refine ⟨_, (pss_cons (ps_set (i := 3) sc_l_random_state.nd rfl (.inl rfl) (pe_op op_add (pe_callB call_len_seq (by rfl) T.len PySem.boot_len (pa_cons (pv 1) pa_nil)) pe_int))
    (pss_cons (ps_set (i := 4) sc_l_random_state.nd rfl (.inr rfl) (pe_ix ix_list (pe_lst (pa_cons (pv 3) (pa_cons (pv 3) (pa_cons (pe_op op_add pe_int (pe_call G_l_random (hr.mono (by decide)) (by rfl) g_l_random k_l_random b_l_random .nil pass0 (pa_cons (pv 0) (pa_cons (pv 3) pa_nil)))) pa_nil)))) (pe_call G_l_random (hr.mono (by decide)) (by rfl) g_l_random k_l_random b_l_random .nil pass0 (pa_cons (pv 0) (pa_cons pe_int pa_nil))) (fun _ _ => rfl)))
    (pss_cons (ps_setLc (i := 5) (own := [("_law_person", 6)]) (g := gName 6)  rfl sc_l_random_state.nd rfl rfl (sw_true rfl rfl rfl (by decide +kernel)) (pi_range1 rfl T.range (pa_cons (pv 2) pa_nil)) (blkOk_by (N := N_l_random_state) (sc := defScope s_l_random_state) (own := [("_law_person", 6)]) (by decide +kernel)) (fun _ _ _ _ _ => (pg_name (i := 6) sc_l_random_state.nd rfl (.inl rfl) (.inr rfl))) (fun _ _ _ _ _ => pts_nil) (fun _ _ _ _ _ => (pe_call G_l_random (hr.mono (by decide)) (by rfl) g_l_random k_l_random b_l_random .nil pass0 (pa_cons (pv 0) (pa_cons (pv 4) pa_nil)))))
    (pss_one (ps_ret (pe_tup (pa_cons (pe_callTy call_tuple_of (by rfl) T.tuple (by decide +kernel) (pa_cons (pv 5) pa_nil)) (pa_cons (pe_callTy call_tuple_of (by rfl) T.tuple (by decide +kernel) (pa_cons (pe_lc (own := [("_law_door_here", 7)]) (g := gName 7)  rfl sc_l_random_state.nd (pi_tup (pv 1)) (blkOk_by (N := N_l_random_state) (sc := defScope s_l_random_state) (own := [("_law_door_here", 7)]) (by decide +kernel)) (fun _ _ _ _ _ => (pg_name (i := 7) sc_l_random_state.nd rfl (.inl rfl) (.inr rfl))) (fun _ _ _ _ _ => pts_nil) (fun _ _ _ _ _ => (pe_call G_l_random (hr.mono (by decide)) (by rfl) g_l_random k_l_random b_l_random .nil pass0 (pa_cons (pv 0) (pa_cons (pv 2) pa_nil))))) pa_nil)) pa_nil)))))))), ?_⟩
  have en : (((rs.map V.ref).length : Nat) : Int) + 1 = ((n : Nat) : Int) := by
    rw [List.length_map, hlen]
    omega
  have hgl := hg.lst
  obtain ⟨gx, hgx⟩ := hgl
  refine ⟨_, rfl, _, _, rfl, .inr hrs, _, _, rfl, rfl, ?_⟩
  refine ⟨_, rfl, _, rfl, _, rfl, _, rfl, g, b, n, congrArg (fun z => [V.ref g, V.int z]) en, hg, by omega, by omega, by omega, fun H1 v bt1 g1 hv => ⟨_, _, rfl, rfl, by show 3 ≤ sizeLine; decide, fun pl npl => ?_⟩⟩
  have nplg : pl ≠ g := g1.ne npl
  refine ⟨_, rfl, g, b + 1, 3, rfl, g1.at nplg, by decide, by decide, by omega, fun H2 u bt2 g2 hu => ?_⟩
  obtain ⟨sp, hsp, sp0, sp1⟩ : ∃ sp : Nat, ([V.int ((((rs.map V.ref).length : Nat) : Int) + 1), V.int ((((rs.map V.ref).length : Nat) : Int) + 1), V.int (1 + (v : Int))] : List V)[u]? = some (.int (sp : Int)) ∧ 1 ≤ sp ∧ sp ≤ n := by
    match u, hu with
    | 0, _ => exact ⟨n, congrArg (fun z => some (V.int z)) en, hn1, Nat.le_refl _⟩
    | 1, _ => exact ⟨n, congrArg (fun z => some (V.int z)) en, hn1, Nat.le_refl _⟩
    | 2, _ => exact ⟨1 + v, congrArg (fun z => some (V.int z)) (by omega), by omega, by omega⟩
  refine ⟨pl, _, _, _, rfl, rfl, SqL.of (bt2 _ _ nplg upd_same), atI_nat hsp, ?_⟩
  have bt02 : But g H H2 := (bt1.at (bt1.free nplg npl) _).trans bt2
  refine ⟨_, rfl, (p : Int), rfl, by omega, by omega, fun pd npd => ?_⟩
  have npdg : pd ≠ g := g2.ne npd
  have npd0 := bt02.free npdg npd
  refine lc_range (lo := 0) (n := p) (fun i H3 => ∃ L : List Nat, But g H H3 ∧ GenAt H3 g (b + 2 + i) ∧ H3 pd = some (.lst (nv L)) ∧ L.length = i ∧ ∀ x ∈ L, x < sp) ?_ ?_ ?_
  · exact ⟨[], bt02.at npd0 _, g2.at npdg, upd_same, rfl, fun x hx => (List.not_mem_nil hx).elim⟩
  · rintro i H3 hi ⟨L, bt3, g3, hL, hl, lt⟩
    refine ⟨rfl, lcYes ?_⟩
    refine ⟨_, rfl, _, rfl, g, b + 2 + i, sp, rfl, g3, by omega, by omega, by omega, fun H4 z bt4 g4 hz => ?_⟩
    refine ⟨_, bt4 _ _ npdg hL, by rw [nv_len]; exact small1000 (by omega), L ++ [z], (bt3.trans bt4).at npd0 _, g4.at npdg, by rw [upd_same, nv_snoc], by simp [hl], fun x hx => ?_⟩
    rcases List.mem_append.mp hx with hx | hx
    · exact lt x hx
    · rw [List.mem_singleton] at hx
      rw [hx]
      exact hz
  · rintro H3 ⟨L, bt3, g3, hL, hl, lt⟩
    refine ⟨_, rfl, pd, _, rfl, .inl ⟨SqL.of hL, fun t1 nt1 => ?_⟩⟩
    have nt1g : t1 ≠ g := g3.ne nt1
    have btA := bt3.at (bt3.free nt1g nt1) (.tup (nv L))
    have gA := g3.at (o := .tup (nv L)) nt1g
    have hA : (upd H3 t1 (.tup (nv L))) t1 = some (.tup (nv L)) := upd_same
    generalize upd H3 t1 (.tup (nv L)) = H4 at btA gA hA
    refine ⟨_, rfl, a, rfl, ⟨_, btA.tup hgx hrs⟩, fun pe npe => ?_⟩
    have npeg : pe ≠ g := gA.ne npe
    have npe0 := btA.free npeg npe
    have n1e : t1 ≠ pe := ne_of_none hA npe
    refine lc_it (walk_tup (K := K) (a := a) (xs := rs.map V.ref)) (fun i H5 => ∃ M : List Nat, But g H4 H5 ∧ GenAt H5 g (b + 6 + i) ∧ H5 pe = some (.lst (nv M)) ∧ M.length = i ∧ ∀ x ∈ M, x < p)
      ⟨[], (Same.refl _).but.at npe _, (gA.at npeg).mono (by omega), upd_same, rfl, fun x hx => (List.not_mem_nil hx).elim⟩ (fun i H5 _ ⟨_, bt5, _⟩ => (btA.trans bt5).tup hgx hrs) ?_ ?_
    · rintro i x H5 H6 hi ⟨M, bt5, g5, hM, hl5, lt5⟩ ⟨rfl, ex⟩
      have hi' : i < ds.length := by
        rw [List.length_map, hlen] at hi
        exact hi
      refine ⟨rfl, lcYes ?_⟩
      refine ⟨_, rfl, _, rfl, g, b + 6 + i, p, rfl, g5, by omega, by omega, by omega, fun H7 z bt7 g7 hz => ?_⟩
      refine ⟨_, bt7 _ _ npeg hM, by rw [nv_len]; exact small1000 (by omega), M ++ [z], (bt5.trans bt7).at npe _, g7.at npeg, by rw [upd_same, nv_snoc], by simp [hl5], fun x hx => ?_⟩
      rcases List.mem_append.mp hx with hx | hx
      · exact lt5 x hx
      · rw [List.mem_singleton] at hx
        rw [hx]
        exact hz
    · rintro H5 ⟨M, bt5, g5, hM, hl5, lt5⟩
      rw [List.length_map, hlen] at hl5 g5
      refine ⟨pe, _, rfl, .inl ⟨SqL.of hM, fun t2 nt2 => ?_⟩⟩
      have nt2g : t2 ≠ g := g5.ne nt2
      refine ⟨by show 2 ≤ sizeLine; decide, fun t3 nt3 => ?_⟩
      have n3g : t3 ≠ g := (g5.at nt2g).ne nt3
      have sB := Same.upd (o := .tup (nv M)) nt2
      have sC := Same.upd (o := .tup [.ref t1, .ref t2]) nt3
      have btE := ((btA.trans bt5).at ((btA.trans bt5).free nt2g nt2) (.tup (nv M)))
      have h15 := bt5 _ _ (gA.lst.elim fun ys hy => ne_lt hy hA) hA
      refine q _ t3 (L, M) (btE.at (btE.free n3g nt3) _) (((g5.at nt2g).at n3g).mono (by omega)) ⟨t1, t2, SqT.of upd_same, SqT.of (sC _ _ (sB _ _ h15)), SqT.of (sC _ _ upd_same)⟩ ⟨?_, ?_, ?_, hl5, ?_⟩
      · show 1 ≤ L.length
        omega
      · show L.length ≤ 4
        omega
      · intro x hx
        have := lt x hx
        omega
      · intro y hy
        show y < L.length
        rw [hl]
        exact lt5 y hy
end
end K5

namespace K5
open PySem PySem.Spec PyProof.Rows L2
section
variable {P : Program} {w : World} {K : PySem.W.Frag}
      {mg : Str → Option Value} {base : Heap}
theorem ok_moved (T : Bl mg) (D : Def K mg "_law_moved" s_l_moved) (C_l_neighbours : Cal P w K mg base "_law_neighbours" ["_law_doors", "_law_place"] 1 (spNeigh K)) : Cal P w K mg base "_law_moved" ["_law_doors", "_law_position", "_law_step"] 2 (spMoved K) := by
  refine D.ok sc_l_moved (fun _ _ _ _ _ _ us hl => match us, hl with | [_, _, _], _ => rfl) (fun vs H Q E h => ?_) (fun f cdv A outer s H vs Q E hr h => ?_)
  · obtain ⟨a, s, t, n, ds, S, m, rfl, _⟩ := h
    rfl
  obtain ⟨a, s, t, n, ds, S, m, rfl, hH, tree, hn, st, ok, ht, ⟨v1, d, j⟩, qw, qn⟩ := h
  obtain ⟨r, b, h1, h2, h3⟩ := id st
  have hdn := tree.len
  obtain ⟨f_l_neighbours, fd_l_neighbours, g_l_neighbours, k_l_neighbours, b_l_neighbours, G_l_neighbours⟩ := C_l_neighbours
  refine ⟨_, (pss_cons (ps_asg (pv 2) (pg_tup (n := 3) rfl (pgs_cons (pg_name (i := 3) sc_l_moved.nd rfl (.inl rfl)) (pgs_cons (pg_name (i := 4) sc_l_moved.nd rfl (.inl rfl)) (pgs_cons (pg_name (i := 5) sc_l_moved.nd rfl (.inr rfl)) pgs_nil)))))
    (pss_cons (ps_asg (pv 1) (pg_tup (n := 2) rfl (pgs_cons (pg_name (i := 6) sc_l_moved.nd rfl (.inl rfl)) (pgs_cons (pg_name (i := 7) sc_l_moved.nd rfl (.inl rfl)) pgs_nil))))
    (pss_cons (ps_if (pt_cmpR op_ne (pe_ix ix_tup (pv 6) (pv 3) (fun _ _ => rfl)) (pv 4) (nomark _)) (pss_one (ps_ret (pe_lst (pa_cons pe_str (pa_cons (pv 1) pa_nil))))) pss_nil)
    (pss_cons (ps_set (i := 8) sc_l_moved.nd rfl (.inl rfl) (pe_ix ix_list (pe_lc (own := [("_law_other", 9), ("_law_number", 10)]) (g := gTup K 2 (gCons (gName 9) (gCons (gName 10) gNil)))  rfl sc_l_moved.nd (pi_list (pe_call G_l_neighbours (hr.mono (by decide)) (by rfl) g_l_neighbours k_l_neighbours b_l_neighbours .nil pass0 (pa_cons (pv 0) (pa_cons (pv 4) pa_nil)))) (blkOk_by (N := N_l_moved) (sc := defScope s_l_moved) (own := [("_law_other", 9), ("_law_number", 10)]) (by decide +kernel)) (fun _ _ _ _ _ => (pg_tup (n := 2) rfl (pgs_cons (pg_name (i := 9) sc_l_moved.nd rfl (.inl rfl) (.inr rfl)) (pgs_cons (pg_name (i := 10) sc_l_moved.nd rfl (.inl rfl) (.inr rfl)) pgs_nil)))) (fun _ _ _ _ _ => (pts_one (pt_cmpR op_eq (pv 9) (pv 5) (nomark _)))) (fun _ _ _ _ _ => (pv 10))) pe_int (fun _ _ => rfl)))
    (pss_cons (ps_if (pt_cmpR op_eq (pe_ix ix_tup (pv 7) (pv 8) (fun _ _ => rfl)) (pv 3) (nomark _)) (pss_one (ps_ret (pe_lst (pa_cons pe_str (pa_cons (pv 1) pa_nil))))) pss_nil)
    (pss_cons (ps_set (i := 11) sc_l_moved.nd rfl (.inl rfl) (pe_op op_catA (pe_op op_catA (pe_slice sl_tup (pv 6) po_none (po_some (pv 3))) (pe_tup (pa_cons (pv 5) pa_nil))) (pe_slice sl_tup (pv 6) (po_some (pe_op op_add (pv 3) pe_int)) po_none)))
    (pss_one (ps_ret (pe_lst (pa_cons pe_str (pa_cons (pe_tup (pa_cons (pv 11) (pa_cons (pe_op op_catA (pe_op op_catA (pe_slice sl_tup (pv 7) po_none (po_some (pv 8))) (pe_tup (pa_cons (pv 3) pa_nil))) (pe_slice sl_tup (pv 7) (po_some (pe_op op_add (pv 8) pe_int)) po_none)) pa_nil))) pa_nil))))))))))), ?_⟩
  obtain ⟨v, hv⟩ : ∃ v, S.1[m.1]? = some v := get_of rfl v1
  have hd : d < S.2.length := by rw [ok.doors]; exact joins_lt j
  obtain ⟨bd, hbd⟩ : ∃ bd, S.2[d]? = some bd := get_of rfl hd
  have ed := dix_is tree j
  refine ⟨_, rfl, _, _, rfl, SqT.of ht, rfl, _, _, rfl, _, _, rfl, _, _, rfl, rfl, ?_⟩
  refine ⟨_, rfl, _, _, rfl, h1, rfl, _, _, rfl, _, _, rfl, rfl, ?_⟩
  refine ⟨_, rfl, _, rfl, r, _, _, _, rfl, rfl, h2, nv_at hv, _, rfl, rfl, _, rfl, ?_⟩
  by_cases cv : v = m.2.1
  case neg =>
    rw [decide_eq_false (show ¬ V.int (v : Int) = V.int (m.2.1 : Int) from fun z => cv (by have := V.int.inj z; omega))]
    have hw : why ds S m = some "away" := by
      unfold why
      rw [if_pos (by rw [getD_of hv]; exact cv)]
    exact iteT ⟨_, rfl, by show 2 ≤ sizeLine; decide, fun q nq => qw "away" hw _ q (Same.upd nq) upd_same⟩
  rw [decide_eq_true (show V.int (v : Int) = V.int (m.2.1 : Int) by rw [cv])]
  refine iteF ?_
  refine ⟨_, rfl, _, rfl, a, ds, n, m.2.1, rfl, hH, tree, hn, fun H1 q1 pl s1 nq1 ⟨ts, g1, g2, g3⟩ mem nod len => ?_⟩
  refine ⟨q1, rfl, ⟨_, SqL.of g1⟩, fun pd npd => ?_⟩
  refine lc_it (walk_list (K := K) (a := q1) (xs := ts.map V.ref)) (fun i H2 => ∃ acc : List Nat, Same H1 H2 ∧ H2 pd = some (.lst (nv acc)) ∧ acc.length ≤ i ∧ (∀ x ∈ acc, x = d) ∧ ∀ i' < i, pl[i']? = some (m.2.2, d) → d ∈ acc)
    ⟨[], Same.upd npd, upd_same, Nat.zero_le _, fun x hx => (List.not_mem_nil hx).elim, fun i' h => by omega⟩ (fun i H2 _ ⟨_, sm, _⟩ => SqL.of (sm _ _ g1)) ?_ ?_
  · rintro i x H2 H3 hi ⟨acc, sm, hp, hl, al, cm⟩ ⟨rfl, ex⟩
    have hi' : i < pl.length := by
      rw [List.length_map, g2] at hi
      exact hi
    obtain ⟨t1, ht1⟩ : ∃ t1, ts[i]? = some t1 := get_of g2 hi'
    obtain ⟨e, he⟩ : ∃ e, pl[i]? = some e := get_of rfl hi'
    have ex' : V.ref t1 = x := by
      have ex : (ts.map V.ref)[i]? = some x := ex
      rw [List.getElem?_map, ht1] at ex
      exact Option.some.inj ex
    subst ex'
    refine ⟨t1, _, rfl, SqT.of (sm _ _ (g3 i t1 e ht1 he)), rfl, _, _, rfl, _, _, rfl, rfl, rfl, ?_⟩
    refine ⟨_, rfl, _, rfl, rfl, _, rfl, ?_⟩
    have je : Joins ds e.2 m.2.1 e.1 := (mem e.1 e.2).mp (List.mem_of_getElem? he)
    by_cases ce : e.1 = m.2.2
    · rw [decide_eq_true (show V.int (e.1 : Int) = V.int (m.2.2 : Int) by rw [ce])]
      have e2d : e.2 = d := tree.one_door (ce ▸ je) j
      refine iteT ⟨_, rfl, _, hp, by rw [nv_len]; exact small1000 (by omega), acc ++ [e.2], sm.at npd, by rw [upd_same, nv_snoc], by simp; omega, fun x hx => ?_, fun i' h he' => ?_⟩
      · rcases List.mem_append.mp hx with hx | hx
        · exact al x hx
        · rw [List.mem_singleton] at hx
          rw [hx]
          exact e2d
      · rw [e2d]
        simp
    · rw [decide_eq_false (show ¬ V.int (e.1 : Int) = V.int (m.2.2 : Int) from fun z => ce (by have := V.int.inj z; omega))]
      refine iteF ⟨acc, sm, hp, by omega, al, fun i' h he' => ?_⟩
      by_cases c : i' = i
      · subst c
        rw [he] at he'
        cases he'
        exact absurd rfl ce
      · exact cm i' (by omega) he'
  · rintro H2 ⟨acc, sm, hp, hl, al, cm⟩
    have dm : d ∈ acc := by
      have hm := (mem m.2.2 d).mpr j
      obtain ⟨i, hi⟩ := List.mem_iff_getElem?.mp hm
      refine cm i ?_ hi
      rw [List.length_map, g2]
      exact get_lt hi
    obtain ⟨x0, hx0⟩ : ∃ x0, acc[0]? = some x0 := by
      cases acc with
      | nil => cases dm
      | cons y r => exact ⟨y, rfl⟩
    have ex0 : x0 = d := al x0 (List.mem_of_getElem? hx0)
    subst ex0
    have s2 := s1.trans sm
    refine ⟨pd, _, _, _, rfl, rfl, SqL.of hp, nv_at hx0, ?_⟩
    refine ⟨_, rfl, _, rfl, b, _, _, _, rfl, rfl, s2.tup h3, nv_at hbd, _, rfl, rfl, _, rfl, ?_⟩
    by_cases cb : bd = m.1
    · rw [decide_eq_true (show V.int (bd : Int) = V.int (m.1 : Int) by rw [cb])]
      have hw : why ds S m = some "barred" := by
        unfold why
        rw [if_neg (by rw [getD_of hv, cv]; simp), ed, if_pos (by rw [getD_of hbd, cb])]
      exact iteT ⟨_, rfl, by show 2 ≤ sizeLine; decide, fun q nq => qw "barred" hw _ q (s2.trans (Same.upd nq)) upd_same⟩
    · rw [decide_eq_false (show ¬ V.int (bd : Int) = V.int (m.1 : Int) from fun z => cb (by have := V.int.inj z; omega))]
      have hw : why ds S m = none := by
        unfold why
        rw [if_neg (by rw [getD_of hv, cv]; simp), ed, if_neg (by rw [getD_of hbd]; exact cb)]
      refine iteF ?_
      have few := ok.few
      have sz4 : (4 : Nat) + 1000 ≤ sizeLine := Nat.le_of_lt (small3k (by decide))
      obtain ⟨c1, c2⟩ := cut_to v1
      obtain ⟨c3, c4⟩ := cut_from v1
      refine ⟨_, rfl, _, rfl, _, rfl, r, _, rfl, s2.tup h2, c2, fun p1 np1 => ?_⟩
      rw [c1]
      have sa := s2.trans (Same.upd (o := .tup (nv (S.1.take m.1))) np1)
      refine ⟨_, rfl, by show 1 ≤ sizeLine; decide, fun p2 np2 => ?_⟩
      have sb := sa.trans (Same.upd (o := .tup [.int (m.2.2 : Int)]) np2)
      have hp1 : (upd (upd H2 p1 (.tup (nv (S.1.take m.1)))) p2 (.tup [.int (m.2.2 : Int)])) p1 = some (.tup (nv (S.1.take m.1))) := by rw [upd_ne (ne_of_none upd_same np2), upd_same]
      refine catA_of (SqT.of hp1) (SqT.of upd_same) (by rw [nv_len, List.length_take, List.length_singleton]; omega) fun H4 p3 s4 h4 => ?_
      have sc := sb.trans s4
      refine ⟨_, rfl, _, rfl, _, _, rfl, rfl, _, rfl, r, _, rfl, sc.tup h2, c4, fun p4 np4 => ?_⟩
      rw [c3]
      have s5 := Same.upd (o := .tup (nv (S.1.drop (m.1 + 1)))) np4
      refine catA_of (s5.tup h4) (SqT.of upd_same) (by rw [List.length_append, nv_len, List.length_take, List.length_singleton, nv_len, List.length_drop]; omega) fun H6 p5 s6 h6 => ?_
      rw [nv_cut _ _ _ v1] at h6
      have sd := (sc.trans s5).trans s6
      obtain ⟨c5, c6⟩ := cut_to hd
      obtain ⟨c7, c8⟩ := cut_from hd
      have bl := ok.doors
      refine ⟨_, rfl, _, rfl, _, rfl, _, rfl, b, _, rfl, sd.tup h3, c6, fun p6 np6 => ?_⟩
      rw [c5]
      have se := sd.trans (Same.upd (o := .tup (nv (S.2.take x0))) np6)
      have h6e := (Same.upd (o := .tup (nv (S.2.take x0))) np6).tup h6
      refine ⟨_, rfl, by show 1 ≤ sizeLine; decide, fun p7 np7 => ?_⟩
      have sf := se.trans (Same.upd (o := .tup [.int (m.1 : Int)]) np7)
      have h6f := (Same.upd (o := .tup [.int (m.1 : Int)]) np7).tup h6e
      have hp6 : (upd (upd H6 p6 (.tup (nv (S.2.take x0)))) p7 (.tup [.int (m.1 : Int)])) p6 = some (.tup (nv (S.2.take x0))) := by rw [upd_ne (ne_of_none upd_same np7), upd_same]
      refine catA_of (SqT.of hp6) (SqT.of upd_same) (by rw [nv_len, List.length_take, List.length_singleton]; omega) fun H8 p8 s8 h8 => ?_
      have sg := sf.trans s8
      have h6g := s8.tup h6f
      refine ⟨_, rfl, _, rfl, _, _, rfl, rfl, _, rfl, b, _, rfl, sg.tup h3, c8, fun p9 np9 => ?_⟩
      rw [c7]
      have s9 := Same.upd (o := .tup (nv (S.2.drop (x0 + 1)))) np9
      refine catA_of (s9.tup h8) (SqT.of upd_same) (by rw [List.length_append, nv_len, List.length_take, List.length_singleton, nv_len, List.length_drop]; omega) fun H10 p10 s10 h10 => ?_
      rw [nv_cut _ _ _ hd] at h10
      have sh := (sg.trans s9).trans s10
      have h6h := s10.tup (s9.tup h6g)
      refine ⟨by show 2 ≤ sizeLine; decide, fun p11 np11 => ?_⟩
      have s11 := Same.upd (o := .tup [.ref p5, .ref p10]) np11
      refine ⟨by show 2 ≤ sizeLine; decide, fun p12 np12 => ?_⟩
      have s12 := Same.upd (o := .lst [.str "done", .ref p11]) np12
      refine qn hw _ p12 p11 ((sh.trans s11).trans s12) upd_same ⟨p5, p10, SqT.of (s12 _ _ upd_same), s12.tup (s11.tup h6h), s12.tup (s11.tup ?_)⟩
      show SqT K H10 p10 (nv (S.2.set (dix ds m.2.1 m.2.2) m.1))
      rw [ed]
      exact h10
end
end K5

namespace K5
open PySem PySem.Spec PyProof.Rows L2
theorem Can.sm {n ds S m} (T : Tree n ds) (hn : n ≤ 15) (o : StOk n ds S) (h : Can ds S m) : Sm m := by
  obtain ⟨h1, h2, d, j, h3⟩ := h
  obtain ⟨a, b, _⟩ := j.lt T
  have := o.few
  exact ⟨by omega, by omega, by omega⟩
def spPoss (K : PySem.W.Frag) : Sp := fun vs H Q _ => ∃ (a s : Addr) (ds : List (Nat × Nat)) (n : Nat) (S : S2), vs = [.ref a, .ref s] ∧ HouseAt K H a ds ∧ Tree n ds ∧ n ≤ 15 ∧ StateAt K H s S ∧ StOk n ds S ∧
  ∀ (H' : Hp) (q : Addr) (l : List Mv), Same H H' → H q = none → TrisAt H' q l → Canon l (Can ds S) → Q (.ref q) H'
/-- the steps found: all of the people ahead of k, and of person k (in room v) those by the first i neighbours -/
structure SI (ds : List (Nat × Nat)) (S : S2) (k v : Nat) (pl : List (Nat × Nat)) (i : Nat) (l : List Mv) : Prop where
  mem : ∀ m, m ∈ l ↔ (m.1 < k ∧ Can ds S m) ∨ (m.1 = k ∧ m.2.1 = v ∧ ∃ d, (m.2.2, d) ∈ pl.take i ∧ S.2[d]? ≠ some k)
  nd : l.Nodup
  len : l.length ≤ ds.length * k + i
structure SO (ds : List (Nat × Nat)) (S : S2) (k : Nat) (l : List Mv) : Prop where
  mem : ∀ m, m ∈ l ↔ m.1 < k ∧ Can ds S m
  nd : l.Nodup
  len : l.length ≤ ds.length * k
theorem take_succ_mem {α : Type} {l : List α} {i : Nat} {x y : α} (h : l[i]? = some x) : y ∈ l.take (i + 1) ↔ y ∈ l.take i ∨ y = x := by
  rw [List.take_succ, h, List.mem_append]
  simp
theorem not_mem_take {α : Type} {l : List α} {i : Nat} {x : α} (nd : l.Nodup) (h : l[i]? = some x) : x ∉ l.take i := by
  intro hm
  obtain ⟨j, hj⟩ := List.mem_iff_getElem?.mp hm
  rw [List.getElem?_take] at hj
  split at hj
  · rename_i hji
    have h1 := get_lt hj
    have h2 := get_lt h
    rw [List.getElem?_eq_getElem h1] at hj
    rw [List.getElem?_eq_getElem h2] at h
    have e := Option.some.inj (hj.trans h.symm)
    have := (List.getElem_inj nd).mp e
    omega
  · cases hj
theorem SO.start {ds S k v l pl} (h : SO ds S k l) : SI ds S k v pl 0 l := by
  refine ⟨fun m => ?_, h.nd, h.len⟩
  rw [h.mem m]
  simp
theorem SI.add {n ds S k v pl i l y d} (T : Tree n ds) (h : SI ds S k v pl i l) (mem : ∀ y d, (y, d) ∈ pl ↔ Joins ds d v y) (nd : pl.Nodup) (hi : pl[i]? = some (y, d)) (hb : S.2[d]? ≠ some k) : SI ds S k v pl (i + 1) (l ++ [(k, v, y)]) := by
  have jy := (mem y d).mp (List.mem_of_getElem? hi)
  refine ⟨fun m => ?_, ?_, by rw [List.length_append, List.length_singleton]; have := h.len; omega⟩
  · rw [List.mem_append, List.mem_singleton, h.mem m]
    constructor
    · rintro ((q | ⟨q1, q2, c, q3, q4⟩) | rfl)
      · exact .inl q
      · exact .inr ⟨q1, q2, c, (take_succ_mem hi).mpr (.inl q3), q4⟩
      · exact .inr ⟨rfl, rfl, d, (take_succ_mem hi).mpr (.inr rfl), hb⟩
    · rintro (q | ⟨q1, q2, c, q3, q4⟩)
      · exact .inl (.inl q)
      · rcases (take_succ_mem hi).mp q3 with q | q
        · exact .inl (.inr ⟨q1, q2, c, q, q4⟩)
        · obtain ⟨a, b, z⟩ := m
          simp only at q1 q2 q
          cases q
          rw [q1, q2]
          exact .inr rfl
  · refine List.nodup_append.mpr ⟨h.nd, by simp, fun a ha b hb' => ?_⟩
    rintro rfl
    rw [List.mem_singleton] at hb'
    subst hb'
    rcases (h.mem _).mp ha with ⟨q, _⟩ | ⟨_, _, c, q, _⟩
    · exact Nat.lt_irrefl _ q
    · have jc := (mem y c).mp (List.mem_of_mem_take q)
      have e := T.one_door jc jy
      subst e
      exact not_mem_take nd hi q
theorem SI.skip {ds S k v pl i l y d} (h : SI ds S k v pl i l) (hi : pl[i]? = some (y, d)) (hb : S.2[d]? = some k) : SI ds S k v pl (i + 1) l := by
  refine ⟨fun m => ?_, h.nd, by have := h.len; omega⟩
  rw [h.mem m]
  constructor
  · rintro (q | ⟨q1, q2, c, q3, q4⟩)
    · exact .inl q
    · exact .inr ⟨q1, q2, c, (take_succ_mem hi).mpr (.inl q3), q4⟩
  · rintro (q | ⟨q1, q2, c, q3, q4⟩)
    · exact .inl q
    · rcases (take_succ_mem hi).mp q3 with q | q
      · exact .inr ⟨q1, q2, c, q, q4⟩
      · cases q
        exact absurd hb q4
theorem SI.done {ds S k v pl l} (h : SI ds S k v pl pl.length l) (mem : ∀ y d, (y, d) ∈ pl ↔ Joins ds d v y) (hv : S.1[k]? = some v) (hl : pl.length ≤ ds.length) : SO ds S (k + 1) l := by
  refine ⟨fun m => ?_, h.nd, ?_⟩
  · rw [h.mem m, List.take_length]
    constructor
    · rintro (⟨q1, q2⟩ | ⟨q1, q2, c, q3, q4⟩)
      · exact ⟨by omega, q2⟩
      · refine ⟨by omega, ?_, ?_, c, ?_, ?_⟩
        · rw [q1]; exact get_lt hv
        · rw [q1, q2]; exact hv
        · rw [q2]; exact (mem _ _).mp q3
        · rw [q1]; exact q4
    · rintro ⟨q1, q2⟩
      by_cases c : m.1 = k
      · obtain ⟨_, r2, d, r3, r4⟩ := q2
        rw [c, hv] at r2
        have e := Option.some.inj r2
        refine .inr ⟨c, e.symm, d, (mem _ _).mpr (by rw [e]; exact r3), by rw [c] at r4; exact r4⟩
      · exact .inl ⟨by omega, q2⟩
  · have := h.len
    rw [Nat.mul_succ]
    omega
/-- each move by a door that there is -/
def spEvery (K : PySem.W.Frag) : Sp := fun vs H Q _ => ∃ (a : Addr) (p n : Nat) (ds : List (Nat × Nat)), vs = [.ref a, .int (p : Int)] ∧ HouseAt K H a ds ∧ Tree n ds ∧ n ≤ 8 ∧ p ≤ 4 ∧
  ∀ (H' : Hp) (q : Addr) (l : List Mv), Same H H' → H q = none → TrisAt H' q l → (∀ m ∈ l, VM ds p m) → l.length ≤ 56 → Q (.ref q) H'
section
variable {P : Program} {w : World} {K : PySem.W.Frag}
      {mg : Str → Option Value} {base : Heap}
theorem ok_steps (T : Bl mg) (D : Def K mg "_law_steps" s_l_steps) (C_l_neighbours : Cal P w K mg base "_law_neighbours" ["_law_doors", "_law_place"] 1 (spNeigh K)) : Cal P w K mg base "_law_steps" ["_law_doors", "_law_position"] 2 (spPoss K) := by
  refine D.ok sc_l_steps (fun _ _ _ _ _ _ us hl => match us, hl with | [_, _], _ => rfl) (fun vs H Q E h => ?_) (fun f cdv A outer s H vs Q E hr h => ?_)
  · obtain ⟨a, s, ds, n, S, rfl, _⟩ := h
    rfl
  obtain ⟨a, s, ds, n, S, rfl, hH, tree, hn, st, ok, q⟩ := h
  obtain ⟨r, b, h1, h2, h3⟩ := id st
  have hdn := tree.len
  have few := ok.few
  obtain ⟨f_l_neighbours, fd_l_neighbours, g_l_neighbours, k_l_neighbours, b_l_neighbours, G_l_neighbours⟩ := C_l_neighbours
  refine ⟨_, (pss_cons (ps_set (i := 2) sc_l_steps.nd rfl (.inl rfl) (pe_lst pa_nil))
    (pss_cons (ps_for PassesOwn.never rfl (pi_enumT (by rfl) T.enumerate (pa_cons (pe_ix ix_tup (pv 1) pe_int (fun _ _ => rfl)) pa_nil)) (pg_tup (n := 2) rfl (pgs_cons (pg_name (i := 3) sc_l_steps.nd rfl (.inl rfl)) (pgs_cons (pg_name (i := 4) sc_l_steps.nd rfl (.inl rfl)) pgs_nil)))
    (pss_one (ps_for PassesOwn.never rfl (pi_list (pe_call G_l_neighbours (hr.mono (by decide)) (by rfl) g_l_neighbours k_l_neighbours b_l_neighbours .nil pass0 (pa_cons (pv 0) (pa_cons (pv 4) pa_nil)))) (pg_tup (n := 2) rfl (pgs_cons (pg_name (i := 5) sc_l_steps.nd rfl (.inl rfl)) (pgs_cons (pg_name (i := 6) sc_l_steps.nd rfl (.inl rfl)) pgs_nil)))
    (pss_one (ps_if (pt_cmpR op_ne (pe_ix ix_tup (pe_ix ix_tup (pv 1) pe_int (fun _ _ => rfl)) (pv 6) (fun _ _ => rfl)) (pv 3) (nomark _)) (pss_one (ps_expr (pe_bm PySem.F.plainAttrs_list PySem.F.slot_list_append PySem.F.type_list_append mt_append (pv 2) (pa_cons (pe_tup (pa_cons (pv 3) (pa_cons (pv 4) (pa_cons (pv 5) pa_nil)))) pa_nil)))) pss_nil)))))
    (pss_one (ps_ret (pe_callB (cr_sortT (d := 3) (B := 64) (by decide)) (by rfl) T.sorted (by decide +kernel) (pa_cons (pv 2) pa_nil)))))), ?_⟩
  refine ⟨Nat.zero_le _, fun p np => ?_⟩
  have sp1 := Same.upd (o := .lst []) np
  refine ⟨_, rfl, s, _, _, _, rfl, rfl, sp1.tup h1, atI_nat (j := 0) rfl, r, _, rfl, sp1.tup h2, ?_⟩
  refine for_it (walk_enumT (K := K) (a := r) (xs := nv S.1)) (fun k σ H2 => ∃ l y3 y4 y5 y6, σ = [some (.ref a), some (.ref s), some (.ref p), y3, y4, y5, y6] ∧ Same H H2 ∧ TrisAt H2 p l ∧ SO ds S k l)
    ⟨[], _, _, _, _, rfl, sp1, ⟨[], upd_same, TL.nil⟩, ⟨fun m => by simp, List.nodup_nil, Nat.zero_le _⟩⟩ (fun i σ H2 _ ⟨_, _, _, _, _, _, sm, _⟩ => sm.tup h2) ?_ ?_
  · rintro k x σ H2 H3 hk ⟨l, y3, y4, y5, y6, rfl, sm, tr, so⟩ ⟨t, x1, x2, rfl, nt, rfl, ex1, ex2⟩
    cases ex1
    obtain ⟨v, hv, rfl⟩ := nv_some ex2
    have kP := get_lt hv
    have smt : Same H2 (upd H2 t (.tup [.int (k : Nat), .int (v : Int)])) := Same.upd nt
    have sm4 := sm.trans smt
    have tr4 := tr.same smt
    refine ⟨t, _, rfl, SqT.of upd_same, rfl, _, _, rfl, _, _, rfl, rfl, ?_⟩
    generalize upd H2 t (.tup [.int (k : Nat), .int (v : Int)]) = H4 at smt sm4 tr4
    refine ⟨_, rfl, _, rfl, a, ds, n, v, rfl, hH.same sm4, tree, by omega, fun H5 q1 pl s5 nq1 ⟨ts1, g1, g2, g3⟩ mem nod len => ?_⟩
    have sm5 := sm4.trans s5
    have tr5 := tr4.same s5
    refine ⟨q1, rfl, ⟨_, SqL.of g1⟩, ?_⟩
    obtain ⟨ts0, f0, _⟩ := id tr4
    obtain ⟨ts5, f5, _⟩ := id tr5
    have npq : q1 ≠ p := (ne_of_none f0 nq1).symm
    refine for_it (walk_list (K := K) (a := q1) (xs := ts1.map V.ref)) (fun i σ H6 => ∃ l y5 y6, σ = [some (.ref a), some (.ref s), some (.ref p), some (.int (k : Int)), some (.int (v : Int)), y5, y6] ∧ But p H5 H6 ∧ Same H H6 ∧ TrisAt H6 p l ∧ SI ds S k v pl i l)
      ⟨l, _, _, rfl, But.refl _ _, sm5, tr5, so.start⟩ (fun i σ H6 _ ⟨_, _, _, _, bt, _⟩ => SqL.of (bt _ _ npq g1)) ?_ ?_
    · rintro i x σ H6 H7 hi ⟨l, y5, y6, rfl, bt, sm6, ⟨ts, f1, f2⟩, si⟩ ⟨rfl, ex⟩
      have hi' : i < pl.length := by
        rw [List.length_map, g2] at hi
        exact hi
      obtain ⟨t1, ht1⟩ : ∃ t1, ts1[i]? = some t1 := get_of g2 hi'
      obtain ⟨e, he⟩ : ∃ e, pl[i]? = some e := get_of rfl hi'
      have ex' : V.ref t1 = x := by
        have ex : (ts1.map V.ref)[i]? = some x := ex
        rw [List.getElem?_map, ht1] at ex
        exact Option.some.inj ex
      subst ex'
      have hte := g3 i t1 e ht1 he
      have hte6 := bt _ _ (ne_lt f5 hte) hte
      have je : Joins ds e.2 v e.1 := (mem e.1 e.2).mp (List.mem_of_getElem? he)
      obtain ⟨bk, hbk⟩ : ∃ bk, S.2[e.2]? = some bk := get_of ok.doors (joins_lt je)
      refine ⟨t1, _, rfl, SqT.of hte6, rfl, _, _, rfl, _, _, rfl, rfl, ?_⟩
      refine ⟨_, rfl, s, _, _, _, rfl, rfl, sm6.tup h1, atI_nat (j := 1) rfl, _, rfl, b, _, _, _, rfl, rfl, sm6.tup h3, nv_at hbk, _, rfl, rfl, _, rfl, ?_⟩
      have ll := si.len
      have kb : ds.length * k ≤ ds.length * 3 := Nat.mul_le_mul_left _ (by omega)
      by_cases cb : bk = k
      · rw [decide_eq_true (show V.int (bk : Int) = V.int (k : Int) by rw [cb])]
        exact iteF ⟨l, _, _, rfl, bt, sm6, ⟨ts, f1, f2⟩, si.skip he (by rw [hbk, cb])⟩
      · rw [decide_eq_false (show ¬ V.int (bk : Int) = V.int (k : Int) from fun z => cb (by have := V.int.inj z; omega))]
        refine iteT ?_
        refine ⟨_, rfl, .inl ⟨rfl, _, SqL.of f1⟩, _, rfl, _, rfl, _, rfl, by show 3 ≤ sizeLine; decide, fun t2 nt2 => ?_⟩
        have ntp : t2 ≠ p := (ne_of_none f1 nt2).symm
        refine ⟨p, _, _, rfl, rfl, by rw [upd_ne ntp.symm]; exact f1, by rw [List.length_map, f2.1]; exact small1000 (by omega), l ++ [(k, v, e.1)], _, _, rfl, (bt.trans (Same.upd nt2).but).upd _, (sm6.trans (Same.upd nt2)).at np, ⟨ts ++ [t2], by rw [upd_same, List.map_append]; rfl, ?_⟩, si.add tree mem nod he (by rw [hbk]; intro z; exact cb (Option.some.inj z))⟩
        refine TL.append ?_ (TL.one (by rw [upd_ne ntp, upd_same]; rfl))
        refine ⟨f2.1, fun i t' m' e1 e2 => ?_⟩
        have z := f2.2 i t' m' e1 e2
        rw [upd_ne (ne_lt f1 z), upd_ne (ne_of_none z nt2)]
        exact z
    · rintro σ H6 ⟨l, y5, y6, rfl, bt, sm6, tr6, si⟩
      rw [List.length_map, g2] at si
      exact ⟨l, _, _, _, _, rfl, sm6, tr6, si.done mem hv len⟩
  · rintro σ H2 ⟨l, y3, y4, y5, y6, rfl, sm, ⟨ts, g1, g2⟩, so⟩
    rw [nv_len] at so
    have ll := so.len
    have kb : ds.length * S.1.length ≤ ds.length * 4 := Nat.mul_le_mul_left _ few
    have mc : ∀ m, m ∈ l ↔ Can ds S m := fun m => (so.mem m).trans ⟨fun h => h.2, fun h => ⟨h.1, h⟩⟩
    have sms : ∀ m ∈ l, Sm m := fun m hm => ((mc m).mp hm).sm tree hn ok
    refine ⟨_, rfl, p, _, rfl, SqL.of g1, by rw [List.length_map, g2.1]; omega, fun v hv => ?_, fun ys q0 pr asc nq => ?_⟩
    · obtain ⟨t, ht, rfl⟩ := List.mem_map.mp hv
      obtain ⟨i, hi⟩ := List.mem_iff_getElem?.mp ht
      obtain ⟨m, hm⟩ : ∃ m, l[i]? = some m := get_of g2.1.symm (get_lt hi)
      exact tup_of (g2.2 i t m hi hm) (sms m (List.mem_of_getElem? hm))
    · obtain ⟨ts', l', rfl, cn, tl'⟩ := sorted_canon g2 mc sms so.nd pr asc
      exact q _ q0 l' (sm.trans (Same.upd nq)) (sm.free nq) ⟨ts', upd_same, tl'.same (Same.upd nq)⟩ cn
end
end K5

namespace K5
open PySem PySem.Spec PyProof.Rows L2
theorem runs_snoc {ds : List (Nat × Nat)} {m : Mv} : ∀ (l : List Mv) (i : Nat) (S S' : S2), runs ds i S l = .inr S' → why ds S' m = none → runs ds i S (l ++ [m]) = .inr (nxt ds S' m)
  | [], i, S, S', h, hw => by
    have e : S = S' := Sum.inr.inj h
    subst e
    show runs ds i S [m] = _
    rw [runs, hw]
    rfl
  | m0 :: r, i, S, S', h, hw => by
    rw [runs] at h
    show runs ds i S (m0 :: (r ++ [m])) = _
    rw [runs]
    split at h
    · cases h
    · exact runs_snoc r _ _ _ h hw
theorem eqv_nil (l : List Mv) : PyData.eqv (dMs l) (dMs []) = decide (l = []) := by
  cases l with
  | nil => exact d_refl (dMs_shaped [])
  | cons m r =>
    rw [decide_eq_false (by simp)]
    simp only [dMs, List.map_cons, List.map_nil, PyData.eqv, PyData.eqvAll]
theorem Canon.len {l P} (c : Canon l P) : l.length ≤ 262144 := by
  have h := nodup_le 262144 (l.map fun m : Mv => m.1 * 4096 + m.2.1 * 64 + m.2.2) (List.pairwise_map.mpr (c.asc.imp fun h => by
    rw [mcode_is, mcode_is] at h
    omega)) fun x hx => by
      obtain ⟨m, hm, rfl⟩ := List.mem_map.mp hx
      obtain ⟨h1, h2, h3⟩ := c.sm m hm
      omega
  rw [List.length_map] at h
  exact h
def spRSteps (K : PySem.W.Frag) : Sp := fun vs H Q _ => ∃ (g a s : Addr) (b n most : Nat) (ds : List (Nat × Nat)) (S : S2), vs = [.ref g, .ref a, .ref s, .int (most : Int)] ∧ GenAt H g b ∧ HouseAt K H a ds ∧ Tree n ds ∧ n ≤ 15 ∧ StateAt K H s S ∧ StOk n ds S ∧ most ≤ 20 ∧ b < 2 ^ 59 ∧
  ∀ (H' : Hp) (q sl sf : Addr) (l : List Mv) (S' : S2), But g H H' → GenAt H' g (b + 100) → H' q = some (.lst [.ref sl, .ref sf]) → TrisAt H' sl l → sl ≠ g → (∀ m ∈ l, VM ds S.1.length m) → l.length ≤ most → runs ds 0 S l = .inr S' → StateAt K H' sf S' → StOk n ds S' → S'.1.length = S.1.length → Q (.ref q) H'
def spExp (K : PySem.W.Frag) : Sp := fun vs H Q _ => ∃ (a s pl : Addr) (n : Nat) (ds : List (Nat × Nat)) (S : S2) (l : List Mv), vs = [.ref a, .ref s, .ref pl] ∧ HouseAt K H a ds ∧ Tree n ds ∧ n ≤ 1000 ∧ StateAt K H s S ∧ StOk n ds S ∧ TrisAt H pl l ∧ (∀ m ∈ l, VM ds S.1.length m) ∧
  ∀ (H' : Hp) (q : Addr), Same H H' → Dp K H' (.ref q) (dO (runs ds 0 S l)) → Q (.ref q) H'
section
variable {P : Program} {w : World} {K : PySem.W.Frag}
      {mg : Str → Option Value} {base : Heap}
theorem TrisAt.but {g q : Addr} {H H' : Hp} {l : List Mv} {xs : List V} (h : TrisAt H q l) (hg : H g = some (.lst xs)) (ne : q ≠ g) (s : But g H H') : TrisAt H' q l := by
  obtain ⟨ts, h1, h2⟩ := h
  exact ⟨ts, s _ _ ne h1, h2.but hg s⟩
theorem ok_random_steps (T : Bl mg) (D : Def K mg "_law_random_steps" s_l_random_steps) (C_l_random : Cal P w K mg base "_law_random" ["_law_generator_here", "_law_bound"] 2 spRand) (C_l_steps : Cal P w K mg base "_law_steps" ["_law_doors", "_law_position"] 2 (spPoss K))
    (C_l_moved : Cal P w K mg base "_law_moved" ["_law_doors", "_law_position", "_law_step"] 2 (spMoved K)) : Cal P w K mg base "_law_random_steps" ["_law_generator_here", "_law_doors", "_law_position", "_law_most"] 3 (spRSteps K) := by
  refine D.ok sc_l_random_steps (fun _ _ _ _ _ _ us hl => match us, hl with | [_, _, _, _], _ => rfl) (fun vs H Q E h => ?_) (fun f cdv A outer s H vs Q E hr h => ?_)
  · obtain ⟨g, a, s, b, n, most, ds, S, rfl, _⟩ := h
    rfl
  obtain ⟨g, a, s, b, n, most, ds, S, rfl, hg, hH, tree, hn, st, ok, hm, hb, q⟩ := h
  have hdn := tree.len
  obtain ⟨gx, hgx⟩ := hg.lst
  obtain ⟨f_l_random, fd_l_random, g_l_random, k_l_random, b_l_random, G_l_random⟩ := C_l_random
  obtain ⟨f_l_steps, fd_l_steps, g_l_steps, k_l_steps, b_l_steps, G_l_steps⟩ := C_l_steps
  obtain ⟨f_l_moved, fd_l_moved, g_l_moved, k_l_moved, b_l_moved, G_l_moved⟩ := C_l_moved
  refine ⟨_, (pss_cons (ps_set (i := 4) sc_l_random_steps.nd rfl (.inl rfl) (pe_lst pa_nil))
    (pss_cons (ps_for PassesOwn.never rfl (pi_range1 rfl T.range (pa_cons (pe_call G_l_random (hr.mono (by decide)) (by rfl) g_l_random k_l_random b_l_random .nil pass0 (pa_cons (pv 0) (pa_cons (pe_op op_add (pv 3) pe_int) pa_nil))) pa_nil)) (pg_name (i := 5) sc_l_random_steps.nd rfl (.inl rfl))
    (pss_cons (ps_set (i := 6) sc_l_random_steps.nd rfl (.inl rfl) (pe_call G_l_steps (hr.mono (by decide)) (by rfl) g_l_steps k_l_steps b_l_steps .nil pass0 (pa_cons (pv 1) (pa_cons (pv 2) pa_nil))))
    (pss_one (ps_if (pt_cmpR (op_neD hr.units) (pv 6) (pe_lst pa_nil) (nomark _)) (pss_cons (ps_set (i := 7) sc_l_random_steps.nd rfl (.inl rfl) (pe_ix ix_list (pv 6) (pe_call G_l_random (hr.mono (by decide)) (by rfl) g_l_random k_l_random b_l_random .nil pass0 (pa_cons (pv 0) (pa_cons (pe_callB call_len_seq (by rfl) T.len PySem.boot_len (pa_cons (pv 6) pa_nil)) pa_nil))) (fun _ _ => rfl)))
    (pss_cons (ps_set (i := 2) sc_l_random_steps.nd rfl (.inl rfl) (pe_ix ix_list (pe_call G_l_moved (hr.mono (by decide)) (by rfl) g_l_moved k_l_moved b_l_moved .nil pass0 (pa_cons (pv 1) (pa_cons (pv 2) (pa_cons (pv 7) pa_nil)))) pe_int (fun _ _ => rfl)))
    (pss_one (ps_expr (pe_bm PySem.F.plainAttrs_list PySem.F.slot_list_append PySem.F.type_list_append mt_append (pv 4) (pa_cons (pv 7) pa_nil)))))) pss_nil))))
    (pss_one (ps_ret (pe_lst (pa_cons (pv 4) (pa_cons (pv 2) pa_nil))))))), ?_⟩
  refine ⟨Nat.zero_le _, fun p np => ?_⟩
  have npg : p ≠ g := hg.ne np
  have bt0 : But g H (upd H p (.lst [])) := (Same.upd np).but
  refine ⟨_, rfl, _, rfl, _, _, rfl, rfl, g, b, most + 1, rfl, hg.at npg, by omega, by omega, by omega, fun H1 cnt bt1 g1 hc => ?_⟩
  have bt01 := bt0.trans bt1
  have hp1 : H1 p = some (.lst []) := bt1 _ _ npg upd_same
  refine ⟨(cnt : Int), rfl, by omega, by omega, ?_⟩
  refine for_range (lo := 0) (n := cnt) (fun i σ H2 => ∃ l sa S' y5 y6 y7, σ = [some (.ref g), some (.ref a), some (.ref sa), some (.int (most : Int)), some (.ref p), y5, y6, y7] ∧ But g H H2 ∧ GenAt H2 g (b + 1 + i) ∧ TrisAt H2 p l ∧ StateAt K H2 sa S' ∧ StOk n ds S' ∧ S'.1.length = S.1.length ∧ runs ds 0 S l = .inr S' ∧ (∀ m ∈ l, VM ds S.1.length m) ∧ l.length ≤ i)
    ⟨[], s, S, _, _, _, rfl, bt01, g1, ⟨[], hp1, TL.nil⟩, st.but hgx bt01, ok, rfl, rfl, fun m hm => (List.not_mem_nil hm).elim, Nat.zero_le _⟩ ?_ ?_
  · rintro i σ H2 hi ⟨l, sa, S', y5, y6, y7, rfl, bt, g2, tr, st2, ok2, lk, er, vm, ll⟩
    rw [Int.zero_add]
    have hH2 := hH.but hgx bt
    refine ⟨_, rfl, _, rfl, a, sa, ds, n, S', rfl, hH2, tree, hn, st2, ok2, fun H3 q1 al s3 nq1 tra cn => ?_⟩
    have g3 := g2.same s3
    have tr3 := tr.same s3
    have st3 := st2.same s3
    have bt3 := bt.trans s3.but
    have nq1g : q1 ≠ g := g2.ne nq1
    refine ⟨_, rfl, Nat.zero_le _, fun pe npe => ?_⟩
    have s4 := Same.upd (o := .lst []) npe
    have trE : TrisAt (upd H3 pe (.lst [])) pe [] := ⟨[], upd_same, TL.nil⟩
    refine ⟨dMs al, dMs [], dp_Tris (tra.same s4), dp_Tris trE, dMs_shaped _, dMs_shaped _, _, rfl, ?_⟩
    rw [eqv_nil]
    have g4 := g3.same s4
    have tr4 := tr3.same s4
    have st4 := st3.same s4
    have tra4 := tra.same s4
    have bt4 := bt3.trans s4.but
    generalize upd H3 pe (.lst []) = H4 at g4 tr4 st4 tra4 bt4
    by_cases ca : al = []
    · rw [decide_eq_true ca]
      exact iteF ⟨l, sa, S', _, _, _, rfl, bt4, g4.mono (by omega), tr4, st4, ok2, lk, er, vm, by omega⟩
    · rw [decide_eq_false ca]
      refine iteT ?_
      have al0 : 0 < al.length := List.length_pos_iff.mpr ca
      obtain ⟨ta, f1, f2⟩ := id tra4
      have alen : al.length < 2 ^ 20 := by
        have := cn.len
        omega
      refine ⟨_, rfl, _, rfl, _, rfl, q1, _, rfl, .inl (SqL.of f1), ?_⟩
      refine ⟨g, b + 1 + i, al.length, by rw [List.length_map, f2.1]; rfl, g4, al0, by omega, by omega, fun H5 u bt5 g5 hu => ?_⟩
      obtain ⟨gx4, hgx4⟩ := g4.lst
      obtain ⟨t1, ht1⟩ : ∃ t1, ta[u]? = some t1 := get_of f2.1 hu
      obtain ⟨m, hm'⟩ : ∃ m, al[u]? = some m := get_of rfl hu
      have can : Can ds S' m := (cn.mem m).mp (List.mem_of_getElem? hm')
      have hw := can.why tree ok2
      have h5m := bt5 _ _ (ne_lt hgx4 (f2.2 u t1 m ht1 hm')) (f2.2 u t1 m ht1 hm')
      refine ⟨q1, _, _, .ref t1, rfl, rfl, SqL.of (bt5 _ _ nq1g f1), atI_nat (by rw [List.getElem?_map, ht1]; rfl), ?_⟩
      have st5 := st4.but hgx4 bt5
      have tr5 := tr4.but hgx4 npg bt5
      have bt05 := bt4.trans bt5
      refine ⟨_, rfl, _, rfl, _, rfl, a, sa, t1, n, ds, S', m, rfl, hH.but hgx bt05, tree, by omega, st5, ok2, h5m, can.vm, fun w0 hw0 => (by rw [hw] at hw0; cases hw0), fun _ H6 q2 s' s6 hq2 st6 => ?_⟩
      refine ⟨q2, _, _, .ref s', rfl, rfl, SqL.of hq2, atI_nat (j := 1) rfl, ?_⟩
      obtain ⟨tl, e1, e2⟩ := tr5.same s6
      have g6 := g5.same s6
      refine ⟨_, rfl, .inl ⟨rfl, _, SqL.of e1⟩, _, rfl, p, _, _, rfl, rfl, e1, by rw [List.length_map, e2.1]; exact small1000 (by omega), ?_⟩
      have btp : But p H6 (upd H6 p (.lst (tl.map V.ref ++ [.ref t1]))) := But.upd (But.refl _ _) _
      refine ⟨l ++ [m], s', nxt ds S' m, _, _, _, rfl, (bt05.trans s6.but).at np _, (g6.at npg).mono (by omega), ⟨tl ++ [t1], by rw [upd_same, List.map_append]; rfl, (e2.append (TL.one (s6 _ _ h5m))).but e1 btp⟩, st6.but e1 btp, ok2.nxt tree can.vm, by rw [nxt_len]; exact lk, runs_snoc l 0 S S' er hw, fun m' hm' => ?_, by simp; omega⟩
      rcases List.mem_append.mp hm' with h | h
      · exact vm m' h
      · rw [List.mem_singleton] at h
        rw [h, ← lk]
        exact can.vm
  · rintro σ H2 ⟨l, sa, S', y5, y6, y7, rfl, bt, g2, tr, st2, ok2, lk, er, vm, ll⟩
    refine ⟨_, rfl, _, rfl, by show 2 ≤ sizeLine; decide, fun q0 nq0 => ?_⟩
    have s3 := Same.upd (o := .lst [.ref p, .ref sa]) nq0
    exact q _ q0 p sa l S' (bt.trans s3.but) ((g2.same s3).mono (by omega)) upd_same (tr.same s3) npg vm (by omega) er (st2.same s3) ok2 lk
end
end K5

/-! a plan, person by person and door by door: whether it can be played, and what it does -/
namespace K5
open PySem PySem.Spec PyProof.Rows L2
abbrev dr (ds : List (Nat × Nat)) (m : Mv) : Nat := dix ds m.2.1 m.2.2
def okR : Nat → Nat → List Mv → Prop
  | _, _, [] => True
  | r, p, m :: t => if m.1 = p then m.2.1 = r ∧ okR m.2.2 p t else okR r p t
def curR : Nat → Nat → List Mv → Nat
  | r, _, [] => r
  | r, p, m :: t => if m.1 = p then curR m.2.2 p t else curR r p t
def okB (ds : List (Nat × Nat)) : Nat → Nat → List Mv → Prop
  | _, _, [] => True
  | b, d, m :: t => if dr ds m = d then m.1 ≠ b ∧ okB ds m.1 d t else okB ds b d t
def curB (ds : List (Nat × Nat)) : Nat → Nat → List Mv → Nat
  | b, _, [] => b
  | b, d, m :: t => if dr ds m = d then curB ds m.1 d t else curB ds b d t
theorem okR_filter (r p : Nat) (l : List Mv) : okR r p (l.filter fun m => decide (m.1 = p)) = okR r p l := by
  induction l generalizing r with
  | nil => rfl
  | cons m t ih =>
    by_cases c : m.1 = p
    · rw [List.filter_cons_of_pos (by simpa using c)]
      simp only [okR, if_pos c, ih]
    · rw [List.filter_cons_of_neg (by simpa using c)]
      simp only [okR, if_neg c, ih]
theorem curR_filter (r p : Nat) (l : List Mv) : curR r p (l.filter fun m => decide (m.1 = p)) = curR r p l := by
  induction l generalizing r with
  | nil => rfl
  | cons m t ih =>
    by_cases c : m.1 = p
    · rw [List.filter_cons_of_pos (by simpa using c)]
      simp only [curR, if_pos c, ih]
    · rw [List.filter_cons_of_neg (by simpa using c)]
      simp only [curR, if_neg c, ih]
theorem okB_filter (ds : List (Nat × Nat)) (b d : Nat) (l : List Mv) : okB ds b d (l.filter fun m => decide (dr ds m = d)) = okB ds b d l := by
  induction l generalizing b with
  | nil => rfl
  | cons m t ih =>
    by_cases c : dr ds m = d
    · rw [List.filter_cons_of_pos (by simpa using c)]
      simp only [okB, if_pos c, ih]
    · rw [List.filter_cons_of_neg (by simpa using c)]
      simp only [okB, if_neg c, ih]
theorem curB_filter (ds : List (Nat × Nat)) (b d : Nat) (l : List Mv) : curB ds b d (l.filter fun m => decide (dr ds m = d)) = curB ds b d l := by
  induction l generalizing b with
  | nil => rfl
  | cons m t ih =>
    by_cases c : dr ds m = d
    · rw [List.filter_cons_of_pos (by simpa using c)]
      simp only [curB, if_pos c, ih]
    · rw [List.filter_cons_of_neg (by simpa using c)]
      simp only [curB, if_neg c, ih]
theorem getD_set (L : List Nat) (i j x : Nat) (h : i < L.length) : (L.set i x).getD j 0 = if i = j then x else L.getD j 0 := by
  rw [List.getD_eq_getElem?_getD, List.getD_eq_getElem?_getD]
  by_cases c : i = j
  · subst c
    rw [if_pos rfl, List.getElem?_set_self h]
    rfl
  · rw [if_neg c, List.getElem?_set_ne c]
/-- the moves are by people and through doors that there are -/
def Fits (ds : List (Nat × Nat)) (P D : Nat) (l : List Mv) : Prop := ∀ m ∈ l, m.1 < P ∧ dr ds m < D
theorem runs_to {ds : List (Nat × Nat)} : ∀ (l : List Mv) (i : Nat) (S S' : S2), Fits ds S.1.length S.2.length l → runs ds i S l = .inr S' →
    (∀ p, okR (S.1.getD p 0) p l) ∧ (∀ d, okB ds (S.2.getD d 0) d l) ∧ (∀ p, S'.1.getD p 0 = curR (S.1.getD p 0) p l) ∧ (∀ d, S'.2.getD d 0 = curB ds (S.2.getD d 0) d l) ∧ S'.1.length = S.1.length ∧ S'.2.length = S.2.length
  | [], i, S, S', _, h => by
    rw [runs] at h
    cases h
    exact ⟨fun _ => trivial, fun _ => trivial, fun _ => rfl, fun _ => rfl, rfl, rfl⟩
  | m :: t, i, S, S', hf, h => by
    obtain ⟨f1, f2⟩ := hf m List.mem_cons_self
    rw [runs] at h
    unfold why at h
    split at h
    case h_1 w e => cases h
    case h_2 e =>
      have e1 : S.1.getD m.1 0 = m.2.1 := Classical.byContradiction fun z => by rw [if_pos z] at e; cases e
      rw [if_neg (by simpa using e1)] at e
      have e2 : S.2.getD (dr ds m) 0 ≠ m.1 := fun z => by rw [if_pos z] at e; cases e
      have l1 : (nxt ds S m).1.length = S.1.length := List.length_set
      have l2 : (nxt ds S m).2.length = S.2.length := List.length_set
      obtain ⟨a1, a2, a3, a4, a5, a6⟩ := runs_to t (i + 1) (nxt ds S m) S' (fun m' hm => by rw [l1, l2]; exact hf m' (List.mem_cons_of_mem _ hm)) h
      have g1 : ∀ p, (nxt ds S m).1.getD p 0 = if m.1 = p then m.2.2 else S.1.getD p 0 := fun p => getD_set _ _ _ _ f1
      have g2 : ∀ d, (nxt ds S m).2.getD d 0 = if dr ds m = d then m.1 else S.2.getD d 0 := fun d => getD_set _ _ _ _ f2
      refine ⟨fun p => ?_, fun d => ?_, fun p => ?_, fun d => ?_, by rw [a5, l1], by rw [a6, l2]⟩
      · have := a1 p
        rw [g1] at this
        unfold okR
        by_cases c : m.1 = p
        · rw [if_pos c] at this ⊢
          exact ⟨by rw [← c, e1], this⟩
        · rw [if_neg c] at this ⊢
          exact this
      · have := a2 d
        rw [g2] at this
        unfold okB
        by_cases c : dr ds m = d
        · rw [if_pos c] at this ⊢
          exact ⟨by rw [← c]; exact Ne.symm e2, this⟩
        · rw [if_neg c] at this ⊢
          exact this
      · have := a3 p
        rw [g1] at this
        unfold curR
        by_cases c : m.1 = p
        · rw [if_pos c] at this ⊢
          exact this
        · rw [if_neg c] at this ⊢
          exact this
      · have := a4 d
        rw [g2] at this
        unfold curB
        by_cases c : dr ds m = d
        · rw [if_pos c] at this ⊢
          exact this
        · rw [if_neg c] at this ⊢
          exact this
theorem runs_of {ds : List (Nat × Nat)} : ∀ (l : List Mv) (i : Nat) (S : S2), Fits ds S.1.length S.2.length l → (∀ p, p < S.1.length → okR (S.1.getD p 0) p l) → (∀ d, d < S.2.length → okB ds (S.2.getD d 0) d l) → ∃ S', runs ds i S l = .inr S'
  | [], i, S, _, _, _ => ⟨S, rfl⟩
  | m :: t, i, S, hf, h1, h2 => by
    obtain ⟨f1, f2⟩ := hf m List.mem_cons_self
    have l1 : (nxt ds S m).1.length = S.1.length := List.length_set
    have l2 : (nxt ds S m).2.length = S.2.length := List.length_set
    have g1 : ∀ p, (nxt ds S m).1.getD p 0 = if m.1 = p then m.2.2 else S.1.getD p 0 := fun p => getD_set _ _ _ _ f1
    have g2 : ∀ d, (nxt ds S m).2.getD d 0 = if dr ds m = d then m.1 else S.2.getD d 0 := fun d => getD_set _ _ _ _ f2
    have a1 := h1 m.1 f1
    have a2 := h2 (dr ds m) f2
    unfold okR at a1
    unfold okB at a2
    rw [if_pos rfl] at a1 a2
    have hw : why ds S m = none := by
      unfold why
      rw [if_neg (by rw [a1.1]; simp), if_neg (Ne.symm a2.1)]
    rw [runs, hw]
    refine runs_of t (i + 1) (nxt ds S m) (fun m' hm => by rw [l1, l2]; exact hf m' (List.mem_cons_of_mem _ hm)) (fun p hp => ?_) (fun d hd => ?_)
    · rw [l1] at hp
      have := h1 p hp
      unfold okR at this
      rw [g1]
      by_cases c : m.1 = p
      · rw [if_pos c] at this ⊢
        exact this.2
      · rw [if_neg c] at this ⊢
        exact this
    · rw [l2] at hd
      have := h2 d hd
      unfold okB at this
      rw [g2]
      by_cases c : dr ds m = d
      · rw [if_pos c] at this ⊢
        exact this.2
      · rw [if_neg c] at this ⊢
        exact this
theorem ext_getD {A B : List Nat} (hl : A.length = B.length) (h : ∀ i, A.getD i 0 = B.getD i 0) : A = B := by
  refine List.ext_getElem? fun i => ?_
  have := h i
  rw [List.getD_eq_getElem?_getD, List.getD_eq_getElem?_getD] at this
  by_cases c : i < A.length
  · rw [List.getElem?_eq_getElem c, List.getElem?_eq_getElem (by omega)] at this ⊢
    exact congrArg some this
  · rw [List.getElem?_eq_none (by omega), List.getElem?_eq_none (by omega)]
/-- two plans that are alike person by person and door by door do the same -/
theorem runs_alike {ds : List (Nat × Nat)} {l l' : List Mv} {S S' : S2} {i : Nat} (hf : Fits ds S.1.length S.2.length l) (hf' : Fits ds S.1.length S.2.length l') (h : runs ds i S l = .inr S')
    (hp : ∀ p, (l'.filter fun m => decide (m.1 = p)) = l.filter fun m => decide (m.1 = p)) (hd : ∀ d, (l'.filter fun m => decide (dr ds m = d)) = l.filter fun m => decide (dr ds m = d)) (j : Nat) : runs ds j S l' = .inr S' := by
  obtain ⟨a1, a2, a3, a4, a5, a6⟩ := runs_to l i S S' hf h
  obtain ⟨S'', h2⟩ := runs_of l' j S hf' (fun p _ => by rw [← okR_filter, hp, okR_filter]; exact a1 p) (fun d _ => by rw [← okB_filter, hd, okB_filter]; exact a2 d)
  obtain ⟨_, _, b3, b4, b5, b6⟩ := runs_to l' j S S'' hf' h2
  rw [h2]
  have e1 : S''.1 = S'.1 := ext_getD (by rw [b5, a5]) fun p => by rw [b3, a3, ← curR_filter, hp, curR_filter]
  have e2 : S''.2 = S'.2 := ext_getD (by rw [b6, a6]) fun d => by rw [b4, a4, ← curB_filter, hd, curB_filter]
  obtain ⟨x1, x2⟩ := S''
  obtain ⟨y1, y2⟩ := S'
  simp only at e1 e2
  rw [e1, e2]
theorem runs_app {ds : List (Nat × Nat)} : ∀ {l1 l2 : List Mv} {i j : Nat} {S S' : S2}, runs ds i S (l1 ++ l2) = .inr S' → ∃ S1, runs ds j S l1 = .inr S1 ∧ ∀ k, runs ds k S1 l2 = .inr S'
  | [], l2, i, j, S, S', h => by
    refine ⟨S, rfl, fun k => ?_⟩
    have gen : ∀ (l : List Mv) (i k : Nat) (S S' : S2), runs ds i S l = .inr S' → runs ds k S l = .inr S' := by
      intro l
      induction l with
      | nil => intro i k S S' h; exact h
      | cons m t ih =>
        intro i k S S' h
        rw [runs] at h ⊢
        cases e : why ds S m with
        | some w => rw [e] at h; cases h
        | none => rw [e] at h; exact ih _ _ _ _ h
    exact gen _ _ _ _ _ h
  | m :: t, l2, i, j, S, S', h => by
    rw [List.cons_append, runs] at h
    cases e : why ds S m with
    | some w => rw [e] at h; cases h
    | none =>
      rw [e] at h
      obtain ⟨S1, h1, h2⟩ := runs_app (j := j + 1) h
      exact ⟨S1, by rw [runs, e]; exact h1, h2⟩
end K5

namespace L2
open PySem PySem.Spec PyProof.Rows
/-- an __init__ of the text -/
def IniD (K : PySem.W.Frag) (C : Addr) (qual : Str) (st : Stmt) : Prop := ∃ (f : Addr) (fd : FuncData), Fun K "__init__" qual st f fd ∧ Mk K C f
def CalI (P : Program) (w : World) (K : PySem.W.Frag) (mg : Str → Option Value) (base : Heap) (C : Addr) (ps : List Str) (k : Nat) (sp : Sp) : Prop :=
  ∃ (f : Addr) (fd : FuncData), Mk K C f ∧ Binds K fd ps [] ∧ FnOk P w K mg base CX0 k f fd ps sp
theorem IniD.ok {P : Program} {w : World} {K : PySem.W.Frag} {mg : Str → Option Value} {base : Heap} {C : Addr} {qual : Str} {st : Stmt} {N ps : List Str} {k : Nat} {sp : Sp} (D : IniD K C qual st) (S : FnScope N ps (defScope st))
    (hb : ∀ (kV doc pm : Value) (an : Option Addr) (cdv ct : Value) (us : List Value), us.length = ps.length → bindArgs (PySem.W.fnOf "__init__" qual (defArgs st) (defBody st) (defScope st) .none kV doc pm an cdv ct) ⟨us, []⟩ = pure (ps.zip us))
    (ar : ∀ vs H Q E, sp vs H Q E → vs.length = ps.length)
    (hbody : ∀ (f : Addr) (cdv : Value) (A : Around) (outer : List Env) (s : Shared) (H : Hp) (vs : List V) (Q : VK) (E : XK), Room k (A.deeper (envOfC qual (defScope st) s.heap.objs.size f cdv)) → sp vs H Q E →
      ∃ t, PSs (cxOf CX0 P w K mg base N qual (defScope st) f cdv A outer s H E).nox (defBody st) t ∧ t { nx := fun _ H' => Q .non H', rt := Q } (start N vs) H) : CalI P w K mg base C ps (k + 1) sp := by
  obtain ⟨f, fd, F, me⟩ := D
  exact ⟨f, fd, me, F.binds hb, F.ok S ar fun cdv A outer s H vs Q E hr h => hbody f cdv A outer s H vs Q E hr h⟩
end L2
namespace K5
open PySem PySem.Spec PyProof.Rows L2
def dE (e : Nat × Nat) : PyData := .tuple [.int (e.1 : Int), .int (e.2 : Int)]
def dH (ds : List (Nat × Nat)) : PyData := .tuple (ds.map dE)
section
variable {K : PySem.W.Frag} {H : Hp} {a s : Addr} {ds : List (Nat × Nat)} {S : S2}
theorem dp_Es : ∀ (rs : List Addr) (ds : List (Nat × Nat)), rs.length = ds.length → (∀ (d : Nat) (r : Addr) (e : Nat × Nat), rs[d]? = some r → ds[d]? = some e → SqT K H r [.int e.1, .int e.2]) → DpAll K H (rs.map V.ref) (ds.map dE)
  | [], [], _, _ => .nil
  | [], _ :: _, h, _ => by simp at h
  | _ :: _, [], h, _ => by simp at h
  | r :: rs, e :: ds, h, hd => .cons (.tup (hd 0 r e rfl rfl) (.cons (.int _) (.cons (.int _) .nil))) (dp_Es rs ds (by simpa using h) fun d r' e' x y => hd (d + 1) r' e' x y)
theorem dp_H (h : HouseAt K H a ds) : Dp K H (.ref a) (dH ds) := by
  obtain ⟨rs, h1, h2, h3⟩ := h
  exact .tup h1 (dp_Es rs ds h2 h3)
theorem dE_lay (z : Nat × Nat) : (dE z).canLay0 = true := by simp [dE, PyData.canLay0, PyData.canLayAll0]
theorem dEs_lay : ∀ zs : List (Nat × Nat), PyData.canLayAll0 (zs.map dE) = true
  | [] => by simp [PyData.canLayAll0]
  | z :: zs => by simp [PyData.canLayAll0, dE_lay z, dEs_lay zs]
theorem dE_depth (z : Nat × Nat) : (dE z).depth ≤ 2 := by simp [dE, PyData.depth, PyData.depthAll]
theorem dEs_depth : ∀ zs : List (Nat × Nat), PyData.depthAll (zs.map dE) ≤ 2
  | [] => by simp [PyData.depthAll]
  | z :: zs => by
    have h1 := dEs_depth zs
    have h2 := dE_depth z
    simp only [List.map_cons, PyData.depthAll]
    omega
theorem dH_shaped (ds : List (Nat × Nat)) : SeqAt.shaped (dH ds) = true := by
  have := dEs_depth ds
  refine shaped_mk ?_ ?_
  · simp only [dH, PyData.canLay0]
    exact dEs_lay ds
  · simp only [dH, PyData.depth]
    omega
end
theorem eqvAll_is : ∀ l m : List Nat, PyData.eqvAll (dIs l) (dIs m) = decide (l = m)
  | [], [] => by simp [dIs, PyData.eqvAll]
  | [], _ :: _ => by simp [dIs, PyData.eqvAll]
  | _ :: _, [] => by simp [dIs, PyData.eqvAll]
  | x :: l, y :: m => by
    have ih := eqvAll_is l m
    have hx : (((x : Int) == (y : Int)) : Bool) = decide (x = y) := by
      by_cases c : x = y
      · subst c; simp
      · rw [decide_eq_false c]
        simp
        omega
    unfold dIs at ih ⊢
    simp only [List.map_cons, PyData.eqvAll, PyData.eqv, ih, hx]
    by_cases c : x = y <;> by_cases d : l = m <;> simp [c, d]
theorem dS_eqv (A B : S2) : PyData.eqv (dS A) (dS B) = decide (A = B) := by
  obtain ⟨a, b⟩ := A
  obtain ⟨c, d⟩ := B
  simp only [dS, PyData.eqv, PyData.eqvAll, eqvAll_is, Bool.and_true, Prod.mk.injEq, Bool.decide_and]
theorem int_beq (x y : Nat) : (((x : Int) == (y : Int)) : Bool) = decide (x = y) := by
  by_cases c : x = y
  · subst c; simp
  · rw [decide_eq_false c]
    simp
    omega
theorem dM_eqv (a b : Mv) : PyData.eqv (dM a) (dM b) = decide (a = b) := by
  obtain ⟨a1, a2, a3⟩ := a
  obtain ⟨b1, b2, b3⟩ := b
  simp only [dM, PyData.eqv, PyData.eqvAll, int_beq, Bool.and_true, Prod.mk.injEq, Bool.decide_and]
theorem dMs_eqv : ∀ l m : List Mv, PyData.eqv (dMs l) (dMs m) = decide (l = m) := by
  intro l m
  exact g l m
  where g : ∀ l m : List Mv, PyData.eqvAll (l.map dM) (m.map dM) = decide (l = m)
    | [], [] => by simp [PyData.eqvAll]
    | [], _ :: _ => by simp [PyData.eqvAll]
    | _ :: _, [] => by simp [PyData.eqvAll]
    | x :: l, y :: m => by
      have ih := g l m
      simp only [List.map_cons, PyData.eqvAll, ih, dM_eqv]
      by_cases c : x = y <;> by_cases d : l = m <;> simp [c, d]
abbrev sesF1 (a : Addr) : List (Str × V) := [("house", .ref a)]
abbrev sesF2 (a pd : Addr) : List (Str × V) := [("house", .ref a), ("doors", .ref pd)]
abbrev sesF3 (a pd s : Addr) : List (Str × V) := [("house", .ref a), ("doors", .ref pd), ("here", .ref s)]
abbrev sesF4 (a pd s mm : Addr) : List (Str × V) := [("house", .ref a), ("doors", .ref pd), ("here", .ref s), ("made", .ref mm)]
abbrev sesF (a pd s mm ss : Addr) : List (Str × V) := [("house", .ref a), ("doors", .ref pd), ("here", .ref s), ("made", .ref mm), ("steps", .ref ss)]
abbrev sesN : List Str := ["house", "doors", "here", "made", "steps"]
/-- a session at se, new since the heap B -/
structure SesAt (K : PySem.W.Frag) (C : Addr) (B H : Hp) (se a : Addr) (ds : List (Nat × Nat)) (S : S2) (l : List Mv) (j : Nat) : Prop where
  ex : ∃ (dx pd s mm ss : Addr) (kvs : List (List Key × V)) (ts : List Addr) (us : List V), H se = some (.ins C dx (sesF a pd s mm ss)) ∧ H pd = some (.dT kvs) ∧ DrD ds ds.length kvs ∧ StateAt K H s S ∧ H mm = some (.lst (ts.map V.ref)) ∧ TL H ts l ∧
    H ss = some (.lst us) ∧ us.length ≤ j ∧ mm ≠ ss ∧ B se = none ∧ B mm = none ∧ B ss = none
  house : HouseAt K B a ds
  sm : Same B H
theorem SesAt.same {K C B H H' se a ds S l j} (h : SesAt K C B H se a ds S l j) (s : Same H H') : SesAt K C B H' se a ds S l j := by
  obtain ⟨⟨dx, pd, st, mm, ss, kvs, ts, us, h1, h2, h3, h4, h5, h6, h7, h8, h9, h10, h11, h12⟩, hh, sm⟩ := h
  exact ⟨⟨dx, pd, st, mm, ss, kvs, ts, us, s _ _ h1, s _ _ h2, h3, h4.same s, s _ _ h5, h6.same s, s _ _ h7, h8, h9, h10, h11, h12⟩, hh, sm.trans s⟩
def spSesI (K : PySem.W.Frag) (C : Addr) : Sp := fun vs H Q _ => ∃ (x a s dx : Addr) (n : Nat) (ds : List (Nat × Nat)) (S : S2) (B : Hp), vs = [.ref x, .ref a, .ref s] ∧ H x = some (.ins C dx []) ∧ Same B H ∧ B x = none ∧ HouseAt K B a ds ∧ Tree n ds ∧ n ≤ 1000 ∧ StateAt K B s S ∧ StOk n ds S ∧
  ∀ H', Same B H' → SesAt K C B H' x a ds S [] 0 → Q .non H'
def spSesMake (K : PySem.W.Frag) (C : Addr) : Sp := fun vs H Q _ => ∃ (se a pl : Addr) (n j : Nat) (ds : List (Nat × Nat)) (S S' : S2) (l0 l : List Mv) (B : Hp), vs = [.ref se, .ref pl] ∧ Same B H ∧ SesAt K C B H se a ds S l0 j ∧ j ≤ 100 ∧ l0.length ≤ 500 ∧ l.length ≤ 500 ∧ Tree n ds ∧ n ≤ 1000 ∧ StOk n ds S ∧ TrisAt B pl l ∧ (∀ m ∈ l, VM ds S.1.length m) ∧ runs ds 0 S l = .inr S' ∧
  ∀ (H' : Hp) (q : Addr), Same B H' → SesAt K C B H' se a ds S' (l0 ++ l) (j + 1) → StateAt K H' q S' → Q (.ref q) H'
def spSesMoves (K : PySem.W.Frag) (C : Addr) : Sp := fun vs H Q _ => ∃ (se a : Addr) (j : Nat) (ds : List (Nat × Nat)) (S : S2) (l : List Mv) (B : Hp), vs = [.ref se] ∧ SesAt K C B H se a ds S l j ∧ l.length ≤ 1000 ∧ ∀ (H' : Hp) (q : Addr), Same H H' → TrisAt H' q l → Q (.ref q) H'
def spSesEq (K : PySem.W.Frag) (C : Addr) : Sp := fun vs H Q _ => ∃ (x y a : Addr) (j1 j2 : Nat) (ds : List (Nat × Nat)) (S1 S2 : S2) (l1 l2 : List Mv) (B1 B2 : Hp) , vs = [.ref x, .ref y] ∧ SesAt K C B1 H x a ds S1 l1 j1 ∧ SesAt K C B2 H y a ds S2 l2 j2 ∧ (∀ r, (r = true → l1 = l2) → (S1 = S2 → l1 = l2 → r = true) → Q (.bl r) H)
theorem SqT.off {K : PySem.W.Frag} {H : Hp} {a b : Addr} {xs : List V} {C dx : Addr} {fs : List (Str × V)} {o : HO} (hb : H b = some (.ins C dx fs)) (h : SqT K H a xs) : SqT K (upd H b o) a xs := by
  rcases h with (z | ⟨o', z⟩) | z
  · exact .inl (.inl (by rw [upd_ne (fun e => by rw [e, hb] at z; cases z)]; exact z))
  · exact .inl (.inr ⟨o', by rw [upd_ne (fun e => by rw [e, hb] at z; cases z)]; exact z⟩)
  · exact .inr z
section
variable {P : Program} {w : World} {K : PySem.W.Frag} {mg : Str → Option Value} {base : Heap} {C_Session : Addr}
theorem ok_Session_init (T : Bl mg) (cl_Session : ClsD K mg "Session" C_Session sesN) (D : IniD K C_Session "Session.__init__" s_Session_init) (C_need_state : Cal P w K mg base "need_state" ["house", "state"] 7 (spSt K)) (C_doors_by_ends : Cal P w K mg base "doors_by_ends" ["house"] 1 (spDoors K)) :
    CalI P w K mg base C_Session ["self", "house", "state"] 8 (spSesI K C_Session) := by
  refine D.ok sc_Session_init (fun _ _ _ _ _ _ us hl => match us, hl with | [_, _, _], _ => rfl) (fun vs H Q E h => ?_) (fun f cdv A outer s0 H vs Q E hr h => ?_)
  · obtain ⟨x, a, s, dx, n, ds, S, B, rfl, _⟩ := h
    rfl
  obtain ⟨x, a, s, dx, n, ds, S, B, rfl, hx, sB, nx, hH, tree, hn, st, ok, q⟩ := h
  have cls := cl_Session.cl
  have no := cl_Session.no
  obtain ⟨f_need_state, fd_need_state, g_need_state, k_need_state, b_need_state, G_need_state⟩ := C_need_state
  obtain ⟨f_doors_by_ends, fd_doors_by_ends, g_doors_by_ends, k_doors_by_ends, b_doors_by_ends, G_doors_by_ends⟩ := C_doors_by_ends
  refine ⟨_, (pss_cons (ps_expr (pe_call G_need_state (hr.mono (by decide)) (by rfl) g_need_state k_need_state b_need_state .nil pass0 (pa_cons (pv 1) (pa_cons (pv 2) pa_nil))))
    (pss_cons (ps_fld (pv 0) (pv 1) (by rfl))
    (pss_cons (ps_fld (pv 0) (pe_call G_doors_by_ends (hr.mono (by decide)) (by rfl) g_doors_by_ends k_doors_by_ends b_doors_by_ends .nil pass0 (pa_cons (pv 1) pa_nil)) (by rfl))
    (pss_cons (ps_fld (pv 0) (pv 2) (by rfl))
    (pss_cons (ps_fld (pv 0) (pe_lst pa_nil) (by rfl))
    (pss_one (ps_fld (pv 0) (pe_lst pa_nil) (by rfl)))))))), ?_⟩
  refine ⟨_, rfl, _, rfl, a, s, ds, n, S, rfl, hH.same sB, tree, hn, st.same sB, ok, fun H1 s1 => ?_⟩
  have hx1 := s1 _ _ hx
  have sB1 := sB.trans s1
  refine ⟨_, rfl, _, rfl, x, C_Session, dx, [], rfl, hx1, cls, no _ (by decide), by decide, ?_⟩
  have s2 : Same B (upd H1 x (.ins C_Session dx (sesF1 a))) := sB1.at nx
  have hx2 : (upd H1 x (.ins C_Session dx (sesF1 a))) x = some (.ins C_Session dx (sesF1 a)) := upd_same
  rw [show putF "house" (V.ref a) [] = (sesF1 a) from rfl]
  generalize upd H1 x (.ins C_Session dx (sesF1 a)) = H2 at s2 hx2
  refine ⟨_, rfl, a, ds, n, rfl, hH.same s2, tree, hn, fun H3 pd kvs s3 npd hpd dr => ?_⟩
  have hx3 := s3 _ _ hx2
  have s13 := s2.trans s3
  have npx : pd ≠ x := (ne_of_none hx2 npd).symm
  refine ⟨_, rfl, x, C_Session, dx, _, rfl, hx3, cls, no _ (by decide), by show 1 < 1000; decide, ?_⟩
  have s4 : Same B (upd H3 x (.ins C_Session dx (sesF2 a pd))) := s13.at nx
  have hx4 : (upd H3 x (.ins C_Session dx (sesF2 a pd))) x = some (.ins C_Session dx (sesF2 a pd)) := upd_same
  have hpd4 : (upd H3 x (.ins C_Session dx (sesF2 a pd))) pd = some (.dT kvs) := by rw [upd_ne npx]; exact hpd
  rw [show putF "doors" (V.ref pd) (sesF1 a) = (sesF2 a pd) from rfl]
  generalize upd H3 x (.ins C_Session dx (sesF2 a pd)) = H4 at s4 hx4 hpd4
  refine ⟨_, rfl, _, rfl, x, C_Session, dx, _, rfl, hx4, cls, no _ (by decide), by show 2 < 1000; decide, ?_⟩
  have s5 : Same B (upd H4 x (.ins C_Session dx (sesF3 a pd s))) := s4.at nx
  have hx5 : (upd H4 x (.ins C_Session dx (sesF3 a pd s))) x = some (.ins C_Session dx (sesF3 a pd s)) := upd_same
  have hpd5 : (upd H4 x (.ins C_Session dx (sesF3 a pd s))) pd = some (.dT kvs) := by rw [upd_ne npx]; exact hpd4
  rw [show putF "here" (V.ref s) (sesF2 a pd) = (sesF3 a pd s) from rfl]
  generalize upd H4 x (.ins C_Session dx (sesF3 a pd s)) = H5 at s5 hx5 hpd5
  refine ⟨Nat.zero_le _, fun mm nmm => ⟨_, rfl, x, C_Session, dx, _, rfl, (Same.upd nmm) _ _ hx5, cls, no _ (by decide), by show 3 < 1000; decide, ?_⟩⟩
  have nmx : mm ≠ x := (ne_of_none hx5 nmm).symm
  have smm := Same.upd (o := .lst []) nmm
  have s6 : Same B (upd (upd H5 mm (.lst [])) x (.ins C_Session dx (sesF4 a pd s mm))) := (s5.trans smm).at nx
  have hx6 : (upd (upd H5 mm (.lst [])) x (.ins C_Session dx (sesF4 a pd s mm))) x = some (.ins C_Session dx (sesF4 a pd s mm)) := upd_same
  have hpd6 : (upd (upd H5 mm (.lst [])) x (.ins C_Session dx (sesF4 a pd s mm))) pd = some (.dT kvs) := by rw [upd_ne npx]; exact smm _ _ hpd5
  have hmm6 : (upd (upd H5 mm (.lst [])) x (.ins C_Session dx (sesF4 a pd s mm))) mm = some (.lst []) := by rw [upd_ne nmx, upd_same]
  have nmm0 := s5.free nmm
  rw [show putF "made" (V.ref mm) (sesF3 a pd s) = (sesF4 a pd s mm) from rfl]
  generalize upd (upd H5 mm (.lst [])) x (.ins C_Session dx (sesF4 a pd s mm)) = H6 at s6 hx6 hpd6 hmm6
  refine ⟨Nat.zero_le _, fun ss nss => ⟨_, rfl, x, C_Session, dx, _, rfl, (Same.upd nss) _ _ hx6, cls, no _ (by decide), by show 4 < 1000; decide, ?_⟩⟩
  have nsx : ss ≠ x := (ne_of_none hx6 nss).symm
  have sss := Same.upd (o := .lst []) nss
  have s7 := (s6.trans sss).at (o := .ins C_Session dx (sesF a pd s mm ss)) nx
  exact q _ s7 ⟨⟨dx, pd, s, mm, ss, kvs, [], [], upd_same, by rw [upd_ne npx]; exact sss _ _ hpd6, dr, st.same s7, by rw [upd_ne nmx]; exact sss _ _ hmm6, TL.nil, by rw [upd_ne nsx, upd_same], Nat.le_refl _, ne_of_none hmm6 nss, nx, nmm0, s6.free nss⟩, hH, s7⟩
theorem ok_Session_moves (T : Bl mg) (cl_Session : ClsD K mg "Session" C_Session sesN) (D : MetD K C_Session "moves" "Session.moves" s_Session_moves) : CalM P w K mg base C_Session "moves" ["self"] 1 (spSesMoves K C_Session) := by
  refine D.ok sc_Session_moves (fun _ _ _ _ _ _ us hl => match us, hl with | [_], _ => rfl) (fun vs H Q E h => ?_) (fun f cdv A outer s0 H vs Q E hr h => ?_)
  · obtain ⟨se, a, j, ds, S, l, B, rfl, _⟩ := h
    rfl
  obtain ⟨se, a, j, ds, S, l, B, rfl, ses, ll, q⟩ := h
  obtain ⟨⟨dx, pd, s, mm, ss, kvs, ts, us, h1, h2, h3, h4, h5, h6, h7, h8, h9, h10, h11, h12⟩, hH, smB⟩ := id ses
  have cls := cl_Session.cl
  have no := cl_Session.no
  skip
  refine ⟨_, (pss_one (ps_ret (pe_callTy call_list_of (by rfl) T.list (by decide +kernel) (pa_cons (pe_fld (pv 0) rfl) pa_nil)))), ?_⟩
  refine ⟨_, rfl, se, C_Session, dx, _, .ref mm, rfl, h1, cls, no _ (by decide), rfl, mm, _, rfl, .inl (SqL.of h5), fun p np => ?_⟩
  exact q _ p (Same.upd np) ⟨ts, upd_same, h6.same (Same.upd np)⟩
theorem ok_Session_make (T : Bl mg) (cl_Session : ClsD K mg "Session" C_Session sesN) (D : MetD K C_Session "make" "Session.make" s_Session_make) (C_played : Cal P w K mg base "played" ["doors", "state", "plan"] 1 (spPlayedG K)) : CalM P w K mg base C_Session "make" ["self", "plan"] 2 (spSesMake K C_Session) := by
  refine D.ok sc_Session_make (fun _ _ _ _ _ _ us hl => match us, hl with | [_, _], _ => rfl) (fun vs H Q E h => ?_) (fun f cdv A outer s0 H vs Q E hr h => ?_)
  · obtain ⟨se, a, pl, n, j, ds, S, S', l0, l, B, rfl, _⟩ := h
    rfl
  obtain ⟨se, a, pl, n, j, ds, S, S', l0, l, B, rfl, sB, ses, hj, ll0, ll, tree, hn, ok, tr, vm, run, q⟩ := h
  obtain ⟨⟨dx, pd, s, mm, ss, kvs, ts, us, h1, h2, h3, h4, h5, h6, h7, h8, h9, h10, h11, h12⟩, hH, smB⟩ := id ses
  obtain ⟨tp, htp, tlp⟩ := id (tr.same sB)
  have cls := cl_Session.cl
  have no := cl_Session.no
  obtain ⟨f_played, fd_played, g_played, k_played, b_played, G_played⟩ := C_played
  refine ⟨_, (pss_cons (ps_set (i := 2) sc_Session_make.nd rfl (.inl rfl) (pe_call G_played (hr.mono (by decide)) (by rfl) g_played k_played b_played .nil pass0 (pa_cons (pe_fld (pv 0) rfl) (pa_cons (pe_fld (pv 0) rfl) (pa_cons (pv 1) pa_nil)))))
    (pss_cons (ps_expr (pe_bm PySem.F.plainAttrs_list PySem.F.slot_list_append PySem.F.type_list_append mt_append (pe_fld (pv 0) rfl) (pa_cons (pe_tup (pa_cons (pe_callB call_len_seq (by rfl) T.len PySem.boot_len (pa_cons (pe_fld (pv 0) rfl) pa_nil)) (pa_cons (pe_fld (pv 0) rfl) pa_nil))) pa_nil)))
    (pss_cons (ps_expr (pe_bm PySem.F.plainAttrs_list PySem.F.slot_list_extend PySem.F.type_list_extend mt_extend (pe_fld (pv 0) rfl) (pa_cons (pe_callTy call_list_of (by rfl) T.list (by decide +kernel) (pa_cons (pv 1) pa_nil)) pa_nil)))
    (pss_cons (ps_fld (pv 0) (pv 2) (by rfl))
    (pss_one (ps_ret (pv 2))))))), ?_⟩
  refine ⟨_, rfl, se, C_Session, dx, _, .ref pd, rfl, h1, cls, no _ (by decide), rfl, _, rfl, se, C_Session, dx, _, .ref s, rfl, h1, cls, no _ (by decide), rfl, _, rfl, pd, s, pl, n, ds, kvs, S, S', l, rfl, h2, h3, tree, hn, h4, ok, ⟨tp, by rw [if_neg (by simp), List.append_nil]; exact htp, tlp⟩, vm, run, fun H1 q1 s1 st1 => ?_⟩
  refine ⟨_, rfl, se, C_Session, dx, _, .ref ss, rfl, s1 _ _ h1, cls, no _ (by decide), rfl, .inl ⟨rfl, _, SqL.of (s1 _ _ h7)⟩, ?_⟩
  have ls : us.length + 1 ≤ 1000 := by omega
  refine ⟨_, rfl, se, C_Session, dx, _, .ref mm, rfl, s1 _ _ h1, cls, no _ (by decide), rfl, mm, _, rfl, .inl (SqL.of (s1 _ _ h5)), ?_⟩
  refine ⟨_, rfl, se, C_Session, dx, _, .ref s, rfl, s1 _ _ h1, cls, no _ (by decide), rfl, ?_⟩
  refine ⟨by show 2 ≤ sizeLine; decide, fun t nt => ⟨ss, us, .ref t, rfl, rfl, (Same.upd nt) _ _ (s1 _ _ h7), small1000 (by omega), ?_⟩⟩
  have st0 := Same.upd (o := .tup [.int ((ts.map V.ref).length : Int), .ref s]) nt
  have sB1 := (sB.trans s1).trans st0
  have hse2 := st0 _ _ (s1 _ _ h1)
  have hpd2 := st0 _ _ (s1 _ _ h2)
  have hmm2 := st0 _ _ (s1 _ _ h5)
  have hss2 := st0 _ _ (s1 _ _ h7)
  have htl2 : TL (upd H1 t (.tup [.int ((ts.map V.ref).length : Int), .ref s])) ts l0 := (h6.same s1).same st0
  have stq2 := st1.same st0
  generalize upd H1 t (.tup [.int ((ts.map V.ref).length : Int), .ref s]) = H2 at st0 sB1 hse2 hpd2 hmm2 hss2 htl2 stq2
  have nse : se ≠ ss := fun e => by rw [e, hss2] at hse2; cases hse2
  have npd : pd ≠ ss := fun e => by rw [e, hss2] at hpd2; cases hpd2
  have nsem : se ≠ mm := fun e => by rw [e, hmm2] at hse2; cases hse2
  have npdm : pd ≠ mm := fun e => by rw [e, hmm2] at hpd2; cases hpd2
  have npds : pd ≠ se := fun e => by rw [e, hse2] at hpd2; cases hpd2
  have sB2 : Same B (upd H2 ss (.lst (us ++ [.ref t]))) := sB1.at h12
  have hse3 : (upd H2 ss (.lst (us ++ [.ref t]))) se = some (.ins C_Session dx (sesF a pd s mm ss)) := by rw [upd_ne nse]; exact hse2
  have hpd3 : (upd H2 ss (.lst (us ++ [.ref t]))) pd = some (.dT kvs) := by rw [upd_ne npd]; exact hpd2
  have hmm3 : (upd H2 ss (.lst (us ++ [.ref t]))) mm = some (.lst (ts.map V.ref)) := by rw [upd_ne h9]; exact hmm2
  have hss3 : (upd H2 ss (.lst (us ++ [.ref t]))) ss = some (.lst (us ++ [.ref t])) := upd_same
  have htl3 : TL (upd H2 ss (.lst (us ++ [.ref t]))) ts l0 := ⟨htl2.1, fun i t' m x y => by rw [upd_ne (ne_lt hss2 (htl2.2 i t' m x y))]; exact htl2.2 i t' m x y⟩
  have stq3 : StateAt K (upd H2 ss (.lst (us ++ [.ref t]))) q1 S' := stq2.but hss2 ((But.refl _ _).upd _)
  generalize upd H2 ss (.lst (us ++ [.ref t])) = H3 at sB2 hse3 hpd3 hmm3 hss3 htl3 stq3
  obtain ⟨tp3, htp3, tlp3⟩ := id (tr.same sB2)
  refine ⟨_, rfl, se, C_Session, dx, _, .ref mm, rfl, hse3, cls, no _ (by decide), rfl, .inl ⟨rfl, _, SqL.of hmm3⟩, ?_⟩
  refine ⟨_, rfl, pl, _, rfl, .inl (SqL.of htp3), fun pc npc => ?_⟩
  have spc := Same.upd (o := .lst (tp3.map V.ref)) npc
  have hse4 := spc _ _ hse3
  have hpd4 := spc _ _ hpd3
  have hmm4 := spc _ _ hmm3
  have hss4 := spc _ _ hss3
  have htl4 := htl3.same spc
  have stq4 := stq3.same spc
  have tlp4 := tlp3.same spc
  have sB3 := sB2.trans spc
  have hpc : (upd H3 pc (.lst (tp3.map V.ref))) pc = some (.lst (tp3.map V.ref)) := upd_same
  generalize upd H3 pc (.lst (tp3.map V.ref)) = H4 at spc hse4 hpd4 hmm4 hss4 htl4 stq4 tlp4 sB3 hpc
  refine ⟨mm, pc, _, _, rfl, rfl, hmm4, hpc, by rw [List.length_map, List.length_map, htl4.1, tlp4.1]; exact Nat.le_of_lt (small1000 (by omega)), ?_⟩
  have tall := htl4.append tlp4
  have sB4 : Same B (upd H4 mm (.lst (ts.map V.ref ++ tp3.map V.ref))) := sB3.at h11
  have hse5 : (upd H4 mm (.lst (ts.map V.ref ++ tp3.map V.ref))) se = some (.ins C_Session dx (sesF a pd s mm ss)) := by rw [upd_ne nsem]; exact hse4
  have hpd5 : (upd H4 mm (.lst (ts.map V.ref ++ tp3.map V.ref))) pd = some (.dT kvs) := by rw [upd_ne npdm]; exact hpd4
  have hss5 : (upd H4 mm (.lst (ts.map V.ref ++ tp3.map V.ref))) ss = some (.lst (us ++ [.ref t])) := by rw [upd_ne h9.symm]; exact hss4
  have hmm5 : (upd H4 mm (.lst (ts.map V.ref ++ tp3.map V.ref))) mm = some (.lst ((ts ++ tp3).map V.ref)) := by rw [upd_same, List.map_append]
  have htl5 : TL (upd H4 mm (.lst (ts.map V.ref ++ tp3.map V.ref))) (ts ++ tp3) (l0 ++ l) := ⟨tall.1, fun i t' m x y => by rw [upd_ne (ne_lt hmm4 (tall.2 i t' m x y))]; exact tall.2 i t' m x y⟩
  have stq5 : StateAt K (upd H4 mm (.lst (ts.map V.ref ++ tp3.map V.ref))) q1 S' := stq4.but hmm4 ((But.refl _ _).upd _)
  generalize upd H4 mm (.lst (ts.map V.ref ++ tp3.map V.ref)) = H5 at sB4 hse5 hpd5 hss5 hmm5 htl5 stq5
  refine ⟨_, rfl, _, rfl, se, C_Session, dx, _, rfl, hse5, cls, no _ (by decide), by show 5 < 1000; decide, ?_⟩
  rw [show putF "here" (V.ref q1) (sesF a pd s mm ss) = sesF a pd q1 mm ss from rfl]
  have sB5 : Same B (upd H5 se (.ins C_Session dx (sesF a pd q1 mm ss))) := sB4.at h10
  have nmse : mm ≠ se := Ne.symm nsem
  have nsse : ss ≠ se := Ne.symm nse
  have stq6 : StateAt K (upd H5 se (.ins C_Session dx (sesF a pd q1 mm ss))) q1 S' := by
    obtain ⟨r, b, w1, w2, w3⟩ := stq5
    exact ⟨r, b, SqT.off hse5 w1, SqT.off hse5 w2, SqT.off hse5 w3⟩
  have htl6 : TL (upd H5 se (.ins C_Session dx (sesF a pd q1 mm ss))) (ts ++ tp3) (l0 ++ l) := ⟨htl5.1, fun i t' m x y => by
    have z := htl5.2 i t' m x y
    rw [upd_ne (fun e => by rw [e, hse5] at z; cases z)]
    exact z⟩
  refine ⟨_, rfl, q _ q1 sB5 ⟨⟨dx, pd, q1, mm, ss, kvs, ts ++ tp3, us ++ [.ref t], upd_same, by rw [upd_ne npds]; exact hpd5, h3, stq6, by rw [upd_ne nmse]; exact hmm5, htl6, by rw [upd_ne nsse]; exact hss5, by rw [List.length_append]; exact Nat.add_le_add_right h8 1, h9, h10, h11, h12⟩, hH, sB5⟩ stq6⟩
theorem ok_Session_play (T : Bl mg) (cl_Session : ClsD K mg "Session" C_Session sesN) (D : MetD K C_Session "play" "Session.play" s_Session_play) (C_need_plan : Cal P w K mg base "need_plan" ["house", "people", "plan"] 7 (spNP K)) (C_Session_make : CalM P w K mg base C_Session "make" ["self", "plan"] 2 (spSesMake K C_Session)) : CalM P w K mg base C_Session "play" ["self", "plan"] 8 (spSesMake K C_Session) := by
  refine D.ok sc_Session_play (fun _ _ _ _ _ _ us hl => match us, hl with | [_, _], _ => rfl) (fun vs H Q E h => ?_) (fun f cdv A outer s0 H vs Q E hr h => ?_)
  · obtain ⟨se, a, pl, n, j, ds, S, S', l0, l, B, rfl, _⟩ := h
    rfl
  obtain ⟨se, a, pl, n, j, ds, S, S', l0, l, B, rfl, sB, ses, hj, ll0, ll, tree, hn, ok, tr, vm, run, q⟩ := h
  obtain ⟨⟨dx, pd, s, mm, ss, kvs, ts, us, h1, h2, h3, h4, h5, h6, h7, h8, h9, h10, h11, h12⟩, hH, smB⟩ := id ses
  obtain ⟨tp, htp, tlp⟩ := id (tr.same sB)
  obtain ⟨r, b, w1, w2, w3⟩ := id h4
  have cls := cl_Session.cl
  have no := cl_Session.no
  have one := ok.one
  obtain ⟨f_need_plan, fd_need_plan, g_need_plan, k_need_plan, b_need_plan, G_need_plan⟩ := C_need_plan
  obtain ⟨f_Session_make, fd_Session_make, M_Session_make, b_Session_make, G_Session_make⟩ := C_Session_make
  refine ⟨_, (pss_cons (ps_expr (pe_call G_need_plan (hr.mono (by decide)) (by rfl) g_need_plan k_need_plan b_need_plan .nil pass0 (pa_cons (pe_fld (pv 0) rfl) (pa_cons (pe_callB call_len_seq (by rfl) T.len PySem.boot_len (pa_cons (pe_ix ix_tup (pe_fld (pv 0) rfl) pe_int (fun _ _ => rfl)) pa_nil)) (pa_cons (pv 1) pa_nil)))))
    (pss_one (ps_ret (pe_meth (pv 0) cl_Session.cl M_Session_make G_Session_make (hr.mono (by decide)) b_Session_make .nil pass0 (pa_cons (pv 1) pa_nil))))), ?_⟩
  refine ⟨_, rfl, se, C_Session, dx, _, .ref a, rfl, h1, cls, no _ (by decide), rfl, ?_⟩
  refine ⟨_, rfl, se, C_Session, dx, _, .ref s, rfl, h1, cls, no _ (by decide), rfl, s, _, 0, V.ref r, rfl, rfl, w1, rfl, r, _, rfl, .inr w2, _, rfl, ?_⟩
  refine ⟨a, pl, S.1.length, n, ds, l, by rw [nv_len]; rfl, hH.same sB, tree, hn, one, ⟨tp, by rw [if_neg (by simp), List.append_nil]; exact htp, tlp⟩, vm, fun H1 s1 => ?_⟩
  refine ⟨_, rfl, se, dx, _, rfl, s1 _ _ h1, rfl, _, rfl, ?_⟩
  exact ⟨se, a, pl, n, j, ds, S, S', l0, l, B, rfl, sB.trans s1, ses.same s1, hj, ll0, ll, tree, hn, ok, tr, vm, run, q⟩
theorem ok_Session_eq (T : Bl mg) (cl_Session : ClsD K mg "Session" C_Session sesN) (ic_Session : C8.InsC K C_Session) (D : MetD K C_Session "__eq__" "Session.__eq__" s_Session_eq) : CalM P w K mg base C_Session "__eq__" ["self", "other"] 1 (spSesEq K C_Session) := by
  refine D.ok sc_Session_eq (fun _ _ _ _ _ _ us hl => match us, hl with | [_, _], _ => rfl) (fun vs H Q E h => ?_) (fun f cdv A outer s0 H vs Q E hr h => ?_)
  · obtain ⟨x, y, a, j1, j2, ds, S1, S2, l1, l2, B1, B2, rfl, _⟩ := h
    rfl
  obtain ⟨x, y, a, j1, j2, ds, S1, S2, l1, l2, B1, B2, rfl, sx, sy, q⟩ := h
  obtain ⟨⟨dx, pd, s, mm, ss, kvs, ts, us, h1, h2, h3, h4, h5, h6, h7, h8, h9, h10, h11, h12⟩, hH, smB⟩ := id sx
  obtain ⟨⟨dx', pd', s', mm', ss', kvs', ts', us', h1', h2', h3', h4', h5', h6', h7', h8', h9', h10', h11', h12'⟩, hH', smB'⟩ := id sy
  have cls := cl_Session.cl
  have no := cl_Session.no
  skip
  refine ⟨_, (pss_cons (ps_if (pt_not (pt_val (pe_callB (C8.call_isC ic_Session) (by rfl) T.isinstance (by decide +kernel) (pa_cons (pv 1) (pa_cons (pe_glob (v := .ref C_Session) rfl cl_Session.g rfl) pa_nil))))) (pss_one (ps_ret pe_bl)) pss_nil)
    (pss_one (ps_ret (pe_and (pe_cmpR (op_eqD hr.units) (pe_fld (pv 0) rfl) (pe_fld (pv 1) rfl) (nomark _)) (pe_and (pe_cmpR (op_eqD hr.units) (pe_fld (pv 0) rfl) (pe_fld (pv 1) rfl) (nomark _)) (pe_one (pe_cmpR (op_eqD hr.units) (pe_fld (pv 0) rfl) (pe_fld (pv 1) rfl) (nomark _)))))))), ?_⟩
  refine ⟨_, rfl, y, dx', _, rfl, h1', ?_⟩
  refine ⟨_, rfl, iteF ?_⟩
  refine ⟨_, rfl, x, C_Session, dx, _, .ref a, rfl, h1, cls, no _ (by decide), rfl, _, rfl, y, C_Session, dx', _, .ref a, rfl, h1', cls, no _ (by decide), rfl, dH ds, dH ds, dp_H (hH.same smB), dp_H (hH.same smB), dH_shaped _, dH_shaped _, ?_⟩
  rw [d_refl (dH_shaped ds)]
  refine ⟨_, rfl, ?_⟩
  rw [if_pos rfl]
  refine ⟨_, rfl, x, C_Session, dx, _, .ref s, rfl, h1, cls, no _ (by decide), rfl, _, rfl, y, C_Session, dx', _, .ref s', rfl, h1', cls, no _ (by decide), rfl, dS S1, dS S2, dp_S h4, dp_S h4', dS_shaped _, dS_shaped _, ?_⟩
  rw [dS_eqv]
  refine ⟨_, rfl, ?_⟩
  by_cases c : S1 = S2
  · rw [decide_eq_true c, if_pos rfl]
    refine ⟨_, rfl, x, C_Session, dx, _, .ref mm, rfl, h1, cls, no _ (by decide), rfl, _, rfl, y, C_Session, dx', _, .ref mm', rfl, h1', cls, no _ (by decide), rfl, dMs l1, dMs l2, dp_Tris ⟨ts, h5, h6⟩, dp_Tris ⟨ts', h5', h6'⟩, dMs_shaped _, dMs_shaped _, ?_⟩
    rw [dMs_eqv]
    exact q _ (fun z => of_decide_eq_true z) (fun _ e => decide_eq_true e)
  · rw [decide_eq_false c, if_neg (by simp)]
    exact q false (fun z => by cases z) (fun e => absurd e c)
end
end K5

namespace K5
open PySem PySem.Spec PyProof.Rows L2
theorem runs_ok {n : Nat} {ds : List (Nat × Nat)} (T : Tree n ds) : ∀ {l : List Mv} {i : Nat} {S S' : S2}, runs ds i S l = .inr S' → StOk n ds S → (∀ m ∈ l, VM ds S.1.length m) → StOk n ds S' ∧ S'.1.length = S.1.length
  | [], i, S, S', h, o, _ => by
    rw [runs] at h
    cases h
    exact ⟨o, rfl⟩
  | m :: r, i, S, S', h, o, vm => by
    rw [runs] at h
    cases e : why ds S m with
    | some w => rw [e] at h; cases h
    | none =>
      rw [e] at h
      obtain ⟨a, b⟩ := runs_ok T h (o.nxt T (vm m List.mem_cons_self)) fun m' hm => by rw [nxt_len]; exact vm m' (List.mem_cons_of_mem _ hm)
      exact ⟨a, by rw [b, nxt_len]⟩
theorem cut_take {α : Type} (xs : List V) (c : Nat) (h : c ≤ xs.length) : cutV xs none (some (c : Int)) = xs.take c := by
  have e : HT.sIx xs.length xs.length (some (c : Int)) = c := by
    show (if (c : Int) < 0 then ((c : Int) + (xs.length : Int)).toNat else min (c : Int).toNat xs.length) = c
    rw [if_neg (by omega)]
    omega
  unfold cutV
  rw [HT.sIx_none, e, List.drop_zero, Nat.sub_zero]
theorem cut_drop {α : Type} (xs : List V) (c : Nat) (h : c ≤ xs.length) : cutV xs (some (c : Int)) none = xs.drop c := by
  have e : HT.sIx xs.length 0 (some (c : Int)) = c := by
    show (if (c : Int) < 0 then ((c : Int) + (xs.length : Int)).toNat else min (c : Int).toNat xs.length) = c
    rw [if_neg (by omega)]
    omega
  unfold cutV
  rw [HT.sIx_none, e, List.take_of_length_le]
  rw [List.length_drop]
  exact Nat.le_refl _
theorem trisTake {H : Hp} {q p : Addr} {ts : List Addr} {l : List Mv} (tl : TL H ts l) (c : Nat) (hc : c ≤ l.length) (np : H p = none) : TrisAt (upd H p (.lst (cutV (ts.map V.ref) none (some (c : Int))))) p (l.take c) := by
  rw [cut_take (α := Nat) _ c (by rw [List.length_map, tl.1]; exact hc), ← List.map_take]
  exact ⟨ts.take c, upd_same, (tl.take c).same (Same.upd np)⟩
theorem trisDrop {H : Hp} {q p : Addr} {ts : List Addr} {l : List Mv} (tl : TL H ts l) (c : Nat) (hc : c ≤ l.length) (np : H p = none) : TrisAt (upd H p (.lst (cutV (ts.map V.ref) (some (c : Int)) none))) p (l.drop c) := by
  rw [cut_drop (α := Nat) _ c (by rw [List.length_map, tl.1]; exact hc), ← List.map_drop]
  exact ⟨ts.drop c, upd_same, (tl.drop c).same (Same.upd np)⟩
theorem TrisAt.plan {H : Hp} {q : Addr} {l : List Mv} (h : TrisAt H q l) : PlanAt H q l false := by
  obtain ⟨ts, h1, h2⟩ := h
  exact ⟨ts, by rw [if_neg (by simp), List.append_nil]; exact h1, h2⟩
theorem TL.some {H : Hp} {ts : List Addr} {l : List Mv} (h : TL H ts l) {H' : Hp} (k : ∀ t xs, H t = some (.tup xs) → H' t = some (.tup xs)) : TL H' ts l := ⟨h.1, fun i t m x y => k _ _ (h.2 i t m x y)⟩
/-- a plan that is newer than the session may be counted to what stood before it -/
theorem SesAt.over {K : PySem.W.Frag} {C : Addr} {B H0 H : Hp} {se a p : Addr} {ds : List (Nat × Nat)} {S : S2} {l l' : List Mv} {j : Nat} (h0 : SesAt K C B H0 se a ds S l j) (s : Same H0 H) (np : H0 p = none) (tr : TrisAt H p l') :
    ∃ B', Same B B' ∧ Same B' H ∧ SesAt K C B' H se a ds S l j ∧ TrisAt B' p l' := by
  obtain ⟨⟨dx, pd, st, mm, ss, kvs, ts, us, h1, h2, h3, h4, h5, h6, h7, h8, h9, h10, h11, h12⟩, hh, sm⟩ := h0.same s
  obtain ⟨⟨dx', pd', st', mm', ss', kvs', ts', us', g1, g2, g3, g4, g5, g6, g7, g8, g9, g10, g11, g12⟩, _, _⟩ := h0
  have e := s _ _ g1
  rw [h1] at e
  cases e
  have n1 : p ≠ se := (ne_of_none g1 np).symm
  have n2 : p ≠ mm := (ne_of_none g5 np).symm
  have n3 : p ≠ ss := (ne_of_none g7 np).symm
  have off : ∀ b, b ≠ se → b ≠ mm → b ≠ ss → (fun b => if b = se ∨ b = mm ∨ b = ss then Option.none else H b) b = H b := fun b x y z => if_neg (by
    intro q
    rcases q with q | q | q
    · exact x q
    · exact y q
    · exact z q)
  have sB : Same B (fun b => if b = se ∨ b = mm ∨ b = ss then Option.none else H b) := fun b o e => by
    rw [off b (ne_of_none e h10) (ne_of_none e h11) (ne_of_none e h12)]
    exact sm _ _ e
  refine ⟨fun b => if b = se ∨ b = mm ∨ b = ss then Option.none else H b, sB, fun b o e => ?_, ⟨⟨dx, pd, st, mm, ss, kvs, ts, us, h1, h2, h3, h4, h5, h6, h7, h8, h9, if_pos (.inl rfl), if_pos (.inr (.inl rfl)), if_pos (.inr (.inr rfl))⟩, hh.same sB, fun b o e => ?_⟩, ?_⟩
  · have e : (if b = se ∨ b = mm ∨ b = ss then Option.none else H b) = some o := e
    by_cases c : b = se ∨ b = mm ∨ b = ss
    · rw [if_pos c] at e
      cases e
    · rw [if_neg c] at e
      exact e
  · have e : (if b = se ∨ b = mm ∨ b = ss then Option.none else H b) = some o := e
    by_cases c : b = se ∨ b = mm ∨ b = ss
    · rw [if_pos c] at e
      cases e
    · rw [if_neg c] at e
      exact e
  · obtain ⟨tp, w1, w2⟩ := tr
    refine ⟨tp, by rw [off p n1 n2 n3]; exact w1, w2.some fun t xs q => ?_⟩
    exact (off t (fun z => by rw [z, h1] at q; cases q) (fun z => by rw [z, h5] at q; cases q) (fun z => by rw [z, h7] at q; cases q)).trans q
def spLDoor (K : PySem.W.Frag) : Sp := fun vs H Q _ => ∃ (a t : Addr) (P n : Nat) (ds : List (Nat × Nat)) (m : Mv), vs = [.ref a, .ref t] ∧ HouseAt K H a ds ∧ Tree n ds ∧ n ≤ 1000 ∧ H t = some (.tup (tI m)) ∧ VM ds P m ∧ ∀ H', Same H H' → Q (.int (dr ds m : Nat)) H'
def spParts (K : PySem.W.Frag) : Sp := fun vs H Q _ => ∃ (a s pl : Addr) (c n : Nat) (ds : List (Nat × Nat)) (S S' : S2) (l : List Mv), vs = [.ref a, .ref s, .ref pl, .int (c : Int)] ∧ HouseAt K H a ds ∧ Tree n ds ∧ n ≤ 1000 ∧ StateAt K H s S ∧ StOk n ds S ∧ TrisAt H pl l ∧ (∀ m ∈ l, VM ds S.1.length m) ∧ l.length ≤ 100 ∧ c ≤ l.length ∧ runs ds 0 S l = .inr S' ∧
  ∀ H', Same H H' → Q (.bl true) H'
section
variable {P : Program} {w : World} {K : PySem.W.Frag} {mg : Str → Option Value} {base : Heap} {C_Session : Addr}
theorem ok_l_door (T : Bl mg) (D : Def K mg "_law_door" s_l_door) (C_l_neighbours : Cal P w K mg base "_law_neighbours" ["_law_doors", "_law_place"] 1 (spNeigh K)) : Cal P w K mg base "_law_door" ["_law_doors", "_law_step"] 3 (spLDoor K) := by
  refine D.ok sc_l_door (fun _ _ _ _ _ _ us hl => match us, hl with | [_, _], _ => rfl) (fun vs H Q E h => ?_) (fun f cdv A outer s0 H vs Q E hr h => ?_)
  · obtain ⟨a, t, PP, n, ds, m, rfl, _⟩ := h
    rfl
  obtain ⟨a, t, PP, n, ds, m, rfl, hH, tree, hn, ht, vm, q⟩ := h
  obtain ⟨f_l_neighbours, fd_l_neighbours, g_l_neighbours, k_l_neighbours, b_l_neighbours, G_l_neighbours⟩ := C_l_neighbours
  refine ⟨_, (pss_one (ps_ret (pe_ix ix_list (pe_lc (own := [("_law_other", 2), ("_law_index", 3)]) (g := gTup K 2 (gCons (gName 2) (gCons (gName 3) gNil)))  (tt := (tTest (tOp rEq (tVar 2) (tOp (rIxT K) (tVar 1) (tC (.int 2)))))) rfl sc_l_door.nd (pi_list (pe_call G_l_neighbours (hr.mono (by decide)) (by rfl) g_l_neighbours k_l_neighbours b_l_neighbours .nil pass0 (pa_cons (pv 0) (pa_cons (pe_ix ix_tup (pv 1) pe_int (fun _ _ => rfl)) pa_nil)))) (blkOk_by (N := N_l_door) (sc := defScope s_l_door) (own := [("_law_other", 2), ("_law_index", 3)]) (by decide +kernel)) (fun _ _ _ _ _ => (pg_tup (n := 2) rfl (pgs_cons (pg_name (i := 2) sc_l_door.nd rfl (.inl rfl) (.inr rfl)) (pgs_cons (pg_name (i := 3) sc_l_door.nd rfl (.inl rfl) (.inr rfl)) pgs_nil)))) (fun _ _ _ _ _ => (pts_one (pt_cmpR op_eq (pv 2) (pe_ix ix_tup (pv 1) pe_int (fun _ _ => rfl)) (nomark _)))) (fun _ _ _ _ _ => (pv 3))) pe_int (fun _ _ => rfl)))), ?_⟩
  refine ⟨_, rfl, _, rfl, t, _, 1, V.int (m.2.1 : Int), rfl, rfl, SqT.of ht, atI_nat (j := 1) rfl, a, ds, n, m.2.1, rfl, hH, tree, hn, fun H1 pq l s1 npq pa mem nd ll => ?_⟩
  obtain ⟨tp, w1, w2, w3⟩ := id pa
  obtain ⟨vm1, dd, jo⟩ := id vm
  have edr : dr ds m = dd := dix_is tree jo
  refine ⟨pq, rfl, ⟨_, SqL.of w1⟩, fun pe npe => ?_⟩
  have ldn := tree.len
  refine lc_list (xs := tp.map V.ref) (fun i H2 => Same H1 H2 ∧ ∃ acc : List Nat, H2 pe = some (.lst (nv acc)) ∧ (∀ d ∈ acc, d = dr ds m) ∧ ((∃ e, e ∈ l.take i ∧ e.1 = m.2.2) → acc ≠ []) ∧ acc.length ≤ i) ⟨Same.upd npe, [], upd_same, fun d hd => (List.not_mem_nil hd).elim, fun ⟨e, he, _⟩ => by rw [List.take_zero] at he; exact (List.not_mem_nil he).elim, Nat.le_refl _⟩ (fun i H2 _ h => SqL.of (h.1 _ _ w1)) ?_ ?_
  · rintro i x H2 ex ⟨s2, acc, hacc, al, nem, lacc⟩
    obtain ⟨tt, ht1, rfl⟩ : ∃ r, tp[i]? = some r ∧ x = V.ref r := by
      rw [List.getElem?_map] at ex
      cases e : tp[i]? with
      | none => rw [e] at ex; cases ex
      | some r => rw [e] at ex; exact ⟨r, rfl, (Option.some.inj ex).symm⟩
    obtain ⟨e, he⟩ : ∃ e, l[i]? = some e := get_of w2.symm (get_lt ht1)
    have hte := s2 _ _ (w3 i tt e ht1 he)
    have til := get_lt he
    have tk : ∀ z, z ∈ l.take (i + 1) → z ∈ l.take i ∨ z = e := fun z hz => by
      rw [List.take_add_one, he] at hz
      rcases List.mem_append.mp hz with hz | hz
      · exact .inl hz
      · exact .inr (by simpa using hz)
    refine ⟨tt, _, rfl, SqT.of hte, rfl, _, _, rfl, _, _, rfl, rfl, rfl, ?_⟩
    refine ⟨_, rfl, _, rfl, t, _, 2, V.int (m.2.2 : Int), rfl, rfl, SqT.of (s2 _ _ (s1 _ _ ht)), atI_nat (j := 2) rfl, rfl, _, rfl, ?_⟩
    by_cases c : e.1 = m.2.2
    · have e1 : decide (V.int (e.1 : Int) = V.int (m.2.2 : Int)) = true := by rw [c]; exact decide_eq_true rfl
      rw [e1]
      refine iteT ⟨_, rfl, _, hacc, by rw [nv_len]; exact small1000 (by omega), s2.at npe, acc ++ [e.2], by rw [upd_same, nv_snoc], fun d hd => ?_, fun _ => by simp, by rw [List.length_append]; exact Nat.add_le_add_right lacc 1⟩
      rcases List.mem_append.mp hd with hd | hd
      · exact al d hd
      · rw [List.mem_singleton.mp hd, edr]
        have := (mem e.1 e.2).mp (List.mem_of_getElem? he)
        rw [c] at this
        exact tree.one_door this jo
    · have e1 : decide (V.int (e.1 : Int) = V.int (m.2.2 : Int)) = false := decide_eq_false fun z => c (by have := V.int.inj z; omega)
      rw [e1]
      refine iteF ⟨s2, acc, hacc, al, fun ⟨z, hz, ez⟩ => ?_, by omega⟩
      rcases tk z hz with hz | hz
      · exact nem ⟨z, hz, ez⟩
      · exact absurd (hz ▸ ez) c
  · rintro H2 ⟨s2, acc, hacc, al, nem, lacc⟩
    rw [List.length_map, w2, List.take_length] at nem
    have ne := nem ⟨(m.2.2, dd), (mem _ _).mpr jo, rfl⟩
    obtain ⟨d0, hd0⟩ : ∃ d, acc[0]? = some d := by
      cases acc with
      | nil => exact absurd rfl ne
      | cons d r => exact ⟨d, rfl⟩
    refine ⟨pe, _, 0, V.int (d0 : Int), rfl, rfl, SqL.of hacc, nv_at hd0, ?_⟩
    rw [al d0 (List.mem_of_getElem? hd0)]
    exact q _ (s1.trans s2)
theorem ok_l_parts_right (T : Bl mg) (cl_Session : ClsD K mg "Session" C_Session sesN) (ic_Session : C8.InsC K C_Session) (ne_Session : PySem.W.findIn K (.ref C_Session) "__ne__" = some (some (.builtin "object.__ne__"))) (D : Def K mg "_law_parts_right" s_l_parts_right) (C_play : Cal P w K mg base "play" ["house", "state", "plan"] 8 (spPlayG K))
    (C_Session_init : CalI P w K mg base C_Session ["self", "house", "state"] 8 (spSesI K C_Session)) (C_Session_play : CalM P w K mg base C_Session "play" ["self", "plan"] 8 (spSesMake K C_Session)) (C_Session_moves : CalM P w K mg base C_Session "moves" ["self"] 1 (spSesMoves K C_Session)) (C_Session_eq : CalM P w K mg base C_Session "__eq__" ["self", "other"] 1 (spSesEq K C_Session)) :
    Cal P w K mg base "_law_parts_right" ["_law_doors", "_law_position", "_law_steps_here", "_law_cut"] 10 (spParts K) := by
  refine D.ok sc_l_parts_right (fun _ _ _ _ _ _ us hl => match us, hl with | [_, _, _, _], _ => rfl) (fun vs H Q E h => ?_) (fun f cdv A outer s0 H vs Q E hr h => ?_)
  · obtain ⟨a, s, pl, c, n, ds, S, S', l, rfl, _⟩ := h
    rfl
  obtain ⟨a, s, pl, c, n, ds, S, S', l, rfl, hH, tree, hn, st, ok, tr, vm, ll, hc, run, q⟩ := h
  obtain ⟨ts, hts, tl⟩ := id tr
  have cls := cl_Session.cl
  have no := cl_Session.no
  obtain ⟨f_play, fd_play, g_play, k_play, b_play, G_play⟩ := C_play
  obtain ⟨f_Session_init, fd_Session_init, M_Session_init, b_Session_init, G_Session_init⟩ := C_Session_init
  obtain ⟨f_Session_play, fd_Session_play, M_Session_play, b_Session_play, G_Session_play⟩ := C_Session_play
  obtain ⟨f_Session_eq, fd_Session_eq, M_Session_eq, b_Session_eq, G_Session_eq⟩ := C_Session_eq
  obtain ⟨f_Session_moves, fd_Session_moves, M_Session_moves, b_Session_moves, G_Session_moves⟩ := C_Session_moves
  refine ⟨_, (pss_cons (ps_set (i := 4) sc_l_parts_right.nd rfl (.inl rfl) (pe_call G_play (hr.mono (by decide)) (by rfl) g_play k_play b_play .nil pass0 (pa_cons (pv 0) (pa_cons (pv 1) (pa_cons (pe_slice sl_list (pv 2) po_none (po_some (pv 3))) pa_nil)))))
    (pss_cons (ps_set (i := 5) sc_l_parts_right.nd rfl (.inl rfl) (pe_call G_play (hr.mono (by decide)) (by rfl) g_play k_play b_play .nil pass0 (pa_cons (pv 0) (pa_cons (pv 1) (pa_cons (pv 2) pa_nil)))))
    (pss_cons (ps_if (pt_cmpR (op_neD hr.units) (pe_call G_play (hr.mono (by decide)) (by rfl) g_play k_play b_play .nil pass0 (pa_cons (pv 0) (pa_cons (pv 4) (pa_cons (pe_slice sl_list (pv 2) (po_some (pv 3)) po_none) pa_nil)))) (pv 5) (nomark _)) (pss_one (ps_ret pe_bl)) pss_nil)
    (pss_cons (ps_set (i := 6) sc_l_parts_right.nd rfl (.inl rfl) (pe_make M_Session_init G_Session_init (hr.mono (by decide)) (by rfl) cl_Session.g b_Session_init .nil pass0 (pa_cons (pv 0) (pa_cons (pv 1) pa_nil))))
    (pss_cons (ps_if (PW.pt (pw_or (pt_cmpR (op_neD hr.units) (pe_meth (pv 6) cl_Session.cl M_Session_play G_Session_play (hr.mono (by decide)) b_Session_play .nil pass0 (pa_cons (pe_slice sl_list (pv 2) po_none (po_some (pv 3))) pa_nil)) (pv 4) (nomark _)) (pw_or1 (pt_cmpR (op_neD hr.units) (pe_meth (pv 6) cl_Session.cl M_Session_play G_Session_play (hr.mono (by decide)) b_Session_play .nil pass0 (pa_cons (pe_slice sl_list (pv 2) (po_some (pv 3)) po_none) pa_nil)) (pv 5) (nomark _))))) (pss_one (ps_ret pe_bl)) pss_nil)
    (pss_one (ps_ret (pe_or (pe_and (pe_cmpR (op_eqD hr.units) (pe_meth0 (pv 6) cl_Session.cl M_Session_moves G_Session_moves (hr.mono (by decide)) b_Session_moves .nil pass0) (pv 2) (nomark _)) (pe_one (pe_cmpR (op_neOwn M_Session_eq.at_ M_Session_eq.fn ne_Session ic_Session.hm G_Session_eq (hr.mono (by decide)) b_Session_eq pass0) (pe_make M_Session_init G_Session_init (hr.mono (by decide)) (by rfl) cl_Session.g b_Session_init .nil pass0 (pa_cons (pv 0) (pa_cons (pv 1) pa_nil))) (pv 6) (nomark _)))) (pe_one (pe_cmpR (op_eqD hr.units) (pv 2) (pe_lst pa_nil) (nomark _))))))))))), ?_⟩
  have el : l = l.take c ++ l.drop c := (List.take_append_drop c l).symm
  obtain ⟨S1, run1, run2⟩ : ∃ S1, runs ds 0 S (l.take c) = .inr S1 ∧ ∀ k, runs ds k S1 (l.drop c) = .inr S' := runs_app (i := 0) (j := 0) (by rw [← el]; exact run)
  have vm1 : ∀ m ∈ l.take c, VM ds S.1.length m := fun m hm => vm m (List.mem_of_mem_take hm)
  have vm2 : ∀ m ∈ l.drop c, VM ds S.1.length m := fun m hm => vm m (List.mem_of_mem_drop hm)
  obtain ⟨ok1, len1⟩ := runs_ok tree run1 ok vm1
  have vm2' : ∀ m ∈ l.drop c, VM ds S1.1.length m := fun m hm => by rw [len1]; exact vm2 m hm
  refine ⟨_, rfl, _, rfl, _, rfl, _, rfl, _, rfl, pl, _, rfl, SqL.of hts, fun p1 np1 => ?_⟩
  have tr1 := trisTake (q := pl) tl c hc np1
  have s1 := Same.upd (o := .lst (cutV (ts.map V.ref) none (some (c : Int)))) np1
  generalize upd H p1 (.lst (cutV (ts.map V.ref) none (some (c : Int)))) = H1 at tr1 s1
  refine ⟨a, s, p1, n, ds, S, S1, l.take c, rfl, hH.same s1, tree, hn, st.same s1, ok, tr1.plan, vm1, run1, fun H2 qm s2 stm => ?_⟩
  have s12 := s1.trans s2
  refine ⟨_, rfl, _, rfl, _, rfl, a, s, pl, n, ds, S, S', l, rfl, hH.same s12, tree, hn, st.same s12, ok, (tr.same s12).plan, vm, run, fun H3 qf s3 stf => ?_⟩
  have s13 := s12.trans s3
  have stm3 := stm.same s3
  refine ⟨_, rfl, _, rfl, _, rfl, _, rfl, _, rfl, pl, _, rfl, SqL.of (s13 _ _ hts), fun p2 np2 => ?_⟩
  have tr2 := trisDrop (q := pl) (tl.same s13) c hc np2
  have s4 := Same.upd (o := .lst (cutV (ts.map V.ref) (some (c : Int)) none)) np2
  generalize upd H3 p2 (.lst (cutV (ts.map V.ref) (some (c : Int)) none)) = H4 at tr2 s4
  have s14 := s13.trans s4
  refine ⟨a, qm, p2, n, ds, S1, S', l.drop c, rfl, hH.same s14, tree, hn, stm3.same s4, ok1, tr2.plan, vm2', run2 0, fun H5 qe s5 ste => ?_⟩
  have s15 := s14.trans s5
  have s35 := s4.trans s5
  refine ⟨_, rfl, dS S', dS S', dp_S ste, dp_S (stf.same s35), dS_shaped _, dS_shaped _, _, rfl, ?_⟩
  rw [d_refl (dS_shaped S')]
  refine iteF ?_
  refine ⟨_, rfl, _, rfl, fun se dx nse ndx hne => ?_⟩
  have sm6 : Same H5 (upd (upd H5 dx (.own se)) se (.ins C_Session dx [])) := (Same.upd ndx).at nse
  refine ⟨se, a, s, dx, n, ds, S, H5, rfl, upd_same, sm6, nse, hH.same s15, tree, hn, st.same s15, ok, fun H6 s6 ses6 => ⟨rfl, ?_⟩⟩
  have stm6 := (stm3.same s35).same s6
  have stf6 := (stf.same s35).same s6
  have s16 := s15.trans s6
  obtain ⟨⟨dx1, pd, s', mm, ss, kvs, tsx, us, h1, _⟩, _, _⟩ := id ses6
  refine ⟨_, rfl, se, dx1, _, rfl, h1, rfl, ?_⟩
  refine ⟨_, rfl, _, rfl, _, rfl, pl, _, rfl, SqL.of (s16 _ _ hts), fun p3 np3 => ?_⟩
  have tr7 := trisTake (q := pl) (tl.same s16) c hc np3
  have s7 := Same.upd (o := .lst (cutV (ts.map V.ref) none (some (c : Int)))) np3
  generalize upd H6 p3 (.lst (cutV (ts.map V.ref) none (some (c : Int)))) = H7 at tr7 s7
  have s17 := s16.trans s7
  have ses7 := ses6.same s7
  have tkl : (l.take c).length ≤ 100 := by rw [List.length_take]; omega
  have dkl : (l.drop c).length ≤ 100 := by rw [List.length_drop]; omega
  obtain ⟨B7, sB7, sB7', ses7', trB7⟩ := ses6.over s7 np3 tr7
  have sH7 : Same H5 B7 := sB7
  refine ⟨se, a, p3, n, 0, ds, S, S1, [], l.take c, B7, rfl, sB7', ses7', by decide, by decide, by omega, tree, hn, ok, trB7, vm1, run1, fun H8 q8 s8 ses8 st8 => ?_⟩
  have s58 : Same H5 H8 := sH7.trans s8
  have s18 := s15.trans s58
  refine ⟨_, rfl, dS S1, dS S1, dp_S st8, dp_S ((stm3.same s35).same s58), dS_shaped _, dS_shaped _, _, rfl, ?_⟩
  rw [d_refl (dS_shaped S1)]
  refine iteF ?_
  obtain ⟨⟨dx2, pd2, s'2, mm2, ss2, kvs2, tsx2, us2, h2, _⟩, _, _⟩ := id ses8
  refine ⟨_, rfl, se, dx2, _, rfl, h2, rfl, ?_⟩
  refine ⟨_, rfl, _, rfl, _, rfl, pl, _, rfl, SqL.of (s18 _ _ hts), fun p4 np4 => ?_⟩
  have tr9 := trisDrop (q := pl) (tl.same s18) c hc np4
  have s9 := Same.upd (o := .lst (cutV (ts.map V.ref) (some (c : Int)) none)) np4
  generalize upd H8 p4 (.lst (cutV (ts.map V.ref) (some (c : Int)) none)) = H9 at tr9 s9
  obtain ⟨B9, sB9, sB9', ses9', trB9⟩ := ses8.over s9 np4 tr9
  have sH9 : Same H5 B9 := sH7.trans sB9
  refine ⟨se, a, p4, n, 1, ds, S1, S', [] ++ l.take c, l.drop c, B9, rfl, sB9', ses9', by decide, by rw [List.nil_append]; omega, by omega, tree, hn, ok1, trB9, vm2', run2 0, fun H10 q10 s10 ses10 st10 => ?_⟩
  have s510 : Same H5 H10 := sH9.trans s10
  have s110 := s15.trans s510
  refine ⟨_, rfl, dS S', dS S', dp_S st10, dp_S ((stf.same s35).same s510), dS_shaped _, dS_shaped _, _, rfl, ?_⟩
  rw [d_refl (dS_shaped S')]
  refine iteF ?_
  rw [List.nil_append, ← el] at ses10
  obtain ⟨⟨dx3, pd3, s'3, mm3, ss3, kvs3, tsx3, us3, h3, _⟩, _, _⟩ := id ses10
  refine ⟨_, rfl, se, dx3, _, rfl, h3, rfl, ?_⟩
  refine ⟨se, a, 2, ds, S', l, B9, rfl, ses10, by omega, fun H11 q11 s11 tr11 => ?_⟩
  have s111 := s110.trans s11
  refine ⟨_, rfl, dMs l, dMs l, dp_Tris tr11, dp_Tris (tr.same s111), dMs_shaped _, dMs_shaped _, ?_⟩
  rw [d_refl (dMs_shaped l)]
  refine ⟨_, rfl, ?_⟩
  rw [if_pos rfl]
  refine ⟨_, rfl, _, rfl, fun se2 dx4 nse2 ndx4 hne4 => ?_⟩
  refine ⟨se2, a, s, dx4, n, ds, S, H11, rfl, upd_same, (Same.upd ndx4).at nse2, nse2, hH.same s111, tree, hn, st.same s111, ok, fun H12 s12' ses12 => ⟨rfl, ?_⟩⟩
  obtain ⟨⟨dx5, pd5, s'5, mm5, ss5, kvs5, tsx5, us5, h5, _⟩, _, _⟩ := id ses12
  have s112 := s111.trans s12'
  have ses10' := (ses10.same s11).same s12'
  refine ⟨_, rfl, se2, dx5, _, se, dx3, _, rfl, rfl, h5, s12' _ _ (s11 _ _ h3), ?_⟩
  refine ⟨se2, se, a, 0, 2, ds, S, S', [], l, H11, B9, rfl, ses12, ses10', fun r hr1 hr2 => ⟨r, rfl, ?_⟩⟩
  refine ⟨_, rfl, ?_⟩
  cases r with
  | false =>
    exact iteT (q _ s112)
  | true =>
    have e0 : l = [] := (hr1 rfl).symm
    refine iteF ?_
    refine ⟨_, rfl, Nat.zero_le _, fun pe npe => ?_⟩
    have spe := Same.upd (o := .lst []) npe
    refine ⟨dMs l, .list [], dp_Tris ((tr.same s112).same spe), .lst (SqL.of upd_same) .nil, dMs_shaped _, dMs_shaped [], ?_⟩
    rw [e0, show PyData.eqv (dMs []) (.list []) = true from d_refl (dMs_shaped [])]
    exact q _ (s112.trans spe)
end
end K5

namespace K5
open PySem PySem.Spec PyProof.Rows L2
/-- two moves of two people through two doors change places -/
theorem swap_alike (κ : Mv → Bool) (x y : Mv) (h : ¬ (κ x = true ∧ κ y = true)) (A B : List Mv) : (A ++ [y, x] ++ B).filter κ = (A ++ [x, y] ++ B).filter κ := by
  simp only [List.filter_append]
  congr 2
  by_cases hx : κ x = true
  · by_cases hy : κ y = true
    · exact absurd ⟨hx, hy⟩ h
    · rw [List.filter_cons_of_neg hy, List.filter_cons_of_pos hx, List.filter_cons_of_pos hx, List.filter_cons_of_neg hy]
  · by_cases hy : κ y = true
    · rw [List.filter_cons_of_pos hy, List.filter_cons_of_neg hx, List.filter_cons_of_neg hx, List.filter_cons_of_pos hy]
    · rw [List.filter_cons_of_neg hy, List.filter_cons_of_neg hx, List.filter_cons_of_neg hx, List.filter_cons_of_neg hy]
theorem fits_of {n : Nat} {ds : List (Nat × Nat)} {P : Nat} {l : List Mv} (T : Tree n ds) (vm : ∀ m ∈ l, VM ds P m) : Fits ds P ds.length l := fun m hm => by
  obtain ⟨h1, d, j⟩ := vm m hm
  refine ⟨h1, ?_⟩
  unfold dr
  rw [dix_is T j]
  exact joins_lt j
theorem swap_runs {n : Nat} {ds : List (Nat × Nat)} {A B : List Mv} {x y : Mv} {S S' : S2} (T : Tree n ds) (ok : StOk n ds S) (vm : ∀ m ∈ A ++ [x, y] ++ B, VM ds S.1.length m) (run : runs ds 0 S (A ++ [x, y] ++ B) = .inr S') (hp : x.1 ≠ y.1) (hd : dr ds x ≠ dr ds y) : runs ds 0 S (A ++ [y, x] ++ B) = .inr S' := by
  have f1 := fits_of T vm
  have f2 : Fits ds S.1.length ds.length (A ++ [y, x] ++ B) := fun m hm => f1 m (by
    simp only [List.mem_append, List.mem_cons, List.not_mem_nil, or_false] at hm ⊢
    rcases hm with (h | h | h) | h
    · exact .inl (.inl h)
    · exact .inl (.inr (.inr h))
    · exact .inl (.inr (.inl h))
    · exact .inr h)
  rw [← ok.doors] at f1 f2
  refine runs_alike f1 f2 run (fun p => swap_alike _ x y (fun ⟨a, b⟩ => hp ?_) A B) (fun d => swap_alike _ x y (fun ⟨a, b⟩ => hd ?_) A B) 0
  · rw [of_decide_eq_true a, of_decide_eq_true b]
  · rw [of_decide_eq_true a, of_decide_eq_true b]
def spExch (K : PySem.W.Frag) : Sp := fun vs H Q _ => ∃ (a s pl : Addr) (n : Nat) (ds : List (Nat × Nat)) (S S' : S2) (l : List Mv), vs = [.ref a, .ref s, .ref pl] ∧ HouseAt K H a ds ∧ Tree n ds ∧ n ≤ 1000 ∧ StateAt K H s S ∧ StOk n ds S ∧ TrisAt H pl l ∧ (∀ m ∈ l, VM ds S.1.length m) ∧ l.length ≤ 100 ∧ runs ds 0 S l = .inr S' ∧
  ∀ H', Same H H' → Q (.bl true) H'
section
variable {P : Program} {w : World} {K : PySem.W.Frag}
      {mg : Str → Option Value} {base : Heap}
theorem ok_l_exchange_right (T : Bl mg) (D : Def K mg "_law_exchange_right" s_l_exchange_right) (C_play : Cal P w K mg base "play" ["house", "state", "plan"] 8 (spPlayG K)) (C_l_door : Cal P w K mg base "_law_door" ["_law_doors", "_law_step"] 3 (spLDoor K)) : Cal P w K mg base "_law_exchange_right" ["_law_doors", "_law_position", "_law_steps_here"] 9 (spExch K) := by
  refine D.ok sc_l_exchange_right (fun _ _ _ _ _ _ us hl => match us, hl with | [_, _, _], _ => rfl) (fun vs H Q E h => ?_) (fun f cdv A outer s0 H vs Q E hr h => ?_)
  · obtain ⟨a, s, pl, n, ds, S, S', l, rfl, _⟩ := h
    rfl
  obtain ⟨a, s, pl, n, ds, S, S', l, rfl, hH, tree, hn, st, ok, tr, vm, ll, run, q⟩ := h
  obtain ⟨ts, hts, tl⟩ := id tr
  obtain ⟨f_play, fd_play, g_play, k_play, b_play, G_play⟩ := C_play
  obtain ⟨f_l_door, fd_l_door, g_l_door, k_l_door, b_l_door, G_l_door⟩ := C_l_door
  refine ⟨_, (pss_cons (ps_set (i := 3) sc_l_exchange_right.nd rfl (.inl rfl) (pe_call G_play (hr.mono (by decide)) (by rfl) g_play k_play b_play .nil pass0 (pa_cons (pv 0) (pa_cons (pv 1) (pa_cons (pv 2) pa_nil)))))
    (pss_cons (ps_for PassesOwn.never rfl (pi_range1 rfl T.range (pa_cons (pe_op op_sub (pe_callB call_len_seq (by rfl) T.len PySem.boot_len (pa_cons (pv 2) pa_nil)) pe_int) pa_nil)) (pg_name (i := 4) sc_l_exchange_right.nd rfl (.inl rfl))
    (pss_cons (ps_par (i := 5) (j := 6) (by rfl) sc_l_exchange_right.nd rfl rfl (by decide) rfl rfl (pa_cons (pe_ix ix_list (pv 2) (pv 4) (fun _ _ => rfl)) (pa_cons (pe_ix ix_list (pv 2) (pe_op op_add (pv 4) pe_int) (fun _ _ => rfl)) pa_nil)) (by rfl))
    (pss_one (ps_if (PW.pt (pw_and (pt_cmpR op_ne (pe_ix ix_tup (pv 5) pe_int (fun _ _ => rfl)) (pe_ix ix_tup (pv 6) pe_int (fun _ _ => rfl)) (nomark _)) (pw_and1 (pt_cmpR op_ne (pe_call G_l_door (hr.mono (by decide)) (by rfl) g_l_door k_l_door b_l_door .nil pass0 (pa_cons (pv 0) (pa_cons (pv 5) pa_nil))) (pe_call G_l_door (hr.mono (by decide)) (by rfl) g_l_door k_l_door b_l_door .nil pass0 (pa_cons (pv 0) (pa_cons (pv 6) pa_nil))) (nomark _))))) (pss_one (ps_if (pt_cmpR (op_neD hr.units) (pe_call G_play (hr.mono (by decide)) (by rfl) g_play k_play b_play .nil pass0 (pa_cons (pv 0) (pa_cons (pv 1) (pa_cons (pe_op op_cat (pe_op op_cat (pe_slice sl_list (pv 2) po_none (po_some (pv 4))) (pe_lst (pa_cons (pv 6) (pa_cons (pv 5) pa_nil)))) (pe_slice sl_list (pv 2) (po_some (pe_op op_add (pv 4) pe_int)) po_none)) pa_nil)))) (pv 3) (nomark _)) (pss_one (ps_ret pe_bl)) pss_nil)) pss_nil))))
    (pss_one (ps_ret pe_bl)))), ?_⟩
  refine ⟨_, rfl, _, rfl, _, rfl, a, s, pl, n, ds, S, S', l, rfl, hH, tree, hn, st, ok, tr.plan, vm, run, fun H1 qf s1 stf => ?_⟩
  refine ⟨_, rfl, pl, _, rfl, .inl (SqL.of (s1 _ _ hts)), _, _, rfl, rfl, ((l.length : Int) - 1), congrArg (fun z : Nat => [V.int ((z : Int) - 1)]) (by rw [List.length_map, tl.1]), by omega, by omega, ?_⟩
  refine for_range (lo := 0) (n := ((l.length : Int) - 1).toNat) (fun k σ H2 => ∃ y4 y5 y6, σ = [some (.ref a), some (.ref s), some (.ref pl), some (.ref qf), y4, y5, y6] ∧ Same H1 H2) ⟨_, _, _, rfl, Same.refl _⟩ ?_ ?_
  · rintro k σ H2 hk ⟨y4, y5, y6, rfl, s2⟩
    rw [Int.zero_add]
    have s12 := s1.trans s2
    obtain ⟨t1, ht1⟩ : ∃ t, ts[k]? = some t := get_of tl.1 (by omega)
    obtain ⟨t2, ht2⟩ : ∃ t, ts[k + 1]? = some t := get_of tl.1 (by omega)
    obtain ⟨m1, hm1⟩ : ∃ t, l[k]? = some t := get_of rfl (by omega)
    obtain ⟨m2, hm2⟩ : ∃ t, l[k + 1]? = some t := get_of rfl (by omega)
    have g1 := s12 _ _ (tl.2 k t1 m1 ht1 hm1)
    have g2 := s12 _ _ (tl.2 (k + 1) t2 m2 ht2 hm2)
    have v1 := vm m1 (List.mem_of_getElem? hm1)
    have v2 := vm m2 (List.mem_of_getElem? hm2)
    refine ⟨_, rfl, _, rfl, pl, _, _, V.ref t1, rfl, rfl, SqL.of (s12 _ _ hts), atI_nat (by rw [List.getElem?_map, ht1]; rfl), ?_⟩
    refine ⟨_, rfl, _, rfl, _, _, rfl, rfl, pl, _, _, V.ref t2, rfl, rfl, SqL.of (s12 _ _ hts), ?_, _, _, rfl, ?_⟩
    · rw [show (k : Int) + 1 = ((k + 1 : Nat) : Int) by omega]
      exact atI_nat (by rw [List.getElem?_map, ht2]; rfl)
    refine ⟨_, rfl, t1, _, 0, V.int (m1.1 : Int), rfl, rfl, SqT.of g1, atI_nat (j := 0) rfl, ?_⟩
    refine ⟨_, rfl, t2, _, 0, V.int (m2.1 : Int), rfl, rfl, SqT.of g2, atI_nat (j := 0) rfl, ?_⟩
    refine ⟨rfl, _, rfl, ?_⟩
    by_cases c : m1.1 = m2.1
    · rw [show decide (V.int (m1.1 : Int) = V.int (m2.1 : Int)) = true by rw [c]; exact decide_eq_true rfl]
      exact iteF (iteF ⟨_, _, _, rfl, s2⟩)
    rw [show decide (V.int (m1.1 : Int) = V.int (m2.1 : Int)) = false from decide_eq_false fun z => c (by have := V.int.inj z; omega)]
    refine iteT ?_
    refine ⟨_, rfl, _, rfl, a, t1, S.1.length, n, ds, m1, rfl, hH.same s12, tree, hn, g1, v1, fun H3 s3 => ?_⟩
    refine ⟨_, rfl, _, rfl, a, t2, S.1.length, n, ds, m2, rfl, (hH.same s12).same s3, tree, hn, s3 _ _ g2, v2, fun H4 s4 => ?_⟩
    have s14 := (s12.trans s3).trans s4
    refine ⟨rfl, _, rfl, ?_⟩
    by_cases c2 : dr ds m1 = dr ds m2
    · rw [show decide (V.int ((dr ds m1 : Nat) : Int) = V.int ((dr ds m2 : Nat) : Int)) = true by rw [c2]; exact decide_eq_true rfl]
      exact iteF ⟨_, _, _, rfl, (s2.trans s3).trans s4⟩
    rw [show decide (V.int ((dr ds m1 : Nat) : Int) = V.int ((dr ds m2 : Nat) : Int)) = false from decide_eq_false fun z => c2 (by have := V.int.inj z; omega)]
    refine iteT ?_
    refine ⟨_, rfl, _, rfl, _, rfl, _, rfl, _, rfl, pl, _, rfl, SqL.of (s14 _ _ hts), fun p1 np1 => ?_⟩
    rw [cut_take (α := Nat) _ k (by rw [List.length_map, tl.1]; omega)]
    have sp1 := Same.upd (o := .lst ((ts.map V.ref).take k)) np1
    have hp1 : (upd H4 p1 (.lst ((ts.map V.ref).take k))) p1 = some (.lst ((ts.map V.ref).take k)) := upd_same
    generalize upd H4 p1 (.lst ((ts.map V.ref).take k)) = H5 at sp1 hp1
    refine ⟨_, rfl, _, rfl, by show 2 ≤ sizeLine; decide, fun p2 np2 => ?_⟩
    have sp2 := Same.upd (o := .lst [.ref t2, .ref t1]) np2
    have hp2 : (upd H5 p2 (.lst [.ref t2, .ref t1])) p2 = some (.lst [.ref t2, .ref t1]) := upd_same
    generalize upd H5 p2 (.lst [.ref t2, .ref t1]) = H6 at sp2 hp2
    refine ⟨p1, p2, _, _, rfl, rfl, sp2 _ _ hp1, hp2, Nat.le_of_lt (small1000 (by rw [List.length_take, List.length_map]; show _ + 2 ≤ 1000; omega)), fun p3 np3 => ?_⟩
    have sp3 := Same.upd (o := .lst ((ts.map V.ref).take k ++ [.ref t2, .ref t1])) np3
    have hp3 : (upd H6 p3 (.lst ((ts.map V.ref).take k ++ [.ref t2, .ref t1]))) p3 = some (.lst ((ts.map V.ref).take k ++ [.ref t2, .ref t1])) := upd_same
    generalize upd H6 p3 (.lst ((ts.map V.ref).take k ++ [.ref t2, .ref t1])) = H7 at sp3 hp3
    have s17 := ((s14.trans sp1).trans sp2).trans sp3
    refine ⟨_, rfl, _, rfl, _, _, rfl, rfl, _, rfl, pl, _, rfl, SqL.of (s17 _ _ hts), fun p4 np4 => ?_⟩
    rw [show (k : Int) + 2 = ((k + 2 : Nat) : Int) by omega, cut_drop (α := Nat) _ (k + 2) (by rw [List.length_map, tl.1]; omega)]
    have sp4 := Same.upd (o := .lst ((ts.map V.ref).drop (k + 2))) np4
    have hp4 : (upd H7 p4 (.lst ((ts.map V.ref).drop (k + 2)))) p4 = some (.lst ((ts.map V.ref).drop (k + 2))) := upd_same
    generalize upd H7 p4 (.lst ((ts.map V.ref).drop (k + 2))) = H8 at sp4 hp4
    refine ⟨p3, p4, _, _, rfl, rfl, sp4 _ _ hp3, hp4, Nat.le_of_lt (small1000 (by rw [List.length_append, List.length_take, List.length_drop, List.length_map, tl.1]; show _ + 2 + _ ≤ 1000; omega)), fun p5 np5 => ?_⟩
    have s18 := s17.trans sp4
    have sp5 := Same.upd (o := .lst ((ts.map V.ref).take k ++ [.ref t2, .ref t1] ++ (ts.map V.ref).drop (k + 2))) np5
    have s19 := s18.trans sp5
    have tl9 := tl.same s19
    have eL : l = l.take k ++ [m1, m2] ++ l.drop (k + 2) := by
      have e1 : l.drop k = m1 :: l.drop (k + 1) := by
        rw [List.drop_eq_getElem_cons (by omega)]
        rw [List.getElem?_eq_getElem (by omega)] at hm1
        rw [Option.some.inj hm1]
      have e2 : l.drop (k + 1) = m2 :: l.drop (k + 2) := by
        rw [List.drop_eq_getElem_cons (by omega)]
        rw [List.getElem?_eq_getElem (by omega)] at hm2
        rw [Option.some.inj hm2]
      rw [List.append_assoc]
      show l = l.take k ++ (m1 :: m2 :: l.drop (k + 2))
      rw [← e2, ← e1, List.take_append_drop]
    have two : TL (upd H8 p5 (.lst ((ts.map V.ref).take k ++ [.ref t2, .ref t1] ++ (ts.map V.ref).drop (k + 2)))) [t2, t1] [m2, m1] := (TL.one (s19 _ _ (tl.2 (k + 1) t2 m2 ht2 hm2))).append (TL.one (s19 _ _ (tl.2 k t1 m1 ht1 hm1)))
    have tp5 : TrisAt (upd H8 p5 (.lst ((ts.map V.ref).take k ++ [.ref t2, .ref t1] ++ (ts.map V.ref).drop (k + 2)))) p5 (l.take k ++ [m2, m1] ++ l.drop (k + 2)) := ⟨ts.take k ++ [t2, t1] ++ ts.drop (k + 2), by rw [upd_same, List.map_append, List.map_append, List.map_take, List.map_drop]; rfl, ((tl9.take k).append two).append (tl9.drop (k + 2))⟩
    have vmL : ∀ m ∈ l.take k ++ [m1, m2] ++ l.drop (k + 2), VM ds S.1.length m := by rw [← eL]; exact vm
    have runL : runs ds 0 S (l.take k ++ [m1, m2] ++ l.drop (k + 2)) = .inr S' := by rw [← eL]; exact run
    have run9 := swap_runs tree ok vmL runL c c2
    have vm9 : ∀ m ∈ l.take k ++ [m2, m1] ++ l.drop (k + 2), VM ds S.1.length m := fun m hm => vmL m (by
      simp only [List.mem_append, List.mem_cons, List.not_mem_nil, or_false] at hm ⊢
      rcases hm with (h | h | h) | h
      · exact .inl (.inl h)
      · exact .inl (.inr (.inr h))
      · exact .inl (.inr (.inl h))
      · exact .inr h)
    generalize upd H8 p5 (.lst ((ts.map V.ref).take k ++ [.ref t2, .ref t1] ++ (ts.map V.ref).drop (k + 2))) = H9 at sp5 s19 tp5
    refine ⟨a, s, p5, n, ds, S, S', _, rfl, hH.same s19, tree, hn, st.same s19, ok, tp5.plan, vm9, run9, fun H10 q10 s10 st10 => ?_⟩
    have s4x : Same H4 H10 := (((((sp1.trans sp2).trans sp3).trans sp4).trans sp5).trans s10)
    have s1x : Same H1 H10 := ((s2.trans s3).trans s4).trans s4x
    refine ⟨_, rfl, dS S', dS S', dp_S st10, dp_S (stf.same s1x), dS_shaped _, dS_shaped _, _, rfl, ?_⟩
    rw [d_refl (dS_shaped S')]
    exact iteF ⟨_, _, _, rfl, s1x⟩
  · rintro σ H2 ⟨y4, y5, y6, rfl, s2⟩
    exact q _ (s1.trans s2)
end
end K5

namespace K5
open PySem PySem.Spec PyProof.Rows L2
/-- the last user of door d, o if there is none -/
def curO (ds : List (Nat × Nat)) : Option Nat → Nat → List Mv → Option Nat
  | o, _, [] => o
  | o, d, m :: t => if dr ds m = d then curO ds (some m.1) d t else curO ds o d t
theorem curO_snoc (ds : List (Nat × Nat)) (d : Nat) (m : Mv) : ∀ (l : List Mv) (o : Option Nat), curO ds o d (l ++ [m]) = if dr ds m = d then some m.1 else curO ds o d l
  | [], o => rfl
  | x :: t, o => by
    rw [List.cons_append]
    unfold curO
    by_cases c : dr ds x = d
    · rw [if_pos c, if_pos c, curO_snoc ds d m t]
    · rw [if_neg c, if_neg c, curO_snoc ds d m t]
theorem curB_is (ds : List (Nat × Nat)) (b d : Nat) : ∀ (l : List Mv) (o : Option Nat), curB ds (o.getD b) d l = (curO ds o d l).getD b
  | [], o => rfl
  | m :: t, o => by
    unfold curB curO
    by_cases c : dr ds m = d
    · rw [if_pos c, if_pos c]
      exact curB_is ds b d t (some m.1)
    · rw [if_neg c, if_neg c]
      exact curB_is ds b d t o
theorem curO_some (ds : List (Nat × Nat)) (d : Nat) : ∀ (l : List Mv) (u : Nat), curO ds (some u) d l ≠ none
  | [], u => by simp [curO]
  | m :: t, u => by
    unfold curO
    by_cases c : dr ds m = d
    · rw [if_pos c]
      exact curO_some ds d t m.1
    · rw [if_neg c]
      exact curO_some ds d t u
theorem okB_un (ds : List (Nat × Nat)) (d : Nat) : ∀ (l : List Mv) (b : Nat), curO ds none d l = none → okB ds b d l
  | [], b, _ => trivial
  | m :: t, b, h => by
    unfold curO at h
    unfold okB
    by_cases c : dr ds m = d
    · rw [if_pos c] at h
      exact absurd h (curO_some ds d t m.1)
    · rw [if_neg c] at h ⊢
      exact okB_un ds d t b h
theorem curR_snoc (p : Nat) (m : Mv) : ∀ (l : List Mv) (r : Nat), curR r p (l ++ [m]) = if m.1 = p then m.2.2 else curR r p l
  | [], r => rfl
  | x :: t, r => by
    rw [List.cons_append]
    unfold curR
    by_cases c : x.1 = p
    · rw [if_pos c, if_pos c, curR_snoc p m t]
    · rw [if_neg c, if_neg c, curR_snoc p m t]
/-- the same plan where only doors that it doesn't use are barred for others -/
theorem other_bars {n : Nat} {ds : List (Nat × Nat)} {l : List Mv} {S S' : S2} {OB : List Nat} (T : Tree n ds) (ok : StOk n ds S) (vm : ∀ m ∈ l, VM ds S.1.length m) (run : runs ds 0 S l = .inr S') (hl : OB.length = ds.length) (hu : ∀ d, curO ds none d l ≠ none → OB.getD d 0 = S.2.getD d 0) :
    ∃ S'', runs ds 0 (S.1, OB) l = .inr S'' ∧ S''.1 = S'.1 ∧ S''.2.length = ds.length ∧ ∀ d, S''.2.getD d 0 = (curO ds none d l).getD (OB.getD d 0) := by
  have f1 := fits_of T vm
  have f1' : Fits ds S.1.length S.2.length l := by rw [ok.doors]; exact f1
  have f2 : Fits ds (S.1, OB).1.length (S.1, OB).2.length l := by
    show Fits ds S.1.length OB.length l
    rw [hl]
    exact f1
  obtain ⟨a1, a2, a3, a4, a5, a6⟩ := runs_to l 0 S S' f1' run
  obtain ⟨S'', h⟩ := runs_of l 0 (S.1, OB) f2 (fun p _ => a1 p) (fun d _ => by
    by_cases c : curO ds none d l = none
    · exact okB_un ds d l _ c
    · show okB ds (OB.getD d 0) d l
      rw [hu d c]
      exact a2 d)
  obtain ⟨_, _, b3, b4, b5, b6⟩ := runs_to l 0 (S.1, OB) S'' f2 h
  refine ⟨S'', h, ext_getD (by rw [b5, a5]) fun p => by rw [b3, a3], by rw [b6]; exact hl, fun d => ?_⟩
  rw [b4]
  exact curB_is ds _ d l none
end K5

namespace K5
open PySem PySem.Spec PyProof.Rows L2
def spChg (K : PySem.W.Frag) : Sp := fun vs H Q _ => ∃ (g a s pl : Addr) (b n : Nat) (ds : List (Nat × Nat)) (S S' : S2) (l : List Mv), vs = [.ref g, .ref a, .ref s, .ref pl] ∧ GenAt H g b ∧ HouseAt K H a ds ∧ Tree n ds ∧ n ≤ 15 ∧ StateAt K H s S ∧ StOk n ds S ∧ TrisAt H pl l ∧ pl ≠ g ∧ (∀ m ∈ l, VM ds S.1.length m) ∧ l.length ≤ 100 ∧ runs ds 0 S l = .inr S' ∧ b < 2 ^ 58 ∧
  ∀ H', But g H H' → GenAt H' g (b + 100) → Q (.bl true) H'
section
variable {P : Program} {w : World} {K : PySem.W.Frag}
      {mg : Str → Option Value} {base : Heap}
theorem ok_l_changes_right (T : Bl mg) (D : Def K mg "_law_changes_right" s_l_changes_right) (C_l_door : Cal P w K mg base "_law_door" ["_law_doors", "_law_step"] 3 (spLDoor K)) (C_play : Cal P w K mg base "play" ["house", "state", "plan"] 8 (spPlayG K)) (C_l_random : Cal P w K mg base "_law_random" ["_law_generator_here", "_law_bound"] 2 spRand) :
    Cal P w K mg base "_law_changes_right" ["_law_generator_here", "_law_doors", "_law_position", "_law_steps_here"] 9 (spChg K) := by
  refine D.ok sc_l_changes_right (fun _ _ _ _ _ _ us hl => match us, hl with | [_, _, _, _], _ => rfl) (fun vs H Q E h => ?_) (fun f cdv A outer s0 H vs Q E hr h => ?_)
  · obtain ⟨g, a, s, pl, b, n, ds, S, S', l, rfl, _⟩ := h
    rfl
  obtain ⟨g, a, s, pl, b, n, ds, S, S', l, rfl, gen, hH, tree, hn, st, ok, tr, nplg, vm, ll, run, hb, q⟩ := h
  obtain ⟨ts, hts, tl⟩ := id tr
  obtain ⟨r, bb, w1, w2, w3⟩ := id st
  have hdn := tree.len
  have hD := ok.doors
  have f1' : Fits ds S.1.length S.2.length l := by rw [hD]; exact fits_of tree vm
  obtain ⟨_, _, a3, a4, a5, a6⟩ := runs_to l 0 S S' f1' run
  obtain ⟨f_l_door, fd_l_door, g_l_door, k_l_door, b_l_door, G_l_door⟩ := C_l_door
  obtain ⟨f_play, fd_play, g_play, k_play, b_play, G_play⟩ := C_play
  obtain ⟨f_l_random, fd_l_random, g_l_random, k_l_random, b_l_random, G_l_random⟩ := C_l_random
  refine ⟨_, (pss_cons (ps_asg (pv 2) (pg_tup (n := 2) rfl (pgs_cons (pg_name (i := 4) sc_l_changes_right.nd rfl (.inr rfl)) (pgs_cons (pg_name (i := 5) sc_l_changes_right.nd rfl (.inr rfl)) pgs_nil))))
    (pss_cons (ps_set (i := 6) sc_l_changes_right.nd rfl (.inr rfl) pe_dnewK)
    (pss_cons (ps_set (i := 7) sc_l_changes_right.nd rfl (.inl rfl) (pe_callTy call_list_of (by rfl) T.list (by decide +kernel) (pa_cons (pv 4) pa_nil)))
    (pss_cons (ps_for PassesOwn.never rfl (pi_list (pv 3)) (pg_name (i := 8) sc_l_changes_right.nd rfl (.inl rfl))
    (pss_cons (ps_dput (hu_of hr) (pv 6) (pe_call G_l_door (hr.mono (by decide)) (by rfl) g_l_door k_l_door b_l_door .nil pass0 (pa_cons (pv 1) (pa_cons (pv 8) pa_nil))) (pe_ix ix_tup (pv 8) pe_int (fun _ _ => rfl)) rfl)
    (pss_one (ps_asg (pe_ix ix_tup (pv 8) pe_int (fun _ _ => rfl)) (pg_sub (pv 7) (pe_ix ix_tup (pv 8) pe_int (fun _ _ => rfl)) set_list)))))
    (pss_cons (ps_set (i := 9) sc_l_changes_right.nd rfl (.inl rfl) (pe_lst pa_nil))
    (pss_cons (ps_for PassesOwn.never rfl (pi_enumT (by rfl) T.enumerate (pa_cons (pv 5) pa_nil)) (pg_tup (n := 2) rfl (pgs_cons (pg_name (i := 10) sc_l_changes_right.nd rfl (.inl rfl)) (pgs_cons (pg_name (i := 11) sc_l_changes_right.nd rfl (.inl rfl)) pgs_nil)))
    (pss_one (ps_expr (pe_bm PySem.F.plainAttrs_list PySem.F.slot_list_append PySem.F.type_list_append mt_append (pv 9) (pa_cons (pe_dget2 (hu_of hr) (pv 6) (pv 10) (pv 11) ⟨rfl, rfl, rfl, rfl⟩) pa_nil)))))
    (pss_cons (ps_if (pt_cmpR (op_neD hr.units) (pe_call G_play (hr.mono (by decide)) (by rfl) g_play k_play b_play .nil pass0 (pa_cons (pv 1) (pa_cons (pv 2) (pa_cons (pv 3) pa_nil)))) (pe_tup (pa_cons (pe_callTy call_tuple_of (by rfl) T.tuple (by decide +kernel) (pa_cons (pv 7) pa_nil)) (pa_cons (pe_callTy call_tuple_of (by rfl) T.tuple (by decide +kernel) (pa_cons (pv 9) pa_nil)) pa_nil))) (nomark _)) (pss_one (ps_ret pe_bl)) pss_nil)
    (pss_cons (ps_set (i := 12) sc_l_changes_right.nd rfl (.inr rfl) (pe_lc (own := [("_law_index", 10)]) (g := gName 10)  (te := (tCall spRand [] E0 (tCons (tVar 0) (tCons (tCB (fun xs H Q => ∃ (p : Addr) (ys : List V), xs = [.ref p] ∧ (SqL K H p ys ∨ SqT K H p ys) ∧ Q (.int (ys.length : Int)) H) (tCons (tVar 4) tNil)) tNil)))) rfl sc_l_changes_right.nd (pi_tup (pv 5)) (blkOk_by (N := N_l_changes_right) (sc := defScope s_l_changes_right) (own := [("_law_index", 10)]) (by decide +kernel)) (fun _ _ _ _ _ => (pg_name (i := 10) sc_l_changes_right.nd rfl (.inl rfl) (.inr rfl))) (fun _ _ _ _ _ => pts_nil) (fun _ _ _ _ _ => (pe_call G_l_random (hr.mono (by decide)) (by rfl) g_l_random k_l_random b_l_random .nil pass0 (pa_cons (pv 0) (pa_cons (pe_callB call_len_seq (by rfl) T.len PySem.boot_len (pa_cons (pv 4) pa_nil)) pa_nil))))))
    (pss_cons (ps_set (i := 13) sc_l_changes_right.nd rfl (.inr rfl) (pe_callTy call_tuple_of (by rfl) T.tuple (by decide +kernel) (pa_cons (pe_lc (own := [("_law_index", 10)]) (g := gName 10)  (te := (tOp (rIxL K) (tLst (tCons (tOp (rIxL K) (tVar 12) (tVar 10)) (tCons (tOp (rIxT K) (tVar 5) (tVar 10)) tNil))) (tCB (fun xs H Q => (∃ i : Int, xs = [V.int i] ∧ Q (V.int i) H) ∨ ∃ k : Bool, xs = [V.bl k] ∧ Q (V.int (if k = true then 1 else 0)) H) (tCons (tDIn (tVar 10) (tVar 6)) tNil)))) rfl sc_l_changes_right.nd (pi_range1 rfl T.range (pa_cons (pe_callB call_len_seq (by rfl) T.len PySem.boot_len (pa_cons (pv 5) pa_nil)) pa_nil)) (blkOk_by (N := N_l_changes_right) (sc := defScope s_l_changes_right) (own := [("_law_index", 10)]) (by decide +kernel)) (fun _ _ _ _ _ => (pg_name (i := 10) sc_l_changes_right.nd rfl (.inl rfl) (.inr rfl))) (fun _ _ _ _ _ => pts_nil) (fun _ _ _ _ _ => (pe_ix ix_list (pe_lst (pa_cons (pe_ix ix_list (pv 12) (pv 10) (fun _ _ => rfl)) (pa_cons (pe_ix ix_tup (pv 5) (pv 10) (fun _ _ => rfl)) pa_nil))) (pe_callTy call_int1 (by rfl) T.int (by decide +kernel) (pa_cons (pe_cmp (pc_din (hu_of hr) (pv 10) (pv 6))) pa_nil)) (fun _ _ => rfl)))) pa_nil)))
    (pss_cons (ps_set (i := 14) sc_l_changes_right.nd rfl (.inl rfl) (pe_callTy call_tuple_of (by rfl) T.tuple (by decide +kernel) (pa_cons (pe_lc (own := [("_law_index", 10)]) (g := gName 10)  (te := (tDGet2 (tVar 6) (tVar 10) (tOp (rIxT K) (tVar 13) (tVar 10)))) rfl sc_l_changes_right.nd (pi_range1 rfl T.range (pa_cons (pe_callB call_len_seq (by rfl) T.len PySem.boot_len (pa_cons (pv 5) pa_nil)) pa_nil)) (blkOk_by (N := N_l_changes_right) (sc := defScope s_l_changes_right) (own := [("_law_index", 10)]) (by decide +kernel)) (fun _ _ _ _ _ => (pg_name (i := 10) sc_l_changes_right.nd rfl (.inl rfl) (.inr rfl))) (fun _ _ _ _ _ => pts_nil) (fun _ _ _ _ _ => (pe_dget2 (hu_of hr) (pv 6) (pv 10) (pe_ix ix_tup (pv 13) (pv 10) (fun _ _ => rfl)) ⟨rfl, rfl, rfl, rfl⟩))) pa_nil)))
    (pss_one (ps_ret (pe_cmpR (op_eqD hr.units) (pe_call G_play (hr.mono (by decide)) (by rfl) g_play k_play b_play .nil pass0 (pa_cons (pv 1) (pa_cons (pe_tup (pa_cons (pv 4) (pa_cons (pv 13) pa_nil))) (pa_cons (pv 3) pa_nil)))) (pe_tup (pa_cons (pe_callTy call_tuple_of (by rfl) T.tuple (by decide +kernel) (pa_cons (pv 7) pa_nil)) (pa_cons (pv 14) pa_nil))) (nomark _)))))))))))))), ?_⟩
  refine ⟨_, rfl, s, _, rfl, w1, rfl, _, _, rfl, _, _, rfl, rfl, ?_⟩
  refine fun pu npu => ?_
  have su := Same.upd (o := .dK []) npu
  have hpu : (upd H pu (.dK [])) pu = some (.dK []) := upd_same
  generalize upd H pu (.dK []) = H1 at su hpu
  refine ⟨_, rfl, r, _, rfl, .inr (su.tup w2), fun pr npr => ?_⟩
  have s2 := su.trans (Same.upd (o := .lst (nv S.1)) npr)
  have npr0 := su.free npr
  have nur : pu ≠ pr := ne_of_none hpu npr
  have hpr : (upd H1 pr (.lst (nv S.1))) pr = some (.lst (nv S.1)) := upd_same
  have hpu2 : (upd H1 pr (.lst (nv S.1))) pu = some (.dK []) := by rw [upd_ne nur]; exact hpu
  generalize upd H1 pr (.lst (nv S.1)) = H2 at s2 hpr hpu2
  refine ⟨_, rfl, pl, rfl, ⟨_, SqL.of (s2 _ _ hts)⟩, ?_⟩
  refine for_it (walk_list (K := K) (a := pl) (xs := ts.map V.ref)) (fun k σ H3 => ∃ kvs R y8 y9 y10 y11 y12 y13 y14, σ = [some (.ref g), some (.ref a), some (.ref s), some (.ref pl), some (.ref r), some (.ref bb), some (.ref pu), some (.ref pr), y8, y9, y10, y11, y12, y13, y14] ∧ Same H H3 ∧ H3 pu = some (.dK kvs) ∧ H3 pr = some (.lst (nv R)) ∧
      (∀ d : Nat, valV kvs (Sum.inl (d : Int)) = (curO ds none d (l.take k)).map fun (u : Nat) => V.int (u : Int)) ∧ kvs.length ≤ k ∧ R.length = S.1.length ∧ ∀ p, R.getD p 0 = curR (S.1.getD p 0) p (l.take k))
    ⟨[], S.1, _, _, _, _, _, _, _, rfl, s2, hpu2, hpr, fun d => rfl, Nat.le_refl _, rfl, fun p => rfl⟩ (fun i σ H3 _ ⟨_, _, _, _, _, _, _, _, _, _, sm, _⟩ => SqL.of (sm _ _ hts)) ?_ ?_
  · rintro k x σ H3 H4 hk ⟨kvs, R, y8, y9, y10, y11, y12, y13, y14, rfl, sm, hu, hR, hv, lk, lR, gR⟩ ⟨rfl, ex⟩
    have hk' : k < l.length := by
      rw [List.length_map, tl.1] at hk
      exact hk
    obtain ⟨t1, ht1⟩ : ∃ t1, ts[k]? = some t1 := get_of tl.1 hk'
    obtain ⟨m, hm⟩ : ∃ m, l[k]? = some m := get_of rfl hk'
    have ex' : V.ref t1 = x := by
      rw [List.getElem?_map, ht1] at ex
      exact Option.some.inj ex
    subst ex'
    have vmm := vm m (List.mem_of_getElem? hm)
    have htm := sm _ _ (tl.2 k t1 m ht1 hm)
    have tk : l.take (k + 1) = l.take k ++ [m] := by rw [List.take_add_one, hm]; rfl
    refine ⟨_, rfl, t1, _, 0, V.int (m.1 : Int), rfl, rfl, SqT.of htm, atI_nat (j := 0) rfl, ?_⟩
    refine ⟨_, rfl, _, rfl, _, rfl, a, t1, S.1.length, n, ds, m, rfl, hH.same sm, tree, by omega, htm, vmm, fun H5 s5 => ?_⟩
    have sm5 := sm.trans s5
    have hu5 := s5 _ _ hu
    have hR5 := s5 _ _ hR
    have htm5 := s5 _ _ htm
    refine ⟨pu, _, rfl, DPut.k (k := Sum.inl (dr ds m : Int)) hu5 (small1000 (by omega)), ?_⟩
    have sm6 : Same H (upd H5 pu (.dK (putK kvs (Sum.inl (dr ds m : Int)) (.int (m.1 : Int))))) := sm5.at npu
    have hR6 : (upd H5 pu (.dK (putK kvs (Sum.inl (dr ds m : Int)) (.int (m.1 : Int))))) pr = some (.lst (nv R)) := by rw [upd_ne nur.symm]; exact hR5
    have hu6 : (upd H5 pu (.dK (putK kvs (Sum.inl (dr ds m : Int)) (.int (m.1 : Int))))) pu = some (.dK (putK kvs (Sum.inl (dr ds m : Int)) (.int (m.1 : Int)))) := upd_same
    have htm6 : (upd H5 pu (.dK (putK kvs (Sum.inl (dr ds m : Int)) (.int (m.1 : Int))))) t1 = some (.tup (tI m)) := by rw [upd_ne (fun z => by rw [z, hu5] at htm5; cases htm5)]; exact htm5
    generalize upd H5 pu (.dK (putK kvs (Sum.inl (dr ds m : Int)) (.int (m.1 : Int)))) = H6 at sm6 hR6 hu6 htm6
    refine ⟨_, rfl, t1, _, 2, V.int (m.2.2 : Int), rfl, rfl, SqT.of htm6, atI_nat (j := 2) rfl, ?_⟩
    refine ⟨_, rfl, _, rfl, t1, _, 0, V.int (m.1 : Int), rfl, rfl, SqT.of htm6, atI_nat (j := 0) rfl, ?_⟩
    have mR : m.1 < R.length := by rw [lR]; exact vmm.1
    refine ⟨pr, _, _, m.1, rfl, rfl, hR6, ixN_nat (by rw [nv_len]; exact mR), ?_⟩
    have env : (nv R).set m.1 (V.int (m.2.2 : Int)) = nv (R.set m.1 m.2.2) := by unfold nv; rw [List.map_set]
    refine ⟨_, R.set m.1 m.2.2, _, _, _, _, _, _, _, rfl, sm6.at npr0, by rw [upd_ne nur]; exact hu6, by rw [upd_same, env], fun d => ?_, ?_, by rw [List.length_set]; exact lR, fun p => ?_⟩
    · rw [valV_put, tk, curO_snoc]
      by_cases c : dr ds m = d
      · rw [if_pos (by rw [c]), if_pos c]
        rfl
      · rw [if_neg (fun z => c (by have := Sum.inl.inj z; omega)), if_neg c]
        exact hv d
    · have := put_len kvs (Sum.inl (dr ds m : Int) : Key) (.int (m.1 : Int))
      omega
    · rw [getD_set _ _ _ _ mR, tk, curR_snoc]
      by_cases c : m.1 = p
      · rw [if_pos c, if_pos c]
      · rw [if_neg c, if_neg c]
        exact gR p
  · rintro σ H3 ⟨kvs, R, y8, y9, y10, y11, y12, y13, y14, rfl, sm, hu, hR, hv, lk, lR, gR⟩
    rw [List.length_map, tl.1, List.take_length] at hv gR
    have eR : R = S'.1 := ext_getD (by rw [lR, a5]) fun p => by rw [gR, a3]
    subst eR
    have hB2 : ∀ d, d < ds.length → S'.2.getD d 0 = (curO ds none d l).getD (S.2.getD d 0) := fun d _ => by
      rw [a4]
      exact curB_is ds _ d l none
    refine ⟨Nat.zero_le _, fun pn npn => ?_⟩
    have sn := Same.upd (o := .lst []) npn
    have hpn : (upd H3 pn (.lst [])) pn = some (.lst []) := upd_same
    have sm4 := sm.trans sn
    have npn0 := sm.free npn
    have hu4 := sn _ _ hu
    have hR4 := sn _ _ hR
    have nun : pu ≠ pn := ne_of_none hu npn
    have nrn : pr ≠ pn := ne_of_none hR npn
    generalize upd H3 pn (.lst []) = H4 at hpn sm4 hu4 hR4
    refine ⟨_, rfl, bb, _, rfl, sm4.tup w3, ?_⟩
    refine for_it (walk_enumT (K := K) (a := bb) (xs := nv S.2)) (fun i σ H5 => ∃ y8 y10 y11 y12 y13 y14, σ = [some (.ref g), some (.ref a), some (.ref s), some (.ref pl), some (.ref r), some (.ref bb), some (.ref pu), some (.ref pr), y8, some (.ref pn), y10, y11, y12, y13, y14] ∧ Same H H5 ∧ H5 pu = some (.dK kvs) ∧ H5 pr = some (.lst (nv S'.1)) ∧ H5 pn = some (.lst (nv (S'.2.take i))))
      ⟨_, _, _, _, _, _, rfl, sm4, hu4, hR4, hpn⟩ (fun i σ H5 _ ⟨_, _, _, _, _, _, _, sm, _⟩ => sm.tup w3) ?_ ?_
    · rintro k x σ H5 H6 hk ⟨y8, y10, y11, y12, y13, y14, rfl, s5, hu5, hR5, hn5⟩ ⟨t, x1, x2, rfl, nt, rfl, ex1, ex2⟩
      cases ex1
      obtain ⟨v, hv2, rfl⟩ := nv_some ex2
      have hkd : k < ds.length := by rw [← hD]; exact get_lt hv2
      have st1 := Same.upd (o := .tup [.int (k : Nat), .int (v : Int)]) nt
      have s6 := s5.trans st1
      have hu6 := st1 _ _ hu5
      have hR6 := st1 _ _ hR5
      have hn6 := st1 _ _ hn5
      refine ⟨t, _, rfl, SqT.of upd_same, rfl, _, _, rfl, _, _, rfl, rfl, ?_⟩
      generalize upd H5 t (.tup [.int (k : Nat), .int (v : Int)]) = H7 at s6 hu6 hR6 hn6
      refine ⟨_, rfl, .inl ⟨rfl, _, SqL.of hn6⟩, ?_⟩
      refine ⟨_, rfl, pu, rfl, .inl ⟨_, .inl hu6⟩, _, rfl, _, rfl, _, DGet.k (k := Sum.inl (k : Int)) hu6, ?_⟩
      rw [hv k]
      have e5 : S'.2[k]? = some ((curO ds none k l).getD v) := by
        have z := hB2 k hkd
        have e6 : S.2.getD k 0 = v := by rw [List.getD_eq_getElem?_getD, hv2]; rfl
        rw [e6, List.getD_eq_getElem?_getD, List.getElem?_eq_getElem (by rw [a6, hD]; exact hkd)] at z
        rw [List.getElem?_eq_getElem (by rw [a6, hD]; exact hkd)]
        exact congrArg some z
      have e7 : (((curO ds none k l).map fun (u : Nat) => V.int (u : Int)).getD (V.int (v : Int))) = V.int (((curO ds none k l).getD v : Nat) : Int) := by
        cases curO ds none k l <;> rfl
      rw [e7]
      have lt2 : (S'.2.take k).length ≤ 100 := by rw [List.length_take]; omega
      refine ⟨pn, _, _, rfl, rfl, hn6, by rw [nv_len]; exact small1000 (by omega), ?_⟩
      refine ⟨_, _, _, _, _, _, rfl, s6.at npn0, by rw [upd_ne nun]; exact hu6, by rw [upd_ne nrn]; exact hR6, ?_⟩
      rw [upd_same, List.take_add_one, e5]
      unfold nv
      rw [List.map_append]
      rfl
    · rintro σ H5 ⟨y8, y10, y11, y12, y13, y14, rfl, s5, hu5, hR5, hn5⟩
      rw [nv_len] at hn5
      have e9 : S'.2.take S.2.length = S'.2 := List.take_of_length_le (by rw [a6]; exact Nat.le_refl _)
      rw [e9] at hn5
      refine ⟨_, rfl, _, rfl, _, rfl, a, s, pl, n, ds, S, S', l, rfl, hH.same s5, tree, by omega, st.same s5, ok, (tr.same s5).plan, vm, run, fun H6 q6 s6 st6 => ?_⟩
      have s16 := s5.trans s6
      refine ⟨_, rfl, pr, _, rfl, .inl ⟨SqL.of (s6 _ _ hR5), fun t1 nt1 => ?_⟩⟩
      have sa := Same.upd (o := .tup (nv S'.1)) nt1
      have ht1 : (upd H6 t1 (.tup (nv S'.1))) t1 = some (.tup (nv S'.1)) := upd_same
      generalize upd H6 t1 (.tup (nv S'.1)) = H7 at sa ht1
      refine ⟨_, rfl, pn, _, rfl, .inl ⟨SqL.of (sa _ _ (s6 _ _ hn5)), fun t2 nt2 => ?_⟩⟩
      have sb := Same.upd (o := .tup (nv S'.2)) nt2
      have ht2 : (upd H7 t2 (.tup (nv S'.2))) t2 = some (.tup (nv S'.2)) := upd_same
      generalize upd H7 t2 (.tup (nv S'.2)) = H8 at sb ht2
      refine ⟨by show 2 ≤ sizeLine; decide, fun t3 nt3 => ?_⟩
      have sc := Same.upd (o := .tup [.ref t1, .ref t2]) nt3
      have st9 : StateAt K (upd H8 t3 (.tup [.ref t1, .ref t2])) t3 S' := ⟨t1, t2, SqT.of upd_same, SqT.of (sc _ _ (sb _ _ ht1)), SqT.of (sc _ _ ht2)⟩
      generalize upd H8 t3 (.tup [.ref t1, .ref t2]) = H9 at sc st9
      have s69 := (sa.trans sb).trans sc
      have s19 := s16.trans s69
      refine ⟨dS S', dS S', dp_S (st6.same s69), dp_S st9, dS_shaped _, dS_shaped _, _, rfl, ?_⟩
      rw [d_refl (dS_shaped S')]
      refine iteF ?_
      have hu9 := s69 _ _ (s6 _ _ hu5)
      have hR9 := s69 _ _ (s6 _ _ hR5)
      have gen9 := gen.same s19
      clear hu5 hR5 hn5 ht1 ht2 sa sb sc s5 s6 s16
      have nug : pu ≠ g := fun z => by
        obtain ⟨gx, hgx⟩ := gen9.lst
        rw [z, hgx] at hu9
        cases hu9
      have nrg : pr ≠ g := fun z => by
        obtain ⟨gx, hgx⟩ := gen.lst
        rw [z, hgx] at npr0
        cases npr0
      have tr9 := tr.same s19
      have hH9 := hH.same s19
      have st9' := st.same s19
      clear st9
      -- others
      refine ⟨_, rfl, bb, rfl, ⟨_, s19.tup w3⟩, fun po npo => ?_⟩
      have npog := gen9.ne npo
      obtain ⟨gx, hgx⟩ := gen9.lst
      refine lc_it (walk_tup (K := K) (a := bb) (xs := nv S.2)) (fun i Hx => But g H9 Hx ∧ GenAt Hx g (b + i) ∧ ∃ OL : List Nat, Hx po = some (.lst (nv OL)) ∧ OL.length = i ∧ ∀ x ∈ OL, x < S.1.length)
        ⟨(Same.upd npo).but, gen9.at npog, [], upd_same, rfl, fun x hx => (List.not_mem_nil hx).elim⟩ (fun i Hx _ h => h.1.tup hgx (s19.tup w3)) ?_ ?_
      · rintro i x Hx Hy hi ⟨bx, gx1, OL, hO, lO, aO⟩ ⟨rfl, ex⟩
        have one := ok.one
        rw [nv_len] at hi
        refine ⟨rfl, lcYes ⟨_, rfl, _, rfl, r, _, rfl, .inr (bx.tup hgx (s19.tup w2)), g, b + i, S.1.length, congrArg (fun z : Nat => [V.ref g, V.int (z : Int)]) (nv_len _), gx1, by omega, by have := ok.few; omega, by omega, fun Hz v bz gz hv3 => ?_⟩⟩
        have hO2 := bz _ _ npog hO
        refine ⟨_, hO2, by rw [nv_len]; exact small1000 (by omega), (bx.trans bz).at npo _, gz.at npog, OL ++ [v], by rw [upd_same, nv_snoc], by rw [List.length_append, lO]; rfl, fun x hx => ?_⟩
        rcases List.mem_append.mp hx with hx | hx
        · exact aO x hx
        · rw [List.mem_singleton.mp hx]
          exact hv3
      rintro Hx ⟨bx, gx1, OL, hO, lO, aO⟩
      rw [nv_len] at gx1 lO
      have hux := bx _ _ nug hu9
      have hRx := bx _ _ nrg hR9
      have w2x := bx.tup hgx (s19.tup w2)
      have w3x := bx.tup hgx (s19.tup w3)
      have trx := tr9.but hgx nplg bx
      have hHx := hH9.but hgx bx
      have npo9 : H9 po = none := npo
      -- the other bars
      obtain ⟨OB, hOB⟩ : ∃ OB : Nat → Nat, OB = fun d => if (curO ds none d l).isSome = true then S.2.getD d 0 else OL.getD d 0 := ⟨_, rfl⟩
      refine ⟨_, rfl, bb, _, rfl, .inr w3x, (ds.length : Int), congrArg (fun z : Nat => [V.int (z : Int)]) (by rw [nv_len, hD]), by omega, by omega, fun pq npq => ?_⟩
      have npq0 := npq
      refine lc_range (lo := 0) (n := ds.length) (fun i H6 => Same Hx H6 ∧ H6 pq = some (.lst (nv ((List.range i).map OB)))) ⟨Same.upd npq, upd_same⟩ ?_ ?_
      · rintro i H6 hi ⟨s6, hq6⟩
        rw [Int.zero_add]
        obtain ⟨ov, ho⟩ : ∃ v, OL[i]? = some v := get_of rfl (by rw [lO, hD]; exact hi)
        obtain ⟨bv, hbv⟩ : ∃ v, S.2[i]? = some v := get_of rfl (by rw [hD]; exact hi)
        refine ⟨rfl, lcYes ?_⟩
        refine ⟨_, rfl, _, rfl, po, _, _, V.int (ov : Int), rfl, rfl, SqL.of (s6 _ _ hO), nv_at ho, ?_⟩
        refine ⟨_, rfl, _, rfl, bb, _, _, V.int (bv : Int), rfl, rfl, s6.tup w3x, nv_at hbv, ?_⟩
        refine ⟨by show 2 ≤ sizeLine; decide, fun pw npw => ?_⟩
        have spw := Same.upd (o := .lst [.int (ov : Int), .int (bv : Int)]) npw
        have hpw : (upd H6 pw (.lst [.int (ov : Int), .int (bv : Int)])) pw = some (.lst [.int (ov : Int), .int (bv : Int)]) := upd_same
        have hq7 := spw _ _ hq6
        have s7 := s6.trans spw
        generalize upd H6 pw (.lst [.int (ov : Int), .int (bv : Int)]) = H7 at spw hpw hq7 s7
        refine ⟨_, rfl, _, rfl, pu, _, rfl, DGet.k (k := Sum.inl (i : Int)) (s7 _ _ hux), .inr ⟨_, rfl, ?_⟩⟩
        rw [hv i]
        have eo : ((curO ds none i l).map fun (u : Nat) => V.int (u : Int)).isSome = (curO ds none i l).isSome := by cases curO ds none i l <;> rfl
        rw [eo]
        have e8 : OB i = if (curO ds none i l).isSome = true then bv else ov := by
          rw [hOB]
          show (if (curO ds none i l).isSome = true then S.2.getD i 0 else OL.getD i 0) = _
          rw [List.getD_eq_getElem?_getD, List.getD_eq_getElem?_getD, ho, hbv]
          rfl
        have fin : ∀ z : Nat, z = OB i → ∃ acc, H7 pq = some (.lst acc) ∧ acc.length < sizeLine ∧ Same Hx (upd H7 pq (.lst (acc ++ [V.int (z : Int)]))) ∧ (upd H7 pq (.lst (acc ++ [V.int (z : Int)]))) pq = some (.lst (nv ((List.range (i + 1)).map OB))) := fun z ez =>
          ⟨_, hq7, by rw [nv_len, List.length_map, List.length_range]; exact small1000 (by omega), s7.at npq0, by rw [upd_same, List.range_succ, List.map_append, ez]; unfold nv; rw [List.map_append]; rfl⟩
        cases c : (curO ds none i l).isSome with
        | true =>
          rw [c, if_pos rfl] at e8
          exact ⟨pw, _, 1, V.int (bv : Int), rfl, rfl, SqL.of hpw, atI_nat (j := 1) rfl, fin bv e8.symm⟩
        | false =>
          rw [c, if_neg (by simp)] at e8
          exact ⟨pw, _, 0, V.int (ov : Int), rfl, rfl, SqL.of hpw, atI_nat (j := 0) rfl, fin ov e8.symm⟩
      rintro H6 ⟨s6, hq6⟩
      refine ⟨pq, _, rfl, .inl ⟨SqL.of hq6, fun tb ntb => ?_⟩⟩
      have stb := Same.upd (o := .tup (nv ((List.range ds.length).map OB))) ntb
      have htb : (upd H6 tb (.tup (nv ((List.range ds.length).map OB)))) tb = some (.tup (nv ((List.range ds.length).map OB))) := upd_same
      have s7 := s6.trans stb
      generalize upd H6 tb (.tup (nv ((List.range ds.length).map OB))) = H7 at stb htb s7
      obtain ⟨OBL, hOBL⟩ : ∃ OBL, OBL = (List.range ds.length).map OB := ⟨_, rfl⟩
      rw [← hOBL] at htb
      have lOBL : OBL.length = ds.length := by rw [hOBL, List.length_map, List.length_range]
      have gOBL : ∀ d, d < ds.length → OBL.getD d 0 = OB d := fun d hd => by
        rw [hOBL, List.getD_eq_getElem?_getD, List.getElem?_map, List.getElem?_range hd]
        rfl
      obtain ⟨S'', run2, e1, l2, g2⟩ := other_bars (OB := OBL) tree ok vm run lOBL (fun d hd => by
        by_cases c : d < ds.length
        · rw [gOBL d c, hOB]
          show (if (curO ds none d l).isSome = true then S.2.getD d 0 else OL.getD d 0) = _
          rw [if_pos (Option.isSome_iff_ne_none.mpr hd)]
        · rw [List.getD_eq_getElem?_getD, List.getD_eq_getElem?_getD, List.getElem?_eq_none (by omega), List.getElem?_eq_none (by omega)])
      -- what is expected
      refine ⟨_, rfl, bb, _, rfl, .inr (s7.tup w3x), (ds.length : Int), congrArg (fun z : Nat => [V.int (z : Int)]) (by rw [nv_len, hD]), by omega, by omega, fun pe npe => ?_⟩
      refine lc_range (lo := 0) (n := ds.length) (fun i H8 => Same H7 H8 ∧ H8 pe = some (.lst (nv (S''.2.take i)))) ⟨Same.upd npe, upd_same⟩ ?_ ?_
      · rintro i H8 hi ⟨s8, he8⟩
        rw [Int.zero_add]
        obtain ⟨bv, hbv⟩ : ∃ v, OBL[i]? = some v := get_of rfl (by rw [lOBL]; exact hi)
        have s78 := s7.trans s8
        refine ⟨rfl, lcYes ?_⟩
        refine ⟨_, rfl, pu, rfl, .inl ⟨_, .inl (s78 _ _ hux)⟩, _, rfl, ?_⟩
        refine ⟨_, rfl, _, rfl, tb, _, _, V.int (bv : Int), rfl, rfl, SqT.of (s8 _ _ htb), nv_at hbv, _, DGet.k (k := Sum.inl (i : Int)) (s78 _ _ hux), ?_⟩
        rw [hv i]
        have e7 : (((curO ds none i l).map fun (u : Nat) => V.int (u : Int)).getD (V.int (bv : Int))) = V.int (((curO ds none i l).getD bv : Nat) : Int) := by
          cases curO ds none i l <;> rfl
        rw [e7]
        have e5 : S''.2[i]? = some ((curO ds none i l).getD bv) := by
          have z := g2 i
          have e6 : OBL.getD i 0 = bv := by rw [List.getD_eq_getElem?_getD, hbv]; rfl
          rw [e6, List.getD_eq_getElem?_getD, List.getElem?_eq_getElem (by rw [l2]; exact hi)] at z
          rw [List.getElem?_eq_getElem (by rw [l2]; exact hi)]
          exact congrArg some z
        have lt2 : (S''.2.take i).length ≤ 100 := by rw [List.length_take]; omega
        refine ⟨_, he8, by rw [nv_len]; exact small1000 (by omega), s8.at npe, ?_⟩
        rw [upd_same, List.take_add_one, e5]
        unfold nv
        rw [List.map_append]
        rfl
      rintro H8 ⟨s8, he8⟩
      rw [List.take_of_length_le (by rw [l2]; exact Nat.le_refl _)] at he8
      have s78 := s7.trans s8
      refine ⟨pe, _, rfl, .inl ⟨SqL.of he8, fun te nte => ?_⟩⟩
      have ste := Same.upd (o := .tup (nv S''.2)) nte
      have hte : (upd H8 te (.tup (nv S''.2))) te = some (.tup (nv S''.2)) := upd_same
      generalize upd H8 te (.tup (nv S''.2)) = H9' at ste hte
      have s79 := s78.trans ste
      have ok2 : StOk n ds (S.1, OBL) := ⟨ok.one, ok.few, ok.rooms, lOBL, fun y hy => by
        show y < S.1.length
        rw [hOBL] at hy
        obtain ⟨d, hd, rfl⟩ := List.mem_map.mp hy
        have hd := List.mem_range.mp hd
        rw [hOB]
        show (if (curO ds none d l).isSome = true then S.2.getD d 0 else OL.getD d 0) < _
        by_cases c : (curO ds none d l).isSome = true
        · rw [if_pos c, List.getD_eq_getElem?_getD, List.getElem?_eq_getElem (by rw [hD]; exact hd)]
          exact ok.bars _ (List.getElem_mem _)
        · rw [if_neg c, List.getD_eq_getElem?_getD, List.getElem?_eq_getElem (by rw [lO, hD]; exact hd)]
          exact aO _ (List.getElem_mem _)⟩
      have htb9 := ste _ _ (s8 _ _ htb)
      refine ⟨_, rfl, _, rfl, _, rfl, by show 2 ≤ sizeLine; decide, fun tq ntq => ?_⟩
      have stq := Same.upd (o := .tup [.ref r, .ref tb]) ntq
      have s7a := s79.trans stq
      have stQ : StateAt K (upd H9' tq (.tup [.ref r, .ref tb])) tq (S.1, OBL) := ⟨r, tb, SqT.of upd_same, s7a.tup w2x, SqT.of (stq _ _ htb9)⟩
      generalize upd H9' tq (.tup [.ref r, .ref tb]) = Ha at stq s7a stQ
      refine ⟨_, rfl, a, tq, pl, n, ds, (S.1, OBL), S'', l, rfl, hHx.same s7a, tree, by omega, stQ, ok2, (trx.same s7a).plan, vm, run2, fun Hb qb sb stb2 => ?_⟩
      have s7b := s7a.trans sb
      refine ⟨_, rfl, pr, _, rfl, .inl ⟨SqL.of (s7b _ _ hRx), fun t7 nt7 => ?_⟩⟩
      have st7 := Same.upd (o := .tup (nv S'.1)) nt7
      have ht7 : (upd Hb t7 (.tup (nv S'.1))) t7 = some (.tup (nv S'.1)) := upd_same
      generalize upd Hb t7 (.tup (nv S'.1)) = Hc at st7 ht7
      refine ⟨_, rfl, by show 2 ≤ sizeLine; decide, fun t8 nt8 => ?_⟩
      have st8 := Same.upd (o := .tup [.ref t7, .ref te]) nt8
      have stE : StateAt K (upd Hc t8 (.tup [.ref t7, .ref te])) t8 S'' := ⟨t7, te, SqT.of upd_same, by rw [e1]; exact SqT.of (st8 _ _ ht7), SqT.of (st8 _ _ (st7 _ _ (sb _ _ (stq _ _ hte))))⟩
      have s7c := (s7b.trans st7).trans st8
      refine ⟨dS S'', dS S'', dp_S ((stb2.same st7).same st8), dp_S stE, dS_shaped _, dS_shaped _, ?_⟩
      rw [d_refl (dS_shaped S'')]
      exact q _ (s19.but.trans (bx.trans s7c.but)) ((gx1.same s7c).mono (by omega))
end
end K5

namespace K5
open PySem PySem.Spec PyProof.Rows L2
def spLaw (K : PySem.W.Frag) : Sp := fun vs H Q _ => ∃ (a : Addr) (ns : List Int), vs = [.ref a] ∧ SqL K H a (ns.map V.int) ∧ ns.length ≤ 63 ∧ ∀ H', Q (.bl true) H'
theorem Tree.grow {n o : Nat} {ds : List (Nat × Nat)} (T : Tree n ds) (ho : o < n) : Tree (n + 1) (ds ++ [(o, n)]) := by
  obtain ⟨side, s1, s2⟩ := T.side
  have hl := T.len
  have old : ∀ {d : Nat} {e : Nat × Nat}, (ds ++ [(o, n)])[d]? = some e → (d < ds.length ∧ ds[d]? = some e ∧ e.1 < n ∧ e.2 < n) ∨ (d = ds.length ∧ e = (o, n)) := by
    intro d e h
    by_cases c : d < ds.length
    · rw [List.getElem?_append_left c] at h
      have := T.lt e (List.mem_of_getElem? h)
      exact .inl ⟨c, h, this.1, this.2⟩
    · rw [List.getElem?_append_right (by omega)] at h
      have hd : d - ds.length = 0 := by
        have := get_lt h
        simp only [List.length_singleton] at this
        omega
      rw [hd] at h
      exact .inr ⟨by omega, (Option.some.inj h).symm⟩
  refine ⟨by rw [List.length_append]; show ds.length + 1 + 1 = n + 1; omega, fun e he => ?_, ⟨fun d y => if d = ds.length then decide (y = n) else if y = n then side d o else side d y, fun d e h => ?_, fun c d e h hc => ?_⟩, fun S h x y hx hy sx => ?_⟩
  · rcases List.mem_append.mp he with he | he
    · have := T.lt e he
      omega
    · rw [List.mem_singleton.mp he]
      exact ⟨by omega, by omega⟩
  · rcases old h with ⟨a1, a2, a3, a4⟩ | ⟨a1, rfl⟩
    · simp only
      rw [if_neg (by omega), if_neg (by omega), if_neg (by omega), if_neg (by omega)]
      exact s1 d e a2
    · simp only
      rw [if_pos a1, if_pos a1, decide_eq_false (by omega : ¬ o = n)]
      simp
  · rcases old h with ⟨a1, a2, a3, a4⟩ | ⟨a1, rfl⟩
    · simp only
      by_cases c1 : c = ds.length
      · rw [if_pos c1, if_pos c1, decide_eq_false (by omega), decide_eq_false (by omega)]
      · rw [if_neg c1, if_neg c1, if_neg (by omega), if_neg (by omega)]
        exact s2 c d e a2 hc
    · simp only
      rw [if_neg (by omega), if_neg (by omega), if_neg (by omega), if_pos trivial]
  · have hS : ∀ e ∈ ds, S e.1 ↔ S e.2 := fun e he => h e (List.mem_append_left _ he)
    have hn : S o ↔ S n := h (o, n) (List.mem_append_right _ List.mem_cons_self)
    have so : S o := by
      by_cases c : x = n
      · rw [c] at sx
        exact hn.mpr sx
      · exact T.conn S hS x o (by omega) ho sx
    by_cases c : y = n
    · rw [c]
      exact hn.mp so
    · exact T.conn S hS o y ho (by omega) so
section
variable {P : Program} {w : World} {K : PySem.W.Frag}
      {mg : Str → Option Value} {base : Heap}
theorem ok_law {f0 : Addr} {fd0 : FuncData} (T : Bl mg) (F : Fun K "law" "law" s_law f0 fd0) (C_l_generator : Cal P w K mg base "_law_generator" ["_law_script", "_law_index"] 2 (spGen K)) (C_l_random : Cal P w K mg base "_law_random" ["_law_generator_here", "_law_bound"] 2 spRand)
    (C_l_random_house : Cal P w K mg base "_law_random_house" ["_law_generator_here", "_law_most"] 4 (spHouse K)) (C_l_random_state : Cal P w K mg base "_law_random_state" ["_law_generator_here", "_law_doors", "_law_people"] 3 (spRState K))
    (C_l_random_steps : Cal P w K mg base "_law_random_steps" ["_law_generator_here", "_law_doors", "_law_position", "_law_most"] 3 (spRSteps K)) (C_l_parts_right : Cal P w K mg base "_law_parts_right" ["_law_doors", "_law_position", "_law_steps_here", "_law_cut"] 10 (spParts K))
    (C_l_exchange_right : Cal P w K mg base "_law_exchange_right" ["_law_doors", "_law_position", "_law_steps_here"] 9 (spExch K)) (C_l_changes_right : Cal P w K mg base "_law_changes_right" ["_law_generator_here", "_law_doors", "_law_position", "_law_steps_here"] 9 (spChg K)) : FnOk P w K mg base CX0 11 f0 fd0 ["_law_script"] (spLaw K) := by
  refine F.ok sc_law (fun vs H Q E h => ?_) (fun cdv A outer s0 H vs Q E hr h => ?_)
  · obtain ⟨a, ns, rfl, _⟩ := h
    rfl
  obtain ⟨a, ns, rfl, hs, hns, qn⟩ := h
  obtain ⟨f_l_generator, fd_l_generator, g_l_generator, k_l_generator, b_l_generator, G_l_generator⟩ := C_l_generator
  obtain ⟨f_l_random_house, fd_l_random_house, g_l_random_house, k_l_random_house, b_l_random_house, G_l_random_house⟩ := C_l_random_house
  obtain ⟨f_l_random_state, fd_l_random_state, g_l_random_state, k_l_random_state, b_l_random_state, G_l_random_state⟩ := C_l_random_state
  obtain ⟨f_l_random, fd_l_random, g_l_random, k_l_random, b_l_random, G_l_random⟩ := C_l_random
  obtain ⟨f_l_random_steps, fd_l_random_steps, g_l_random_steps, k_l_random_steps, b_l_random_steps, G_l_random_steps⟩ := C_l_random_steps
  obtain ⟨f_l_parts_right, fd_l_parts_right, g_l_parts_right, k_l_parts_right, b_l_parts_right, G_l_parts_right⟩ := C_l_parts_right
  obtain ⟨f_l_exchange_right, fd_l_exchange_right, g_l_exchange_right, k_l_exchange_right, b_l_exchange_right, G_l_exchange_right⟩ := C_l_exchange_right
  obtain ⟨f_l_changes_right, fd_l_changes_right, g_l_changes_right, k_l_changes_right, b_l_changes_right, G_l_changes_right⟩ := C_l_changes_right
  refine ⟨_, (pss_cons (ps_for PassesOwn.never rfl (pi_range1 rfl T.range (pa_cons pe_int pa_nil)) (pg_name (i := 1) sc_law.nd rfl (.inl rfl))
    (pss_cons (ps_set (i := 2) sc_law.nd rfl (.inl rfl) (pe_call G_l_generator (hr.mono (by decide)) (by rfl) g_l_generator k_l_generator b_l_generator .nil pass0 (pa_cons (pv 0) (pa_cons (pv 1) pa_nil))))
    (pss_cons (ps_set (i := 3) sc_law.nd rfl (.inl rfl) (pe_call G_l_random_house (hr.mono (by decide)) (by rfl) g_l_random_house k_l_random_house b_l_random_house .nil pass0 (pa_cons (pv 2) (pa_cons pe_int pa_nil))))
    (pss_cons (ps_set (i := 3) sc_law.nd rfl (.inl rfl) (pe_op op_catA (pv 3) (pe_tup (pa_cons (pe_tup (pa_cons pe_int (pa_cons (pe_op op_add (pe_callB call_len_seq (by rfl) T.len PySem.boot_len (pa_cons (pv 3) pa_nil)) pe_int) pa_nil))) pa_nil))))
    (pss_one (ps_for PassesOwn.never rfl (pi_range1 rfl T.range (pa_cons pe_int pa_nil)) (pg_name (i := 4) sc_law.nd rfl (.inl rfl))
    (pss_cons (ps_set (i := 5) sc_law.nd rfl (.inl rfl) (pe_call G_l_random_state (hr.mono (by decide)) (by rfl) g_l_random_state k_l_random_state b_l_random_state .nil pass0 (pa_cons (pv 2) (pa_cons (pv 3) (pa_cons (pe_op op_add pe_int (pe_call G_l_random (hr.mono (by decide)) (by rfl) g_l_random k_l_random b_l_random .nil pass0 (pa_cons (pv 2) (pa_cons pe_int pa_nil)))) pa_nil)))))
    (pss_cons (ps_set (i := 6) sc_law.nd rfl (.inl rfl) (pe_ix ix_list (pe_call G_l_random_steps (hr.mono (by decide)) (by rfl) g_l_random_steps k_l_random_steps b_l_random_steps .nil pass0 (pa_cons (pv 2) (pa_cons (pv 3) (pa_cons (pv 5) (pa_cons pe_int pa_nil))))) pe_int (fun _ _ => rfl)))
    (pss_cons (ps_if (pt_not (pt_val (pe_call G_l_parts_right (hr.mono (by decide)) (by rfl) g_l_parts_right k_l_parts_right b_l_parts_right .nil pass0 (pa_cons (pv 3) (pa_cons (pv 5) (pa_cons (pv 6) (pa_cons (pe_call G_l_random (hr.mono (by decide)) (by rfl) g_l_random k_l_random b_l_random .nil pass0 (pa_cons (pv 2) (pa_cons (pe_op op_add (pe_callB call_len_seq (by rfl) T.len PySem.boot_len (pa_cons (pv 6) pa_nil)) pe_int) pa_nil))) pa_nil))))))) (pss_one (ps_ret pe_bl)) pss_nil)
    (pss_cons (ps_if (pt_not (pt_val (pe_call G_l_exchange_right (hr.mono (by decide)) (by rfl) g_l_exchange_right k_l_exchange_right b_l_exchange_right .nil pass0 (pa_cons (pv 3) (pa_cons (pv 5) (pa_cons (pv 6) pa_nil)))))) (pss_one (ps_ret pe_bl)) pss_nil)
    (pss_one (ps_if (pt_not (pt_val (pe_call G_l_changes_right (hr.mono (by decide)) (by rfl) g_l_changes_right k_l_changes_right b_l_changes_right .nil pass0 (pa_cons (pv 2) (pa_cons (pv 3) (pa_cons (pv 5) (pa_cons (pv 6) pa_nil))))))) (pss_one (ps_ret pe_bl)) pss_nil))))))))))))
    (pss_one (ps_ret pe_bl))), ?_⟩
  refine ⟨3, rfl, by decide, by decide, ?_⟩
  refine for_range (lo := 0) (n := 3) (fun i σ H1 => ∃ y1 y2 y3 y4 y5 y6, σ = [some (.ref a), y1, y2, y3, y4, y5, y6] ∧ Same H H1) ⟨_, _, _, _, _, _, rfl, Same.refl _⟩ ?_ ?_
  · rintro i σ H1 hi ⟨y1, y2, y3, y4, y5, y6, rfl, s1⟩
    rw [Int.zero_add]
    refine ⟨_, rfl, _, rfl, a, ns, i, rfl, s1.seq hs, by omega, fun H2 g s2 ng gen => ?_⟩
    refine ⟨_, rfl, g, 1000000, 7, rfl, gen, by decide, by decide, by decide, fun H3 d0 ds0 n0 bt3 g3 ndg hH0 tree0 hn0 => ?_⟩
    have g3 : GenAt H3 g 1001000 := g3
    obtain ⟨rs, w1, w2, w3⟩ := id hH0
    have pos0 : 0 < n0 := by have := tree0.len; omega
    have e0 : (fun i j : Int => V.int (i + j)) (((rs.map V.ref).length : Nat) : Int) 1 = V.int ((n0 : Nat) : Int) := congrArg V.int (by rw [List.length_map, w2]; have := tree0.len; omega)
    refine ⟨_, rfl, _, rfl, d0, _, rfl, .inr w1, _, _, rfl, rfl, by show 2 ≤ sizeLine; decide, fun t1 nt1 => ⟨by show 1 ≤ sizeLine; decide, fun t2 nt2 => ?_⟩⟩
    rw [e0] at nt2 ⊢
    have st1 := Same.upd (o := .tup [.int 0, .int (n0 : Int)]) nt1
    have ht1 : (upd H3 t1 (.tup [.int 0, .int (n0 : Int)])) t1 = some (.tup [.int 0, .int (n0 : Int)]) := upd_same
    generalize upd H3 t1 (.tup [.int 0, .int (n0 : Int)]) = H4 at st1 ht1 nt2
    have st2 := Same.upd (o := .tup [.ref t1]) nt2
    have ht2 : (upd H4 t2 (.tup [.ref t1])) t2 = some (.tup [.ref t1]) := upd_same
    have ht12 := st2 _ _ ht1
    generalize upd H4 t2 (.tup [.ref t1]) = H5 at st2 ht2 ht12
    have s35 := st1.trans st2
    have lrs : rs.length ≤ 100 := by rw [w2]; have := tree0.len; omega
    have hE : ∀ {H' : Hp}, Same H5 H' → ∀ (d : Nat) (r : Addr) (e : Nat × Nat), (rs ++ [t1])[d]? = some r → (ds0 ++ [(0, n0)])[d]? = some e → SqT K H' r [.int e.1, .int e.2] := fun {H'} sx d r e x y => by
      by_cases c : d < rs.length
      · rw [List.getElem?_append_left c] at x
        rw [List.getElem?_append_left (by rw [← w2]; exact c)] at y
        exact sx.tup (s35.tup (w3 d r e x y))
      · rw [List.getElem?_append_right (by omega)] at x
        rw [List.getElem?_append_right (by rw [← w2]; omega), ← w2] at y
        generalize d - rs.length = j at x y
        match j with
        | 0 => cases x; cases y; exact SqT.of (sx _ _ ht12)
        | j + 1 => simp at x
    refine ⟨d0, t2, _, _, rfl, rfl, s35.tup w1, SqT.of ht2, by rw [List.length_map]; exact Nat.le_of_lt (small1000 (by show _ + 1 ≤ 1000; omega)), fun z => ?ca, (fun _ z => by cases z), fun hne _ p np => ?cb⟩
    case' ca =>
      have z1 : rs = [] := List.map_eq_nil_iff.mp z
      have hH5 : HouseAt K H5 t2 (ds0 ++ [(0, n0)]) := ⟨rs ++ [t1], by rw [z1]; exact SqT.of ht2, by rw [List.length_append, List.length_append, w2]; rfl, hE (Same.refl _)⟩
      have s36 := s35
      clear hE ht12 ht2 s35 st1 st2 ht1 nt1
      generalize H5 = H6 at hH5 s36
      generalize t2 = d at hH5
    case' cb =>
      have spn := Same.upd (o := .tup (rs.map V.ref ++ [.ref t1])) np
      have hH5 : HouseAt K (upd H5 p (.tup (rs.map V.ref ++ [.ref t1]))) p (ds0 ++ [(0, n0)]) := ⟨rs ++ [t1], by rw [List.map_append]; exact SqT.of upd_same, by rw [List.length_append, List.length_append, w2]; rfl, hE spn⟩
      have s36 := s35.trans spn
      clear hE ht12 ht2 s35 st1 st2 ht1 nt1 spn
      generalize upd H5 p (.tup (rs.map V.ref ++ [.ref t1])) = H6 at hH5 s36
      generalize p = d at hH5
    all_goals
      have tree1 := tree0.grow pos0
      have g6 := g3.same s36
      have hn1 : n0 + 1 ≤ 8 := by omega
      have s6 : Same H H6 := s1.trans ((But.same s2 ng bt3).trans s36)
      have ng0 : H g = none := s1.free ng
      generalize ds0 ++ [(0, n0)] = ds at hH5 tree1
      generalize n0 + 1 = n at hn1 tree1
      refine ⟨4, rfl, by decide, by decide, ?_⟩
      refine for_range (lo := 0) (n := 4) (fun j σ H7 => ∃ y4 y5 y6, σ = [some (.ref a), some (.int (i : Nat)), some (.ref g), some (.ref d), y4, y5, y6] ∧ But g H6 H7 ∧ GenAt H7 g (1001000 + 400 * j)) ⟨_, _, _, rfl, But.refl _ _, g6⟩ ?_ ?_
      · rintro j σ H7 hj ⟨y4, y5, y6, rfl, b7, g7⟩
        obtain ⟨gx, hgx⟩ := g6.lst
        have hH7 := hH5.but hgx b7
        obtain ⟨gx7, hgx7⟩ := g7.lst
        refine ⟨_, rfl, _, rfl, _, rfl, g, 1001000 + 400 * j, 3, rfl, g7, by decide, by decide, by omega, fun H8 v bt8 g8 hv => ⟨_, _, rfl, rfl, ?_⟩⟩
        have eu : (fun i j : Int => V.int (i + j)) 2 (v : Int) = V.int ((2 + v : Nat) : Int) := congrArg V.int (by omega)
        rw [eu]
        obtain ⟨gx8, hgx8⟩ := g8.lst
        have hH8 := hH7.but hgx7 bt8
        refine ⟨g, d, 1001000 + 400 * j + 1, 2 + v, n, ds, rfl, g8, hH8, tree1, by omega, by omega, by omega, by omega, fun H9 s S bt9 g9 st ok => ?_⟩
        have hH9 := hH8.but hgx8 bt9
        obtain ⟨gx9, hgx9⟩ := g9.lst
        refine ⟨_, rfl, _, rfl, _, rfl, g, d, s, 1001000 + 400 * j + 1 + 100, n, 12, ds, S, rfl, g9, hH9, tree1, by omega, st, ok, by decide, by omega, fun H10 q sl sf l S' bt10 g10 hq tr slg vm ll run stf okf len => ⟨q, _, 0, V.ref sl, rfl, rfl, SqL.of hq, atI_nat (j := 0) rfl, ?_⟩⟩
        have hH10 := hH9.but hgx9 bt10
        have st10 := st.but hgx9 bt10
        obtain ⟨gx10, hgx10⟩ := g10.lst
        obtain ⟨ts, hts, tl⟩ := id tr
        refine ⟨_, rfl, _, rfl, _, rfl, _, rfl, _, rfl, sl, _, rfl, .inl (SqL.of hts), _, _, rfl, rfl, g, 1001000 + 400 * j + 1 + 100 + 100, l.length + 1, congrArg (fun z : Int => [V.ref g, V.int z]) (by rw [List.length_map, tl.1]; rfl), g10, by omega, by omega, by omega, fun H11 c bt11 g11 hc => ?_⟩
        have hH11 := hH10.but hgx10 bt11
        have st11 := st10.but hgx10 bt11
        have tr11 := tr.but hgx10 slg bt11
        refine ⟨d, s, sl, c, n, ds, S, S', l, rfl, hH11, tree1, by omega, st11, ok, tr11, vm, by omega, by omega, run, fun H12 s12 => ⟨_, rfl, iteF ?_⟩⟩
        have hH12 := hH11.same s12
        have st12 := st11.same s12
        have tr12 := tr11.same s12
        have g12 := g11.same s12
        refine ⟨_, rfl, _, rfl, _, rfl, d, s, sl, n, ds, S, S', l, rfl, hH12, tree1, by omega, st12, ok, tr12, vm, by omega, run, fun H13 s13 => ⟨_, rfl, iteF ?_⟩⟩
        refine ⟨_, rfl, _, rfl, _, rfl, _, rfl, g, d, s, sl, 1001000 + 400 * j + 1 + 100 + 100 + 1, n, ds, S, S', l, rfl, g12.same s13, hH12.same s13, tree1, by omega, st12.same s13, ok, tr12.same s13, slg, vm, by omega, run, by omega, fun H14 bt14 g14 => ⟨_, rfl, iteF ?_⟩⟩
        exact ⟨_, _, _, rfl, ((((((b7.trans bt8).trans bt9).trans bt10).trans bt11).trans s12.but).trans s13.but).trans bt14, g14.mono (by omega)⟩
      · rintro σ H7 ⟨y4, y5, y6, rfl, b7, g7⟩
        exact ⟨_, _, _, _, _, _, rfl, But.same s6 ng0 b7⟩
  · rintro σ H1 ⟨y1, y2, y3, y4, y5, y6, rfl, s1⟩
    exact qn _
end
end K5

namespace K5
open PySem PySem.Spec PyProof.Rows L2
theorem def_mk {K : PySem.W.Frag} {h : Heap} {mg : Str → Option Value} {x : Str} {st : Stmt} (X : K.In h) (G : h.Ns mainGlobals mg) {f : Addr} {oc : Value} {od an : Option Addr} {osl : Array (Option Value)} {kV doc pm cdv ct : Value} (a : PySem.W.nsIn K mainGlobals x = some (some (.ref f)))
    (l : K.lookup f = some ⟨oc, od, .func (PySem.W.fnOf x x (defArgs st) (defBody st) (defScope st) .none kV doc pm an cdv ct), osl⟩) (c : PySem.W.codeIn K cdv x = true) (k : PySem.W.keepIn K (.ref f) = true) : Def K mg x st :=
  ⟨f, _, fun_mk l c k, PySem.W.mg_of X G a⟩
theorem all_mk {l : PySem.W.OpenLaw} {w : World} {K : PySem.W.Frag} {h : Heap} {mg : Str → Option Value} {fa : Addr} (X : K.In h) (G : h.Ns mainGlobals mg) (hfa : mg "law" = some (.ref fa))
    {f0 : Addr} {od0 an0 : Option Addr} {sl0 : Array (Option Value)} {oc0 kV0 dc0 pm0 cd0 ct0 : Value}
    (a0 : PySem.W.nsIn K mainGlobals "is_whole" = some (some (.ref f0))) (l0 : K.lookup f0 = some ⟨oc0, od0, .func (PySem.W.fnOf "is_whole" "is_whole" (defArgs s_is_whole) (defBody s_is_whole) (defScope s_is_whole) .none kV0 dc0 pm0 an0 cd0 ct0), sl0⟩) (c0 : PySem.W.codeIn K cd0 "is_whole" = true) (k0 : PySem.W.keepIn K (.ref f0) = true)
    {f1 : Addr} {od1 an1 : Option Addr} {sl1 : Array (Option Value)} {oc1 kV1 dc1 pm1 cd1 ct1 : Value}
    (a1 : PySem.W.nsIn K mainGlobals "is_index" = some (some (.ref f1))) (l1 : K.lookup f1 = some ⟨oc1, od1, .func (PySem.W.fnOf "is_index" "is_index" (defArgs s_is_index) (defBody s_is_index) (defScope s_is_index) .none kV1 dc1 pm1 an1 cd1 ct1), sl1⟩) (c1 : PySem.W.codeIn K cd1 "is_index" = true) (k1 : PySem.W.keepIn K (.ref f1) = true)
    {f2 : Addr} {od2 an2 : Option Addr} {sl2 : Array (Option Value)} {oc2 kV2 dc2 pm2 cd2 ct2 : Value}
    (a2 : PySem.W.nsIn K mainGlobals "is_door" = some (some (.ref f2))) (l2 : K.lookup f2 = some ⟨oc2, od2, .func (PySem.W.fnOf "is_door" "is_door" (defArgs s_is_door) (defBody s_is_door) (defScope s_is_door) .none kV2 dc2 pm2 an2 cd2 ct2), sl2⟩) (c2 : PySem.W.codeIn K cd2 "is_door" = true) (k2 : PySem.W.keepIn K (.ref f2) = true)
    {f3 : Addr} {od3 an3 : Option Addr} {sl3 : Array (Option Value)} {oc3 kV3 dc3 pm3 cd3 ct3 : Value}
    (a3 : PySem.W.nsIn K mainGlobals "check_house" = some (some (.ref f3))) (l3 : K.lookup f3 = some ⟨oc3, od3, .func (PySem.W.fnOf "check_house" "check_house" (defArgs s_check_house) (defBody s_check_house) (defScope s_check_house) .none kV3 dc3 pm3 an3 cd3 ct3), sl3⟩) (c3 : PySem.W.codeIn K cd3 "check_house" = true) (k3 : PySem.W.keepIn K (.ref f3) = true)
    {f4 : Addr} {od4 an4 : Option Addr} {sl4 : Array (Option Value)} {oc4 kV4 dc4 pm4 cd4 ct4 : Value}
    (a4 : PySem.W.nsIn K mainGlobals "first_ring" = some (some (.ref f4))) (l4 : K.lookup f4 = some ⟨oc4, od4, .func (PySem.W.fnOf "first_ring" "first_ring" (defArgs s_first_ring) (defBody s_first_ring) (defScope s_first_ring) .none kV4 dc4 pm4 an4 cd4 ct4), sl4⟩) (c4 : PySem.W.codeIn K cd4 "first_ring" = true) (k4 : PySem.W.keepIn K (.ref f4) = true)
    {f5 : Addr} {od5 an5 : Option Addr} {sl5 : Array (Option Value)} {oc5 kV5 dc5 pm5 cd5 ct5 : Value}
    (a5 : PySem.W.nsIn K mainGlobals "find_root" = some (some (.ref f5))) (l5 : K.lookup f5 = some ⟨oc5, od5, .func (PySem.W.fnOf "find_root" "find_root" (defArgs s_find_root) (defBody s_find_root) (defScope s_find_root) .none kV5 dc5 pm5 an5 cd5 ct5), sl5⟩) (c5 : PySem.W.codeIn K cd5 "find_root" = true) (k5 : PySem.W.keepIn K (.ref f5) = true)
    {f6 : Addr} {od6 an6 : Option Addr} {sl6 : Array (Option Value)} {oc6 kV6 dc6 pm6 cd6 ct6 : Value}
    (a6 : PySem.W.nsIn K mainGlobals "need_house" = some (some (.ref f6))) (l6 : K.lookup f6 = some ⟨oc6, od6, .func (PySem.W.fnOf "need_house" "need_house" (defArgs s_need_house) (defBody s_need_house) (defScope s_need_house) .none kV6 dc6 pm6 an6 cd6 ct6), sl6⟩) (c6 : PySem.W.codeIn K cd6 "need_house" = true) (k6 : PySem.W.keepIn K (.ref f6) = true)
    {f7 : Addr} {od7 an7 : Option Addr} {sl7 : Array (Option Value)} {oc7 kV7 dc7 pm7 cd7 ct7 : Value}
    (a7 : PySem.W.nsIn K mainGlobals "doors_by_ends" = some (some (.ref f7))) (l7 : K.lookup f7 = some ⟨oc7, od7, .func (PySem.W.fnOf "doors_by_ends" "doors_by_ends" (defArgs s_doors_by_ends) (defBody s_doors_by_ends) (defScope s_doors_by_ends) .none kV7 dc7 pm7 an7 cd7 ct7), sl7⟩) (c7 : PySem.W.codeIn K cd7 "doors_by_ends" = true) (k7 : PySem.W.keepIn K (.ref f7) = true)
    {f8 : Addr} {od8 an8 : Option Addr} {sl8 : Array (Option Value)} {oc8 kV8 dc8 pm8 cd8 ct8 : Value}
    (a8 : PySem.W.nsIn K mainGlobals "has_state_shape" = some (some (.ref f8))) (l8 : K.lookup f8 = some ⟨oc8, od8, .func (PySem.W.fnOf "has_state_shape" "has_state_shape" (defArgs s_has_state_shape) (defBody s_has_state_shape) (defScope s_has_state_shape) .none kV8 dc8 pm8 an8 cd8 ct8), sl8⟩) (c8 : PySem.W.codeIn K cd8 "has_state_shape" = true) (k8 : PySem.W.keepIn K (.ref f8) = true)
    {f9 : Addr} {od9 an9 : Option Addr} {sl9 : Array (Option Value)} {oc9 kV9 dc9 pm9 cd9 ct9 : Value}
    (a9 : PySem.W.nsIn K mainGlobals "check_state" = some (some (.ref f9))) (l9 : K.lookup f9 = some ⟨oc9, od9, .func (PySem.W.fnOf "check_state" "check_state" (defArgs s_check_state) (defBody s_check_state) (defScope s_check_state) .none kV9 dc9 pm9 an9 cd9 ct9), sl9⟩) (c9 : PySem.W.codeIn K cd9 "check_state" = true) (k9 : PySem.W.keepIn K (.ref f9) = true)
    {f10 : Addr} {od10 an10 : Option Addr} {sl10 : Array (Option Value)} {oc10 kV10 dc10 pm10 cd10 ct10 : Value}
    (a10 : PySem.W.nsIn K mainGlobals "is_move" = some (some (.ref f10))) (l10 : K.lookup f10 = some ⟨oc10, od10, .func (PySem.W.fnOf "is_move" "is_move" (defArgs s_is_move) (defBody s_is_move) (defScope s_is_move) .none kV10 dc10 pm10 an10 cd10 ct10), sl10⟩) (c10 : PySem.W.codeIn K cd10 "is_move" = true) (k10 : PySem.W.keepIn K (.ref f10) = true)
    {f11 : Addr} {od11 an11 : Option Addr} {sl11 : Array (Option Value)} {oc11 kV11 dc11 pm11 cd11 ct11 : Value}
    (a11 : PySem.W.nsIn K mainGlobals "check_plan" = some (some (.ref f11))) (l11 : K.lookup f11 = some ⟨oc11, od11, .func (PySem.W.fnOf "check_plan" "check_plan" (defArgs s_check_plan) (defBody s_check_plan) (defScope s_check_plan) .none kV11 dc11 pm11 an11 cd11 ct11), sl11⟩) (c11 : PySem.W.codeIn K cd11 "check_plan" = true) (k11 : PySem.W.keepIn K (.ref f11) = true)
    {f12 : Addr} {od12 an12 : Option Addr} {sl12 : Array (Option Value)} {oc12 kV12 dc12 pm12 cd12 ct12 : Value}
    (a12 : PySem.W.nsIn K mainGlobals "need_people" = some (some (.ref f12))) (l12 : K.lookup f12 = some ⟨oc12, od12, .func (PySem.W.fnOf "need_people" "need_people" (defArgs s_need_people) (defBody s_need_people) (defScope s_need_people) .none kV12 dc12 pm12 an12 cd12 ct12), sl12⟩) (c12 : PySem.W.codeIn K cd12 "need_people" = true) (k12 : PySem.W.keepIn K (.ref f12) = true)
    {f13 : Addr} {od13 an13 : Option Addr} {sl13 : Array (Option Value)} {oc13 kV13 dc13 pm13 cd13 ct13 : Value}
    (a13 : PySem.W.nsIn K mainGlobals "need_state" = some (some (.ref f13))) (l13 : K.lookup f13 = some ⟨oc13, od13, .func (PySem.W.fnOf "need_state" "need_state" (defArgs s_need_state) (defBody s_need_state) (defScope s_need_state) .none kV13 dc13 pm13 an13 cd13 ct13), sl13⟩) (c13 : PySem.W.codeIn K cd13 "need_state" = true) (k13 : PySem.W.keepIn K (.ref f13) = true)
    {f14 : Addr} {od14 an14 : Option Addr} {sl14 : Array (Option Value)} {oc14 kV14 dc14 pm14 cd14 ct14 : Value}
    (a14 : PySem.W.nsIn K mainGlobals "need_plan" = some (some (.ref f14))) (l14 : K.lookup f14 = some ⟨oc14, od14, .func (PySem.W.fnOf "need_plan" "need_plan" (defArgs s_need_plan) (defBody s_need_plan) (defScope s_need_plan) .none kV14 dc14 pm14 an14 cd14 ct14), sl14⟩) (c14 : PySem.W.codeIn K cd14 "need_plan" = true) (k14 : PySem.W.keepIn K (.ref f14) = true)
    {f15 : Addr} {od15 an15 : Option Addr} {sl15 : Array (Option Value)} {oc15 kV15 dc15 pm15 cd15 ct15 : Value}
    (a15 : PySem.W.nsIn K mainGlobals "played" = some (some (.ref f15))) (l15 : K.lookup f15 = some ⟨oc15, od15, .func (PySem.W.fnOf "played" "played" (defArgs s_played) (defBody s_played) (defScope s_played) .none kV15 dc15 pm15 an15 cd15 ct15), sl15⟩) (c15 : PySem.W.codeIn K cd15 "played" = true) (k15 : PySem.W.keepIn K (.ref f15) = true)
    {f16 : Addr} {od16 an16 : Option Addr} {sl16 : Array (Option Value)} {oc16 kV16 dc16 pm16 cd16 ct16 : Value}
    (a16 : PySem.W.nsIn K mainGlobals "play" = some (some (.ref f16))) (l16 : K.lookup f16 = some ⟨oc16, od16, .func (PySem.W.fnOf "play" "play" (defArgs s_play) (defBody s_play) (defScope s_play) .none kV16 dc16 pm16 an16 cd16 ct16), sl16⟩) (c16 : PySem.W.codeIn K cd16 "play" = true) (k16 : PySem.W.keepIn K (.ref f16) = true)
    {f17 : Addr} {od17 an17 : Option Addr} {sl17 : Array (Option Value)} {oc17 kV17 dc17 pm17 cd17 ct17 : Value}
    (a17 : PySem.W.nsIn K mainGlobals "_law_cell" = some (some (.ref f17))) (l17 : K.lookup f17 = some ⟨oc17, od17, .func (PySem.W.fnOf "_law_cell" "_law_cell" (defArgs s_l_cell) (defBody s_l_cell) (defScope s_l_cell) .none kV17 dc17 pm17 an17 cd17 ct17), sl17⟩) (c17 : PySem.W.codeIn K cd17 "_law_cell" = true) (k17 : PySem.W.keepIn K (.ref f17) = true)
    {f18 : Addr} {od18 an18 : Option Addr} {sl18 : Array (Option Value)} {oc18 kV18 dc18 pm18 cd18 ct18 : Value}
    (a18 : PySem.W.nsIn K mainGlobals "_law_hash" = some (some (.ref f18))) (l18 : K.lookup f18 = some ⟨oc18, od18, .func (PySem.W.fnOf "_law_hash" "_law_hash" (defArgs s_l_hash) (defBody s_l_hash) (defScope s_l_hash) .none kV18 dc18 pm18 an18 cd18 ct18), sl18⟩) (c18 : PySem.W.codeIn K cd18 "_law_hash" = true) (k18 : PySem.W.keepIn K (.ref f18) = true)
    {f19 : Addr} {od19 an19 : Option Addr} {sl19 : Array (Option Value)} {oc19 kV19 dc19 pm19 cd19 ct19 : Value}
    (a19 : PySem.W.nsIn K mainGlobals "_law_generator" = some (some (.ref f19))) (l19 : K.lookup f19 = some ⟨oc19, od19, .func (PySem.W.fnOf "_law_generator" "_law_generator" (defArgs s_l_generator) (defBody s_l_generator) (defScope s_l_generator) .none kV19 dc19 pm19 an19 cd19 ct19), sl19⟩) (c19 : PySem.W.codeIn K cd19 "_law_generator" = true) (k19 : PySem.W.keepIn K (.ref f19) = true)
    {f20 : Addr} {od20 an20 : Option Addr} {sl20 : Array (Option Value)} {oc20 kV20 dc20 pm20 cd20 ct20 : Value}
    (a20 : PySem.W.nsIn K mainGlobals "_law_random" = some (some (.ref f20))) (l20 : K.lookup f20 = some ⟨oc20, od20, .func (PySem.W.fnOf "_law_random" "_law_random" (defArgs s_l_random) (defBody s_l_random) (defScope s_l_random) .none kV20 dc20 pm20 an20 cd20 ct20), sl20⟩) (c20 : PySem.W.codeIn K cd20 "_law_random" = true) (k20 : PySem.W.keepIn K (.ref f20) = true)
    {f21 : Addr} {od21 an21 : Option Addr} {sl21 : Array (Option Value)} {oc21 kV21 dc21 pm21 cd21 ct21 : Value}
    (a21 : PySem.W.nsIn K mainGlobals "_law_shuffled" = some (some (.ref f21))) (l21 : K.lookup f21 = some ⟨oc21, od21, .func (PySem.W.fnOf "_law_shuffled" "_law_shuffled" (defArgs s_l_shuffled) (defBody s_l_shuffled) (defScope s_l_shuffled) .none kV21 dc21 pm21 an21 cd21 ct21), sl21⟩) (c21 : PySem.W.codeIn K cd21 "_law_shuffled" = true) (k21 : PySem.W.keepIn K (.ref f21) = true)
    {f22 : Addr} {od22 an22 : Option Addr} {sl22 : Array (Option Value)} {oc22 kV22 dc22 pm22 cd22 ct22 : Value}
    (a22 : PySem.W.nsIn K mainGlobals "_law_random_house" = some (some (.ref f22))) (l22 : K.lookup f22 = some ⟨oc22, od22, .func (PySem.W.fnOf "_law_random_house" "_law_random_house" (defArgs s_l_random_house) (defBody s_l_random_house) (defScope s_l_random_house) .none kV22 dc22 pm22 an22 cd22 ct22), sl22⟩) (c22 : PySem.W.codeIn K cd22 "_law_random_house" = true) (k22 : PySem.W.keepIn K (.ref f22) = true)
    {f23 : Addr} {od23 an23 : Option Addr} {sl23 : Array (Option Value)} {oc23 kV23 dc23 pm23 cd23 ct23 : Value}
    (a23 : PySem.W.nsIn K mainGlobals "_law_random_state" = some (some (.ref f23))) (l23 : K.lookup f23 = some ⟨oc23, od23, .func (PySem.W.fnOf "_law_random_state" "_law_random_state" (defArgs s_l_random_state) (defBody s_l_random_state) (defScope s_l_random_state) .none kV23 dc23 pm23 an23 cd23 ct23), sl23⟩) (c23 : PySem.W.codeIn K cd23 "_law_random_state" = true) (k23 : PySem.W.keepIn K (.ref f23) = true)
    {f24 : Addr} {od24 an24 : Option Addr} {sl24 : Array (Option Value)} {oc24 kV24 dc24 pm24 cd24 ct24 : Value}
    (a24 : PySem.W.nsIn K mainGlobals "_law_neighbours" = some (some (.ref f24))) (l24 : K.lookup f24 = some ⟨oc24, od24, .func (PySem.W.fnOf "_law_neighbours" "_law_neighbours" (defArgs s_l_neighbours) (defBody s_l_neighbours) (defScope s_l_neighbours) .none kV24 dc24 pm24 an24 cd24 ct24), sl24⟩) (c24 : PySem.W.codeIn K cd24 "_law_neighbours" = true) (k24 : PySem.W.keepIn K (.ref f24) = true)
    {f25 : Addr} {od25 an25 : Option Addr} {sl25 : Array (Option Value)} {oc25 kV25 dc25 pm25 cd25 ct25 : Value}
    (a25 : PySem.W.nsIn K mainGlobals "_law_moved" = some (some (.ref f25))) (l25 : K.lookup f25 = some ⟨oc25, od25, .func (PySem.W.fnOf "_law_moved" "_law_moved" (defArgs s_l_moved) (defBody s_l_moved) (defScope s_l_moved) .none kV25 dc25 pm25 an25 cd25 ct25), sl25⟩) (c25 : PySem.W.codeIn K cd25 "_law_moved" = true) (k25 : PySem.W.keepIn K (.ref f25) = true)
    {f26 : Addr} {od26 an26 : Option Addr} {sl26 : Array (Option Value)} {oc26 kV26 dc26 pm26 cd26 ct26 : Value}
    (a26 : PySem.W.nsIn K mainGlobals "_law_steps" = some (some (.ref f26))) (l26 : K.lookup f26 = some ⟨oc26, od26, .func (PySem.W.fnOf "_law_steps" "_law_steps" (defArgs s_l_steps) (defBody s_l_steps) (defScope s_l_steps) .none kV26 dc26 pm26 an26 cd26 ct26), sl26⟩) (c26 : PySem.W.codeIn K cd26 "_law_steps" = true) (k26 : PySem.W.keepIn K (.ref f26) = true)
    {f27 : Addr} {od27 an27 : Option Addr} {sl27 : Array (Option Value)} {oc27 kV27 dc27 pm27 cd27 ct27 : Value}
    (a27 : PySem.W.nsIn K mainGlobals "_law_random_steps" = some (some (.ref f27))) (l27 : K.lookup f27 = some ⟨oc27, od27, .func (PySem.W.fnOf "_law_random_steps" "_law_random_steps" (defArgs s_l_random_steps) (defBody s_l_random_steps) (defScope s_l_random_steps) .none kV27 dc27 pm27 an27 cd27 ct27), sl27⟩) (c27 : PySem.W.codeIn K cd27 "_law_random_steps" = true) (k27 : PySem.W.keepIn K (.ref f27) = true)
    {f28 : Addr} {od28 an28 : Option Addr} {sl28 : Array (Option Value)} {oc28 kV28 dc28 pm28 cd28 ct28 : Value}
    (a28 : PySem.W.nsIn K mainGlobals "_law_door" = some (some (.ref f28))) (l28 : K.lookup f28 = some ⟨oc28, od28, .func (PySem.W.fnOf "_law_door" "_law_door" (defArgs s_l_door) (defBody s_l_door) (defScope s_l_door) .none kV28 dc28 pm28 an28 cd28 ct28), sl28⟩) (c28 : PySem.W.codeIn K cd28 "_law_door" = true) (k28 : PySem.W.keepIn K (.ref f28) = true)
    {f29 : Addr} {od29 an29 : Option Addr} {sl29 : Array (Option Value)} {oc29 kV29 dc29 pm29 cd29 ct29 : Value}
    (a29 : PySem.W.nsIn K mainGlobals "_law_parts_right" = some (some (.ref f29))) (l29 : K.lookup f29 = some ⟨oc29, od29, .func (PySem.W.fnOf "_law_parts_right" "_law_parts_right" (defArgs s_l_parts_right) (defBody s_l_parts_right) (defScope s_l_parts_right) .none kV29 dc29 pm29 an29 cd29 ct29), sl29⟩) (c29 : PySem.W.codeIn K cd29 "_law_parts_right" = true) (k29 : PySem.W.keepIn K (.ref f29) = true)
    {f30 : Addr} {od30 an30 : Option Addr} {sl30 : Array (Option Value)} {oc30 kV30 dc30 pm30 cd30 ct30 : Value}
    (a30 : PySem.W.nsIn K mainGlobals "_law_exchange_right" = some (some (.ref f30))) (l30 : K.lookup f30 = some ⟨oc30, od30, .func (PySem.W.fnOf "_law_exchange_right" "_law_exchange_right" (defArgs s_l_exchange_right) (defBody s_l_exchange_right) (defScope s_l_exchange_right) .none kV30 dc30 pm30 an30 cd30 ct30), sl30⟩) (c30 : PySem.W.codeIn K cd30 "_law_exchange_right" = true) (k30 : PySem.W.keepIn K (.ref f30) = true)
    {f31 : Addr} {od31 an31 : Option Addr} {sl31 : Array (Option Value)} {oc31 kV31 dc31 pm31 cd31 ct31 : Value}
    (a31 : PySem.W.nsIn K mainGlobals "_law_changes_right" = some (some (.ref f31))) (l31 : K.lookup f31 = some ⟨oc31, od31, .func (PySem.W.fnOf "_law_changes_right" "_law_changes_right" (defArgs s_l_changes_right) (defBody s_l_changes_right) (defScope s_l_changes_right) .none kV31 dc31 pm31 an31 cd31 ct31), sl31⟩) (c31 : PySem.W.codeIn K cd31 "_law_changes_right" = true) (k31 : PySem.W.keepIn K (.ref f31) = true)
    {f32 : Addr} {od32 an32 : Option Addr} {sl32 : Array (Option Value)} {oc32 kV32 dc32 pm32 cd32 ct32 : Value}
    (a32 : PySem.W.nsIn K mainGlobals "law" = some (some (.ref f32))) (l32 : K.lookup f32 = some ⟨oc32, od32, .func (PySem.W.fnOf "law" "law" (defArgs s_law) (defBody s_law) (defScope s_law) .none kV32 dc32 pm32 an32 cd32 ct32), sl32⟩) (c32 : PySem.W.codeIn K cd32 "law" = true) (k32 : PySem.W.keepIn K (.ref f32) = true)
    {C_Session : Addr}
    (cgSession : PySem.W.nsIn K mainGlobals "Session" = some (some (.ref C_Session)))
    (cpSession : PySem.W.plainGet K C_Session Str.empty = true)
    (chSession : PySem.W.hasDictIn K C_Session = true)
    (coSession : PySem.W.plainOver K C_Session = true)
    (csSession : PySem.W.findIn K (.ref C_Session) "__setattr__" = some (some (.builtin "object.__setattr__")))
    (ccSession : PySem.W.findIn K (.ref C_Session) "__class__" = some (some (.builtin "object.__class__")))
    (cnSession : PySem.W.specialIn K (.builtin "object.__class__") "__get__" = some (some (.builtin "getset_descriptor.__get__")))
    (ctSession : PySem.W.takesIn K (.builtin "object.__class__") = some true)
    (cmSession : PySem.W.mroIn K C_Session (.type "object") = some true)
    (ceSession : PySem.W.kitOne K (.ref C_Session) (.ref C_Session) = some true)
    (cqSession : PySem.W.findIn K (.ref C_Session) "__ne__" = some (some (.builtin "object.__ne__")))
    (ckSession : PySem.W.makesIn K C_Session = true)
    (ckpSession : PySem.W.keepIn K (.ref C_Session) = true)
    (cf0_Session : PySem.W.findIn K (.ref C_Session) "house" = some none)
    (cf1_Session : PySem.W.findIn K (.ref C_Session) "doors" = some none)
    (cf2_Session : PySem.W.findIn K (.ref C_Session) "here" = some none)
    (cf3_Session : PySem.W.findIn K (.ref C_Session) "made" = some none)
    (cf4_Session : PySem.W.findIn K (.ref C_Session) "steps" = some none)
    {mfSession_init : Addr} {moSession_init maSession_init : Option Addr} {mslSession_init : Array (Option Value)} {mocSession_init mkVSession_init mdcSession_init mpmSession_init mcdSession_init mctSession_init : Value}
    (mtSession_init : PySem.W.findIn K (.ref C_Session) "__init__" = some (some (.ref mfSession_init)))
    (miSession_init : PySem.W.isFn K (.ref mfSession_init) = true)
    (mlSession_init : K.lookup mfSession_init = some ⟨mocSession_init, moSession_init, .func (PySem.W.fnOf "__init__" "Session.__init__" (defArgs s_Session_init) (defBody s_Session_init) (defScope s_Session_init) .none mkVSession_init mdcSession_init mpmSession_init maSession_init mcdSession_init mctSession_init), mslSession_init⟩)
    (mcSession_init : PySem.W.codeIn K mcdSession_init "Session.__init__" = true)
    (mkSession_init : PySem.W.keepIn K (.ref mfSession_init) = true)
    {mfSession_play : Addr} {moSession_play maSession_play : Option Addr} {mslSession_play : Array (Option Value)} {mocSession_play mkVSession_play mdcSession_play mpmSession_play mcdSession_play mctSession_play : Value}
    (mtSession_play : PySem.W.findIn K (.ref C_Session) "play" = some (some (.ref mfSession_play)))
    (miSession_play : PySem.W.isFn K (.ref mfSession_play) = true)
    (mlSession_play : K.lookup mfSession_play = some ⟨mocSession_play, moSession_play, .func (PySem.W.fnOf "play" "Session.play" (defArgs s_Session_play) (defBody s_Session_play) (defScope s_Session_play) .none mkVSession_play mdcSession_play mpmSession_play maSession_play mcdSession_play mctSession_play), mslSession_play⟩)
    (mcSession_play : PySem.W.codeIn K mcdSession_play "Session.play" = true)
    (mkSession_play : PySem.W.keepIn K (.ref mfSession_play) = true)
    {mfSession_make : Addr} {moSession_make maSession_make : Option Addr} {mslSession_make : Array (Option Value)} {mocSession_make mkVSession_make mdcSession_make mpmSession_make mcdSession_make mctSession_make : Value}
    (mtSession_make : PySem.W.findIn K (.ref C_Session) "make" = some (some (.ref mfSession_make)))
    (miSession_make : PySem.W.isFn K (.ref mfSession_make) = true)
    (mlSession_make : K.lookup mfSession_make = some ⟨mocSession_make, moSession_make, .func (PySem.W.fnOf "make" "Session.make" (defArgs s_Session_make) (defBody s_Session_make) (defScope s_Session_make) .none mkVSession_make mdcSession_make mpmSession_make maSession_make mcdSession_make mctSession_make), mslSession_make⟩)
    (mcSession_make : PySem.W.codeIn K mcdSession_make "Session.make" = true)
    (mkSession_make : PySem.W.keepIn K (.ref mfSession_make) = true)
    {mfSession_moves : Addr} {moSession_moves maSession_moves : Option Addr} {mslSession_moves : Array (Option Value)} {mocSession_moves mkVSession_moves mdcSession_moves mpmSession_moves mcdSession_moves mctSession_moves : Value}
    (mtSession_moves : PySem.W.findIn K (.ref C_Session) "moves" = some (some (.ref mfSession_moves)))
    (miSession_moves : PySem.W.isFn K (.ref mfSession_moves) = true)
    (mlSession_moves : K.lookup mfSession_moves = some ⟨mocSession_moves, moSession_moves, .func (PySem.W.fnOf "moves" "Session.moves" (defArgs s_Session_moves) (defBody s_Session_moves) (defScope s_Session_moves) .none mkVSession_moves mdcSession_moves mpmSession_moves maSession_moves mcdSession_moves mctSession_moves), mslSession_moves⟩)
    (mcSession_moves : PySem.W.codeIn K mcdSession_moves "Session.moves" = true)
    (mkSession_moves : PySem.W.keepIn K (.ref mfSession_moves) = true)
    {mfSession_eq : Addr} {moSession_eq maSession_eq : Option Addr} {mslSession_eq : Array (Option Value)} {mocSession_eq mkVSession_eq mdcSession_eq mpmSession_eq mcdSession_eq mctSession_eq : Value}
    (mtSession_eq : PySem.W.findIn K (.ref C_Session) "__eq__" = some (some (.ref mfSession_eq)))
    (miSession_eq : PySem.W.isFn K (.ref mfSession_eq) = true)
    (mlSession_eq : K.lookup mfSession_eq = some ⟨mocSession_eq, moSession_eq, .func (PySem.W.fnOf "__eq__" "Session.__eq__" (defArgs s_Session_eq) (defBody s_Session_eq) (defScope s_Session_eq) .none mkVSession_eq mdcSession_eq mpmSession_eq maSession_eq mcdSession_eq mctSession_eq), mslSession_eq⟩)
    (mcSession_eq : PySem.W.codeIn K mcdSession_eq "Session.__eq__" = true)
    (mkSession_eq : PySem.W.keepIn K (.ref mfSession_eq) = true)
    (z0 : PySem.W.nsIn K mainGlobals "len" = some none)
    (z1 : PySem.W.nsIn K mainGlobals "isinstance" = some none)
    (z2 : PySem.W.nsIn K mainGlobals "enumerate" = some none)
    (z3 : PySem.W.nsIn K mainGlobals "range" = some none)
    (z4 : PySem.W.nsIn K mainGlobals "list" = some none)
    (z5 : PySem.W.nsIn K mainGlobals "set" = some none)
    (z6 : PySem.W.nsIn K mainGlobals "sorted" = some none)
    (z7 : PySem.W.nsIn K mainGlobals "max" = some none)
    (z8 : PySem.W.nsIn K mainGlobals "min" = some none)
    (z9 : PySem.W.nsIn K mainGlobals "tuple" = some none)
    (z10 : PySem.W.nsIn K mainGlobals "int" = some none)
    (z11 : PySem.W.nsIn K mainGlobals "bool" = some none)
    (z12 : PySem.W.nsIn K mainGlobals "all" = some none)
    : ∃ fd : FuncData, (∀ (s : Shared) (v : Value), BindsTo s fd ⟨[v], []⟩ [("_law_script", v)]) ∧ ∀ base : Heap, K.In base → base.Ns mainGlobals mg → FnOk l.prog w K mg base CX0 11 fa fd ["_law_script"] (spLaw K) := by
  have e := hfa.symm.trans (PySem.W.mg_of X G a32)
  cases e
  have T : Bl mg := ⟨PySem.W.mg_none_of X G z0, PySem.W.mg_none_of X G z1, PySem.W.mg_none_of X G z2, PySem.W.mg_none_of X G z3, PySem.W.mg_none_of X G z4, PySem.W.mg_none_of X G z5, PySem.W.mg_none_of X G z6, PySem.W.mg_none_of X G z7, PySem.W.mg_none_of X G z8, PySem.W.mg_none_of X G z9, PySem.W.mg_none_of X G z10, PySem.W.mg_none_of X G z11, PySem.W.mg_none_of X G z12⟩
  have D_is_whole : Def K mg "is_whole" s_is_whole := def_mk X G a0 l0 c0 k0
  have D_is_index : Def K mg "is_index" s_is_index := def_mk X G a1 l1 c1 k1
  have D_is_door : Def K mg "is_door" s_is_door := def_mk X G a2 l2 c2 k2
  have D_check_house : Def K mg "check_house" s_check_house := def_mk X G a3 l3 c3 k3
  have D_first_ring : Def K mg "first_ring" s_first_ring := def_mk X G a4 l4 c4 k4
  have D_find_root : Def K mg "find_root" s_find_root := def_mk X G a5 l5 c5 k5
  have D_need_house : Def K mg "need_house" s_need_house := def_mk X G a6 l6 c6 k6
  have D_doors_by_ends : Def K mg "doors_by_ends" s_doors_by_ends := def_mk X G a7 l7 c7 k7
  have D_has_state_shape : Def K mg "has_state_shape" s_has_state_shape := def_mk X G a8 l8 c8 k8
  have D_check_state : Def K mg "check_state" s_check_state := def_mk X G a9 l9 c9 k9
  have D_is_move : Def K mg "is_move" s_is_move := def_mk X G a10 l10 c10 k10
  have D_check_plan : Def K mg "check_plan" s_check_plan := def_mk X G a11 l11 c11 k11
  have D_need_people : Def K mg "need_people" s_need_people := def_mk X G a12 l12 c12 k12
  have D_need_state : Def K mg "need_state" s_need_state := def_mk X G a13 l13 c13 k13
  have D_need_plan : Def K mg "need_plan" s_need_plan := def_mk X G a14 l14 c14 k14
  have D_played : Def K mg "played" s_played := def_mk X G a15 l15 c15 k15
  have D_play : Def K mg "play" s_play := def_mk X G a16 l16 c16 k16
  have D_l_cell : Def K mg "_law_cell" s_l_cell := def_mk X G a17 l17 c17 k17
  have D_l_hash : Def K mg "_law_hash" s_l_hash := def_mk X G a18 l18 c18 k18
  have D_l_generator : Def K mg "_law_generator" s_l_generator := def_mk X G a19 l19 c19 k19
  have D_l_random : Def K mg "_law_random" s_l_random := def_mk X G a20 l20 c20 k20
  have D_l_shuffled : Def K mg "_law_shuffled" s_l_shuffled := def_mk X G a21 l21 c21 k21
  have D_l_random_house : Def K mg "_law_random_house" s_l_random_house := def_mk X G a22 l22 c22 k22
  have D_l_random_state : Def K mg "_law_random_state" s_l_random_state := def_mk X G a23 l23 c23 k23
  have D_l_neighbours : Def K mg "_law_neighbours" s_l_neighbours := def_mk X G a24 l24 c24 k24
  have D_l_moved : Def K mg "_law_moved" s_l_moved := def_mk X G a25 l25 c25 k25
  have D_l_steps : Def K mg "_law_steps" s_l_steps := def_mk X G a26 l26 c26 k26
  have D_l_random_steps : Def K mg "_law_random_steps" s_l_random_steps := def_mk X G a27 l27 c27 k27
  have D_l_door : Def K mg "_law_door" s_l_door := def_mk X G a28 l28 c28 k28
  have D_l_parts_right : Def K mg "_law_parts_right" s_l_parts_right := def_mk X G a29 l29 c29 k29
  have D_l_exchange_right : Def K mg "_law_exchange_right" s_l_exchange_right := def_mk X G a30 l30 c30 k30
  have D_l_changes_right : Def K mg "_law_changes_right" s_l_changes_right := def_mk X G a31 l31 c31 k31
  have clsSession : Cls K C_Session := ⟨cpSession, chSession, coSession, csSession⟩
  have cl_Session : ClsD K mg "Session" C_Session ["house", "doors", "here", "made", "steps"] := ⟨clsSession, PySem.W.mg_of X G cgSession, by intro q hq; simp only [List.mem_cons, List.not_mem_nil, or_false] at hq; rcases hq with rfl | rfl | rfl | rfl | rfl; exact cf0_Session; exact cf1_Session; exact cf2_Session; exact cf3_Session; exact cf4_Session⟩
  have ic_Session : C8.InsC K C_Session := ⟨clsSession, ccSession, cnSession, ctSession, cmSession, ceSession⟩
  have ne_Session := cqSession
  have D_Session_init : IniD K C_Session "Session.__init__" s_Session_init := ⟨mfSession_init, _, fun_mk mlSession_init mcSession_init mkSession_init, ⟨ckSession, mtSession_init, miSession_init, ckpSession⟩⟩
  have D_Session_play : MetD K C_Session "play" "Session.play" s_Session_play := ⟨mfSession_play, _, fun_mk mlSession_play mcSession_play mkSession_play, ⟨mtSession_play, miSession_play, mkSession_play⟩⟩
  have D_Session_make : MetD K C_Session "make" "Session.make" s_Session_make := ⟨mfSession_make, _, fun_mk mlSession_make mcSession_make mkSession_make, ⟨mtSession_make, miSession_make, mkSession_make⟩⟩
  have D_Session_moves : MetD K C_Session "moves" "Session.moves" s_Session_moves := ⟨mfSession_moves, _, fun_mk mlSession_moves mcSession_moves mkSession_moves, ⟨mtSession_moves, miSession_moves, mkSession_moves⟩⟩
  have D_Session_eq : MetD K C_Session "__eq__" "Session.__eq__" s_Session_eq := ⟨mfSession_eq, _, fun_mk mlSession_eq mcSession_eq mkSession_eq, ⟨mtSession_eq, miSession_eq, mkSession_eq⟩⟩
  refine ⟨PySem.W.fnOf "law" "law" (defArgs s_law) (defBody s_law) (defScope s_law) .none kV32 dc32 pm32 an32 cd32 ct32, fun s v => .of_eq rfl, fun base _ _ => ?_⟩
  have H_cell : Cal l.prog w K mg base "_law_cell" ["_law_script", "_law_index"] 1 (spCell K) := ok_cell T D_l_cell
  have H_generator : Cal l.prog w K mg base "_law_generator" ["_law_script", "_law_index"] 2 (spGen K) := ok_generator T D_l_generator H_cell
  have H_hash : Cal l.prog w K mg base "_law_hash" ["_law_seed", "_law_index"] 1 spHash := ok_hash T D_l_hash
  have H_random : Cal l.prog w K mg base "_law_random" ["_law_generator_here", "_law_bound"] 2 spRand := ok_random T D_l_random H_hash
  have H_shuffled : Cal l.prog w K mg base "_law_shuffled" ["_law_generator_here", "_law_items"] 3 (spShuf K) := ok_shuffled T D_l_shuffled H_random
  have H_random_house : Cal l.prog w K mg base "_law_random_house" ["_law_generator_here", "_law_most"] 4 (spHouse K) := ok_random_house T D_l_random_house H_random H_shuffled
  have H_random_state : Cal l.prog w K mg base "_law_random_state" ["_law_generator_here", "_law_doors", "_law_people"] 3 (spRState K) := ok_random_state T D_l_random_state H_random
  have H_neighbours : Cal l.prog w K mg base "_law_neighbours" ["_law_doors", "_law_place"] 1 (spNeigh K) := ok_neighbours T D_l_neighbours
  have H_steps : Cal l.prog w K mg base "_law_steps" ["_law_doors", "_law_position"] 2 (spPoss K) := ok_steps T D_l_steps H_neighbours
  have H_moved : Cal l.prog w K mg base "_law_moved" ["_law_doors", "_law_position", "_law_step"] 2 (spMoved K) := ok_moved T D_l_moved H_neighbours
  have H_random_steps : Cal l.prog w K mg base "_law_random_steps" ["_law_generator_here", "_law_doors", "_law_position", "_law_most"] 3 (spRSteps K) := ok_random_steps T D_l_random_steps H_random H_steps H_moved
  have H_is_whole : Cal l.prog w K mg base "is_whole" ["value"] 1 spWhole := ok_is_whole T D_is_whole
  have H_is_index : Cal l.prog w K mg base "is_index" ["value", "count"] 2 spIndex := ok_is_index T D_is_index H_is_whole
  have H_is_door : Cal l.prog w K mg base "is_door" ["value", "count"] 3 (spDoor K) := ok_is_door T D_is_door H_is_index
  have H_find_root : Cal l.prog w K mg base "find_root" ["links", "room"] 1 spFind := ok_find_root T D_find_root
  have H_first_ring : Cal l.prog w K mg base "first_ring" ["doors"] 2 (spRing K) := ok_first_ring T D_first_ring H_find_root
  have H_check_house : Cal l.prog w K mg base "check_house" ["value"] 4 (spRing K) := ok_check_house T D_check_house H_is_door H_first_ring
  have H_need_house : Cal l.prog w K mg base "need_house" ["house"] 5 (spRing K) := ok_need_house T D_need_house H_check_house
  have H_has_state_shape : Cal l.prog w K mg base "has_state_shape" ["house", "value"] 1 (spShape K) := ok_has_state_shape T D_has_state_shape
  have H_check_state : Cal l.prog w K mg base "check_state" ["house", "value"] 6 (spSt K) := ok_check_state T D_check_state H_need_house H_has_state_shape H_is_index
  have H_need_state : Cal l.prog w K mg base "need_state" ["house", "state"] 7 (spSt K) := ok_need_state T D_need_state H_check_state
  have H_need_people : Cal l.prog w K mg base "need_people" ["people"] 2 spPeople := ok_need_people T D_need_people H_is_whole
  have H_doors_by_ends : Cal l.prog w K mg base "doors_by_ends" ["house"] 1 (spDoors K) := ok_doors_by_ends T D_doors_by_ends
  have H_is_move : Cal l.prog w K mg base "is_move" ["doors", "people", "value"] 3 spMove := ok_is_move T D_is_move H_is_whole H_is_index
  have H_check_plan : Cal l.prog w K mg base "check_plan" ["house", "people", "value"] 6 (spPlan K) := ok_check_plan T D_check_plan H_need_house H_need_people H_doors_by_ends H_is_move
  have H_need_plan : Cal l.prog w K mg base "need_plan" ["house", "people", "plan"] 7 (spNP K) := ok_need_plan T D_need_plan H_check_plan
  have H_played : Cal l.prog w K mg base "played" ["doors", "state", "plan"] 1 (spPlayedG K) := ok_played T D_played
  have H_play : Cal l.prog w K mg base "play" ["house", "state", "plan"] 8 (spPlayG K) := ok_play T D_play H_need_state H_need_plan H_doors_by_ends H_played
  have H_Session_init : CalI l.prog w K mg base C_Session ["self", "house", "state"] 8 (spSesI K C_Session) := ok_Session_init T cl_Session D_Session_init H_need_state H_doors_by_ends
  have H_Session_make : CalM l.prog w K mg base C_Session "make" ["self", "plan"] 2 (spSesMake K C_Session) := ok_Session_make T cl_Session D_Session_make H_played
  have H_Session_play : CalM l.prog w K mg base C_Session "play" ["self", "plan"] 8 (spSesMake K C_Session) := ok_Session_play T cl_Session D_Session_play H_need_plan H_Session_make
  have H_Session_moves : CalM l.prog w K mg base C_Session "moves" ["self"] 1 (spSesMoves K C_Session) := ok_Session_moves T cl_Session D_Session_moves
  have H_Session_eq : CalM l.prog w K mg base C_Session "__eq__" ["self", "other"] 1 (spSesEq K C_Session) := ok_Session_eq T cl_Session ic_Session D_Session_eq
  have H_l_parts_right : Cal l.prog w K mg base "_law_parts_right" ["_law_doors", "_law_position", "_law_steps_here", "_law_cut"] 10 (spParts K) := ok_l_parts_right T cl_Session ic_Session ne_Session D_l_parts_right H_play H_Session_init H_Session_play H_Session_moves H_Session_eq
  have H_l_door : Cal l.prog w K mg base "_law_door" ["_law_doors", "_law_step"] 3 (spLDoor K) := ok_l_door T D_l_door H_neighbours
  have H_l_exchange_right : Cal l.prog w K mg base "_law_exchange_right" ["_law_doors", "_law_position", "_law_steps_here"] 9 (spExch K) := ok_l_exchange_right T D_l_exchange_right H_play H_l_door
  have H_l_changes_right : Cal l.prog w K mg base "_law_changes_right" ["_law_generator_here", "_law_doors", "_law_position", "_law_steps_here"] 9 (spChg K) := ok_l_changes_right T D_l_changes_right H_l_door H_play H_random
  exact ok_law T (fun_mk (st := s_law) l32 c32 k32) H_generator H_random H_random_house H_random_state H_random_steps H_l_parts_right H_l_exchange_right H_l_changes_right
end K5

open PySem PySem.W PyProof.Rows
set_option maxHeartbeats 0 in
theorem PySem.Challenge.cw_lastthrough_k82_whole_plans_joined_and_e_holds : PySem.Challenge.rw_lastthrough_k82_whole_plans_joined_and_e.Holds := by
  w_on; o_law; k_head; (case hw => w_witness2)
  k_fill
  refine L2.walk_of (l := PySem.Challenge.rw_lastthrough_k82_whole_plans_joined_and_e) (n := 63) (k := 11) (x := "_law_script") (CX := fun _ => L2.CX0) (sp := fun w => K5.spLaw _) rfl (by decide) rfl ⟨rfl, by decide, by decide⟩ (fun w h Y => PySem.W.kIn_of Y) ?F (fun _ _ a ns hl _ hS => ⟨a, ns, rfl, hS, hl, fun _ => rfl⟩) (fun _ _ _ _ _ h => h)
  case F =>
    intro w mg fa h KX G hmg
    refine' K5.all_mk KX G hmg ?a0 ?l0 ?c0 ?k0 ?a1 ?l1 ?c1 ?k1 ?a2 ?l2 ?c2 ?k2 ?a3 ?l3 ?c3 ?k3 ?a4 ?l4 ?c4 ?k4 ?a5 ?l5 ?c5 ?k5 ?a6 ?l6 ?c6 ?k6 ?a7 ?l7 ?c7 ?k7 ?a8 ?l8 ?c8 ?k8 ?a9 ?l9 ?c9 ?k9 ?a10 ?l10 ?c10 ?k10 ?a11 ?l11 ?c11 ?k11 ?a12 ?l12 ?c12 ?k12 ?a13 ?l13 ?c13 ?k13 ?a14 ?l14 ?c14 ?k14 ?a15 ?l15 ?c15 ?k15 ?a16 ?l16 ?c16 ?k16 ?a17 ?l17 ?c17 ?k17 ?a18 ?l18 ?c18 ?k18 ?a19 ?l19 ?c19 ?k19 ?a20 ?l20 ?c20 ?k20 ?a21 ?l21 ?c21 ?k21 ?a22 ?l22 ?c22 ?k22 ?a23 ?l23 ?c23 ?k23 ?a24 ?l24 ?c24 ?k24 ?a25 ?l25 ?c25 ?k25 ?a26 ?l26 ?c26 ?k26 ?a27 ?l27 ?c27 ?k27 ?a28 ?l28 ?c28 ?k28 ?a29 ?l29 ?c29 ?k29 ?a30 ?l30 ?c30 ?k30 ?a31 ?l31 ?c31 ?k31 ?a32 ?l32 ?c32 ?k32 ?cgSession ?cpSession ?chSession ?coSession ?csSession ?ccSession ?cnSession ?ctSession ?cmSession ?ceSession ?cqSession ?ckSession ?ckpSession ?cf0_Session ?cf1_Session ?cf2_Session ?cf3_Session ?cf4_Session ?mtSession_init ?miSession_init ?mlSession_init ?mcSession_init ?mkSession_init ?mtSession_play ?miSession_play ?mlSession_play ?mcSession_play ?mkSession_play ?mtSession_make ?miSession_make ?mlSession_make ?mcSession_make ?mkSession_make ?mtSession_moves ?miSession_moves ?mlSession_moves ?mcSession_moves ?mkSession_moves ?mtSession_eq ?miSession_eq ?mlSession_eq ?mcSession_eq ?mkSession_eq ?z0 ?z1 ?z2 ?z3 ?z4 ?z5 ?z6 ?z7 ?z8 ?z9 ?z10 ?z11 ?z12
    (case a0 => k_is)
    (case l0 => k_is)
    (case c0 => k_is)
    (case k0 => k_is)
    (case a1 => k_is)
    (case l1 => k_is)
    (case c1 => k_is)
    (case k1 => k_is)
    (case a2 => k_is)
    (case l2 => k_is)
    (case c2 => k_is)
    (case k2 => k_is)
    (case a3 => k_is)
    (case l3 => k_is)
    (case c3 => k_is)
    (case k3 => k_is)
    (case a4 => k_is)
    (case l4 => k_is)
    (case c4 => k_is)
    (case k4 => k_is)
    (case a5 => k_is)
    (case l5 => k_is)
    (case c5 => k_is)
    (case k5 => k_is)
    (case a6 => k_is)
    (case l6 => k_is)
    (case c6 => k_is)
    (case k6 => k_is)
    (case a7 => k_is)
    (case l7 => k_is)
    (case c7 => k_is)
    (case k7 => k_is)
    (case a8 => k_is)
    (case l8 => k_is)
    (case c8 => k_is)
    (case k8 => k_is)
    (case a9 => k_is)
    (case l9 => k_is)
    (case c9 => k_is)
    (case k9 => k_is)
    (case a10 => k_is)
    (case l10 => k_is)
    (case c10 => k_is)
    (case k10 => k_is)
    (case a11 => k_is)
    (case l11 => k_is)
    (case c11 => k_is)
    (case k11 => k_is)
    (case a12 => k_is)
    (case l12 => k_is)
    (case c12 => k_is)
    (case k12 => k_is)
    (case a13 => k_is)
    (case l13 => k_is)
    (case c13 => k_is)
    (case k13 => k_is)
    (case a14 => k_is)
    (case l14 => k_is)
    (case c14 => k_is)
    (case k14 => k_is)
    (case a15 => k_is)
    (case l15 => k_is)
    (case c15 => k_is)
    (case k15 => k_is)
    (case a16 => k_is)
    (case l16 => k_is)
    (case c16 => k_is)
    (case k16 => k_is)
    (case a17 => k_is)
    (case l17 => k_is)
    (case c17 => k_is)
    (case k17 => k_is)
    (case a18 => k_is)
    (case l18 => k_is)
    (case c18 => k_is)
    (case k18 => k_is)
    (case a19 => k_is)
    (case l19 => k_is)
    (case c19 => k_is)
    (case k19 => k_is)
    (case a20 => k_is)
    (case l20 => k_is)
    (case c20 => k_is)
    (case k20 => k_is)
    (case a21 => k_is)
    (case l21 => k_is)
    (case c21 => k_is)
    (case k21 => k_is)
    (case a22 => k_is)
    (case l22 => k_is)
    (case c22 => k_is)
    (case k22 => k_is)
    (case a23 => k_is)
    (case l23 => k_is)
    (case c23 => k_is)
    (case k23 => k_is)
    (case a24 => k_is)
    (case l24 => k_is)
    (case c24 => k_is)
    (case k24 => k_is)
    (case a25 => k_is)
    (case l25 => k_is)
    (case c25 => k_is)
    (case k25 => k_is)
    (case a26 => k_is)
    (case l26 => k_is)
    (case c26 => k_is)
    (case k26 => k_is)
    (case a27 => k_is)
    (case l27 => k_is)
    (case c27 => k_is)
    (case k27 => k_is)
    (case a28 => k_is)
    (case l28 => k_is)
    (case c28 => k_is)
    (case k28 => k_is)
    (case a29 => k_is)
    (case l29 => k_is)
    (case c29 => k_is)
    (case k29 => k_is)
    (case a30 => k_is)
    (case l30 => k_is)
    (case c30 => k_is)
    (case k30 => k_is)
    (case a31 => k_is)
    (case l31 => k_is)
    (case c31 => k_is)
    (case k31 => k_is)
    (case a32 => k_is)
    (case l32 => k_is)
    (case c32 => k_is)
    (case k32 => k_is)
    (case cgSession => k_is)
    (case cpSession => k_is)
    (case chSession => k_is)
    (case coSession => k_is)
    (case csSession => k_is)
    (case ccSession => k_is)
    (case cnSession => first | k_is | rfl)
    (case ctSession => first | k_is | rfl)
    (case cmSession => first | k_is | rfl)
    (case ceSession => first | k_is | rfl)
    (case cqSession => k_is)
    (case ckSession => k_is)
    (case ckpSession => k_is)
    (case cf0_Session => k_is)
    (case cf1_Session => k_is)
    (case cf2_Session => k_is)
    (case cf3_Session => k_is)
    (case cf4_Session => k_is)
    (case mtSession_init => k_is)
    (case miSession_init => k_is)
    (case mlSession_init => k_is)
    (case mcSession_init => k_is)
    (case mkSession_init => k_is)
    (case mtSession_play => k_is)
    (case miSession_play => k_is)
    (case mlSession_play => k_is)
    (case mcSession_play => k_is)
    (case mkSession_play => k_is)
    (case mtSession_make => k_is)
    (case miSession_make => k_is)
    (case mlSession_make => k_is)
    (case mcSession_make => k_is)
    (case mkSession_make => k_is)
    (case mtSession_moves => k_is)
    (case miSession_moves => k_is)
    (case mlSession_moves => k_is)
    (case mcSession_moves => k_is)
    (case mkSession_moves => k_is)
    (case mtSession_eq => k_is)
    (case miSession_eq => k_is)
    (case mlSession_eq => k_is)
    (case mcSession_eq => k_is)
    (case mkSession_eq => k_is)
    (case z0 => k_is)
    (case z1 => k_is)
    (case z2 => k_is)
    (case z3 => k_is)
    (case z4 => k_is)
    (case z5 => k_is)
    (case z6 => k_is)
    (case z7 => k_is)
    (case z8 => k_is)
    (case z9 => k_is)
    (case z10 => k_is)
    (case z11 => k_is)
    (case z12 => k_is)

