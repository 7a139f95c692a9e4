import PyProof.Rows.All
import Wide.All
import OpenK.AllK
import Wide.FinOn
import HandS.ForMost
import HandS.Walk
import HandS.IsInst
import HandS.Conv
import HandS.Strs
import HandS.Style
import HandS.Sort
import HandS.SortRule
import HandS.Wide
import HandS.WideBits
import HandS.TupAny
import KE.GoesMore
import KE.GoesEnum
import KE.GoesNew
import HandS.ForExc
import HandS.ExcInit
import HandS.ExcField
import HandS.ExcIs
import HandS.TupSets
import HandS.Evl
import HandS.Ends
import HandS.RaiseMore
import PyProof.ReprReads
import HandS.More
import KE.KDictList
import HandS.SetFor
import HandS.ExcOwn
import HandS.ExcValue
import KE.SortData
import HandS.Flow
import HandS.Deep
import KE.KDictKeyed
import KE.KeyNested
import KE.KDictDisplayH
import PySem.Challenge.RW_lastthrough_k28_origins_against_all_stat
set_option Elab.async false
set_option linter.all false
set_option maxRecDepth 100000
set_option maxHeartbeats 4000000
/-! rules of our own: powers of any size, enumerate of a tuple, a pair turned by its step, a set made of a list of numbers -/
namespace L2
open PySem PySem.Spec PyProof.Rows
theorem op_powX {X : Cx} : OpR X (binaryOp .Pow) (rI (fun i j => 0 ≤ j ∧ (Builtin.Int.intBits i : Int) * j ≤ 2 ^ 27) fun i j => .int (i ^ j.toNat)) := opI fun _ _ _ _ _ _ _ hc q => pow_int hc.1 hc.2 q

/-! ### enumerate of a tuple: by what its iterator draws (GoesN) -/
def IteT (K : PySem.W.Frag) (a : Addr) : It where
  go i H := ∃ (xs : List V) (x : V), SqT K H a xs ∧ xs[i]? = some x
  yld i H v H' := ∃ T x, v = .ref T ∧ H T = none ∧ H' = upd H T (.tup [.int (i : Nat), x]) ∧ ∀ xs, SqT K H a xs → xs[i]? = some x
  stop i H := ∃ xs : List V, SqT K H a xs ∧ xs.length = i
/-- the three objects differ: their classes do -/
theorem enum_apart {h : Heap} {e it t : Addr} {i : Int} {old : Value} {j : Nat} {items : Array Value} (he : IsEnum h e it i old) (hi : h.IsTupleIter it t j) (ht : h.IsTuple t items) : e ∉ [it, t] ∧ t ≠ it := by
  obtain ⟨o, ho, hc, _⟩ := ht
  obtain ⟨oi, hoi, hci, _⟩ := hi
  have he' : h.get? e = some _ := he
  have n1 : e ≠ t := fun z => by
    rw [z, ho] at he'
    rw [← Option.some.inj he'.symm] at hc
    exact absurd (Value.type.inj hc) (by decide)
  have n2 : t ≠ it := fun z => by
    rw [z, hoi] at ho
    rw [← Option.some.inj ho, hci] at hc
    exact absurd (Value.type.inj hc) (by decide)
  have n3 : e ≠ it := fun z => by
    rw [z, hoi] at he'
    rw [← Option.some.inj he'.symm] at hci
    exact absurd (Value.type.inj hci) (by decide)
  exact ⟨by simp [n1, n3], n2⟩
/-- where the walk stands at its i-th turn -/
def EnT (a e it : Addr) (i : Nat) (h : Heap) : Prop := (∃ old, IsEnum h e it (0 + (i : Int)) old) ∧ h.IsTupleIter it a i ∧ e ≠ it
theorem EnT.lts {a e it : Addr} {i : Nat} {h : Heap} (st : EnT a e it i h) : ∀ b ∈ [e, it], b < h.objs.size := fun b hb => by
  obtain ⟨⟨old, he⟩, ⟨u, hu, _⟩, _⟩ := st
  rcases (List.mem_cons.mp hb : b = e ∨ b ∈ [it]) with z | z
  · exact z ▸ Heap.lt_size he
  · exact (List.mem_singleton.mp z) ▸ Heap.lt_size hu
theorem goesT {prog : Program} {w : World} {A : Around} {elts : List Expr} {kk : Nat} {tpos : Pos} (hh : A.handled = none) {a e it : Addr} {items : Array Value} (ne : e ≠ it) (ap : e ∉ [it, a] ∧ a ≠ it) :
    GoesN prog w A (.Tuple elts kk tpos) e [e, it, a] [e, it] items.size (fun i h0 v h => ∃ T t x, v = .ref T ∧ h0.objs.size ≤ T ∧ items[i]? = some x ∧ h.IsTuple T #[.int (0 + (i : Int)) t, x])
      (fun i h => (∃ old, IsEnum h e it (0 + (i : Int)) old) ∧ h.IsTupleIter it a i ∧ h.IsTuple a items) :=
  GoesN.enumFrom 0 (Draws.tuple (A := A.in1) hh it a ap.2 items) e ne ap.1 (by simp)
theorem turn_enumT {P : Program} {w : World} {K : PySem.W.Frag} {elts : List Expr} {kk : Nat} {tpos : Pos} (a e it : Addr) : Turn P w K (.Tuple elts kk tpos) (IteT K a) [e, it] e (EnT a e it) where
  mem := List.mem_cons_self
  obj := by
    rintro i h ⟨⟨old, he⟩, ⟨u, hu, _, hd⟩, _⟩ b hb
    rcases (List.mem_cons.mp hb : b = e ∨ b ∈ [it]) with rfl | m
    · exact ⟨_, he, by intro v z; cases z⟩
    · rw [List.mem_singleton.mp m]
      exact ⟨u, hu, by intro v z; rw [hd] at z; cases z⟩
  keep := by
    rintro i h h' ⟨⟨old, he⟩, ht, hn⟩ k
    exact ⟨⟨old, k _ List.mem_cons_self _ he⟩, ht.at (k it (List.mem_cons_of_mem _ (List.mem_singleton.mpr rfl))), hn⟩
  item := by
    rintro X rfl rfl rfl calm i pins s σ H E I hf st ⟨xs, x, hq, hx⟩
    have lts := st.lts
    obtain ⟨⟨old, he⟩, ht, hn⟩ := st
    obtain ⟨its, vals, tup, _⟩ := I.tuple hq
    obtain ⟨u, hu, ru⟩ := vals.get hx
    have hu' : its.toArray[i]? = some u := by
      rw [List.getElem?_toArray]
      exact hu
    have len : i < its.toArray.size := (Array.getElem?_eq_some_iff.mp hu').1
    refine (goesT (I.ok.hd calm) hn (enum_apart he ht tup)).goes i s _ _ len ⟨⟨old, he⟩, ht, tup⟩ fun v h' tk hY st' keep _ => ?_
    obtain ⟨T, t, y, rfl, nT, hy, hT⟩ := hY
    cases hu'.symm.trans hy
    have ok : ObjOk X.prog X.w (upd H T (.tup [.int (i : Nat), x])) h' T (.tup [.int (i : Nat), x]) :=
      ⟨by show 2 ≤ sizeLine; decide, [.int (0 + (i : Int)) t, u], .cons ⟨t, by rw [Int.zero_add]⟩ (.cons ru .nil), hT⟩
    refine ⟨.ref T, _, I.turnedNew keep hf nT ok, rfl, ⟨T, x, rfl, I.hok.fresh nT, rfl, fun ys hy => ?_⟩, ⟨st'.1, st'.2.1, hn⟩, fun b hb => ?_⟩
    · rw [I.tuple_inj hy hq]
      exact hx
    · rw [upd_ne (Nat.ne_of_lt (Nat.lt_of_lt_of_le (lts b hb) nT))]
      exact (hf b hb).1
  done := by
    rintro X rfl rfl rfl calm i pins s σ H E I hf ⟨⟨old, he⟩, ht, hn⟩ ⟨xs, hq, rfl⟩
    obtain ⟨its, vals, tup, _⟩ := I.tuple hq
    have sz : its.toArray.size = xs.length := by rw [List.size_toArray, vals.length]
    have g := goesT (prog := X.prog) (w := X.w) (elts := elts) (kk := kk) (tpos := tpos) (items := its.toArray) (I.ok.hd calm) hn (enum_apart he ht tup)
    refine g.stops s _ _ ⟨⟨old, by rw [sz]; exact he⟩, by rw [sz]; exact ht, tup⟩ fun h' tk keep _ => I.turnedL keep hf
  self := by
    rintro A i s Q E ⟨⟨old, he⟩, _⟩ q
    exact wpAny_pyIter_enum he q
/-- the object that enumerate makes over the iterator at i -/
abbrev enumOver (i : Addr) : Obj := { cls := .type "enumerate", data := .fields #[.none, .bool false, .ref i, rawInt 0, .none, .none] }
set_option maxHeartbeats 1200000 in
theorem enum_made {v : Value} {o : Obj} {C : Heap → Prop} (B : Begins v o C) : Meets (Builtin.«enumerate.__new__» ⟨[.type "enumerate", v], []⟩) (fun _ R s =>
    C s.heap ∧ R (.ok (.ret (.ref (s.heap.push o).objs.size))) { s with heap := (s.heap.push o).push (enumOver s.heap.objs.size) }) := by
  refine .of_wp fun prog w A R s ⟨c, h⟩ => ?_
  obtain ⟨hp, gs, dr, tk, os⟩ := s
  have sub := sub_enumerate
  have begun : ∀ {A' : Around} {E Q : Value → Shared → Prop}, Q (.ref hp.objs.size) ⟨hp.push o, gs, dr, tk, os⟩ → wpAny (model prog w) A' (pyIter v) Q E ⟨hp, gs, dr, tk, os⟩ := fun q => B.iter prog w _ _ _ _ c q
  wp_walk using begun
  refine wpAny_stack_any fun _ => ?_
  refine wpAny_pure ?_
  split
  · rename_i k _ _ _ _ _
    cases (k == Value.type "enumerate") <;> (wp_walk using begun; exact ⟨_, rfl, h⟩)
  · wp_walk using begun
    exact ⟨_, rfl, h⟩
theorem enum_call {prog : Program} {w : World} {A : Around} {E : Value → Shared → Prop} {s : Shared} {v : Value} {o : Obj} {C : Heap → Prop} (B : Begins v o C) (c : C s.heap) {Q : Value → Shared → Prop}
    (h : Q (.ref (s.heap.objs.size + 1)) { s with heap := (s.heap.push o).push (enumOver s.heap.objs.size) }) : wpAny (model prog w) A (call (.type "enumerate") [v]) Q E s := by
  have sz : (s.heap.push o).objs.size = s.heap.objs.size + 1 := Heap.size_push ..
  refine callType_new F.called_enumerate (by decide) (F.typeCall_enumerate_1 _) (F.newCall_enumerate_1 _)
    (fun obj => F.args_object_init_2 obj _) F.entry_enumerate_new (enum_made B) ⟨c, ?_⟩
  rw [← sz] at h
  refine ⟨?_, h⟩
  exact ⟨_, Heap.get?_push_size _ rfl, rfl⟩
def iEnumT (K : PySem.W.Frag) (ta : TA) : TI := fun σ H R => ta σ H fun vs H1 => ∃ a xs, vs = [.ref a] ∧ SqT K H1 a xs ∧ R (IteT K a) H1
theorem pi_enumT {X : Cx} {e : Expr} {ta : TA} {p pos tpos : Pos} {elts : List Expr} {kk : Nat} (hg : Gl X "enumerate") (hm : X.mg "enumerate" = none) (ha : PA X [e] ta) (one : starEach [e] X.env = [(false, eval e X.env)] := by rfl) :
    PI X (.Tuple elts kk tpos) (.Call (.Name "enumerate" p) [e] [] pos) (iEnumT X.K ta) := by
  constructor
  intro pins s σ H R I h
  refine Call_ (ld_blt I hg hm boot_enumerate (callWith_type1 (thn (ha.run pos pins s σ H _ I h) ?_) one rfl))
  rintro us s1 ⟨vs, H1, I1, r1, a, xs, rfl, hq, q⟩
  obtain ⟨u, rfl, (ru : u = .ref a)⟩ := vals1 r1
  subst ru
  obtain ⟨its, vals, tup, _⟩ := I1.tuple hq
  refine enum_call (begins_tuple a its.toArray) tup (wpAny_pyIter_enum (i := 0) (old := .none) (it := s1.heap.objs.size) ?_ ?_)
  all_goals have sz : (s1.heap.push { cls := .type "tuple_iterator", data := .fields #[.ref a, .int 0 0] }).objs.size = s1.heap.objs.size + 1 := Heap.size_push ..
  all_goals have get := Heap.get?_push_size (s1.heap.push { cls := .type "tuple_iterator", data := .fields #[.ref a, .int 0 0] }) (o := enumOver s1.heap.objs.size) rfl
  all_goals rw [sz] at get
  · exact get
  · have I2 : Inv X pins σ H1 { s1 with heap := (s1.heap.push { cls := .type "tuple_iterator", data := .fields #[.ref a, .int 0 0] }).push (enumOver s1.heap.objs.size) } :=
      I1.kept (t' := s1.toks) fun b ob k => Heap.get?_push_of_some _ (Heap.get?_push_of_some _ k)
    refine ⟨s1.heap.objs.size + 1, [s1.heap.objs.size + 1, s1.heap.objs.size], _, _, H1, rfl, I2, turn_enumT a _ s1.heap.objs.size, ⟨⟨.none, get⟩, ⟨_, Heap.get?_push_of_some _ (Heap.get?_push_size _ rfl), rfl, rfl⟩, Nat.succ_ne_self _⟩, fun b hb => ?_, q⟩
    have above : s1.heap.objs.size ≤ b := by
      rcases (List.mem_cons.mp hb : b = s1.heap.objs.size + 1 ∨ _) with rfl | m
      · exact Nat.le_succ _
      · exact Nat.le_of_eq (List.mem_singleton.mp m).symm
    exact I1.fpOk above (I1.hok.fresh above)
theorem walk_enumT {K : PySem.W.Frag} {a : Addr} {xs : List V} : Walk (IteT K a) xs.length (fun H => SqT K H a xs) (YPair (fun i => some (.int (i : Nat))) (fun i => xs[i]?)) where
  goes := fun i _ hi q => ⟨xs, _, q, List.getElem?_eq_getElem hi⟩
  stops := fun _ q => ⟨xs, q, rfl⟩
  yields := by
    rintro i H v H' _ q ⟨T, x, e1, e2, e3, e4⟩
    exact ⟨T, _, x, e1, e2, e3, rfl, e4 xs q⟩

/-! ### a pair turned by its step: t[::k], k one or minus one -/
section
variable {prog : Program} {w : World} {A : Around} {s : Shared} {E : Value → Shared → Prop}
/-- the slice object [::k] applied to n items -/
theorem applied_stp {sl : Addr} {vs : Value} {k : Int} {n : Nat} {Q : Int × Int × Nat → Shared → Prop} (hs : s.heap.IsSliceOf sl .none .none vs) (ps : IsPart vs (some k)) (h0 : ¬ (k == 0) = true)
    (h : Q ((Builtin.Slice.sliceAdjust none none k (n : Int)).1, k, Builtin.Slice.slicePlaces (Builtin.Slice.sliceAdjust none none k (n : Int)).1 (Builtin.Slice.sliceAdjust none none k (n : Int)).2 k) s) : wpAny (model prog w) A (Builtin.Slice.sliceApplied (.ref sl) (pure (n : Int))) Q E s := by
  obtain ⟨so, hso, _, dso⟩ := id hs
  delta Builtin.Slice.sliceApplied Builtin.Slice.sliceFields
  have read : ∀ {j : Nat} {y : Value} {α : Type} {f : Value → Sem α} {R : α → Shared → Prop}, #[Value.none, Value.none, vs][j]? = some y → wpAny (model prog w) A (f y) R E s → wpAny (model prog w) A (field (.ref sl) j >>= f) R E s := fun e q => wpAny_bind (wpAny_field hso dso e q)
  refine wpAny_bind (read rfl (read rfl (read rfl (wpAny_pure ?_))))
  refine wpAny_bind (HT.slicePart_ ps ?_)
  show wpAny _ _ (if (k == 0) = true then _ else _) _ _ s
  rw [if_neg h0]
  exact wpAny_bind (HT.slicePart_ .none (wpAny_bind (HT.slicePart_ .none (wpAny_bind (wpAny_pure (wpAny_pure h))))))
theorem pair_stp {t sl : Addr} {x y : Value} {vs : Value} {k : Int} {Q : Value → Shared → Prop} (ht : IsTup s.heap t #[x, y]) (hs : s.heap.IsSliceOf sl .none .none vs) (ps : IsPart vs (some k))
    (h : (k = 1 ∧ Q (.ref t) s) ∨ (k = -1 ∧ Q (.ref s.heap.objs.size) { s with heap := s.heap.push { cls := .type "tuple", data := .seq #[y, x] } })) : wpAny (model prog w) A (getItem (.ref t) (.ref sl)) Q E s := by
  have isS : s.TypeIs (.ref sl) "slice" := let ⟨so, a, b, _⟩ := id hs; ⟨so, a, b⟩
  unfold getItem
  refine wpAny_holding (wpAny_bind (wpAny_sequenceKey ht.typeIs (by decide) (wpAny_bind ?_)))
  refine wpAny_callSpecial?_slot (name := Str.ofString "__getitem__") ht.typeIs slot_tuple_getitem ?_
  refine wpAny_call_entry slot_tuple_getitem ht.typeIs entry_tuple_getitem ?_ (args_tuple_getitem _ _)
  show wpAny _ _ (Builtin.Tuple.tupleItemsOf _ >>= _) _ _ s
  refine wpAny_bind (tupleItemsOf_ ht (wpAny_bind (wpAny_typeOf isS ?_)))
  rw [if_pos (by decide)]
  rcases h with ⟨rfl, h⟩ | ⟨rfl, h⟩ <;> refine wpAny_bind (applied_stp (n := 2) hs ps (by decide) ?_)
  · show wpAny _ _ (if (((0 : Int) == 0 && (1 : Int) == 1 && (2 : Nat) == 2) = true) then _ else _) _ _ s
    rw [if_pos (by decide)]
    have whole : wpAny (model prog w) A.in1 (Builtin.Tuple.tupleIsExact (.ref t)) (fun b s' => b = true ∧ s' = s) (fun _ _ => False) s := by
      show wpAny _ _ (typeOf (.ref t) >>= _) _ _ s
      exact wpAny_bind (wpAny_typeOf ht.typeIs (wpAny_pure ⟨by decide, rfl⟩))
    refine wpAny_bind (wpAny_mono whole ?_ fun _ _ z => z.elim)
    rintro b s' ⟨rfl, rfl⟩
    rw [if_pos rfl]
    first | exact wpAny_bind (wpAny_rule (wpAny_pure ⟨_, rfl, wpAny_pure h⟩)) | exact wpAny_bind (wpAny_rule (wpAny_bind (wpAny_pure (wpAny_pure ⟨_, rfl, wpAny_pure h⟩))))
  · show wpAny _ _ (if (((1 : Int) == 0 && (-1 : Int) == 1 && (2 : Nat) == 2) = true) then _ else _) _ _ s
    rw [if_neg (by decide)]
    have sz : sizeOk (.seq #[y, x]) := by show 2 ≤ sizeLine; decide
    first
      | exact wpAny_bind (m := Builtin.Tuple.tupleExact #[y, x]) (wpAny_newObj_type (wpAny_pure ⟨_, rfl, wpAny_pure h⟩) sz)
      | exact wpAny_bind (m := Builtin.Tuple.tupleExact #[y, x]) (wpAny_newObj_type (wpAny_bind (wpAny_pure (wpAny_pure ⟨_, rfl, wpAny_pure h⟩))) sz)
      | exact wpAny_bind (wpAny_bind (m := Builtin.Tuple.tupleExact #[y, x]) (wpAny_newObj_type (wpAny_pure (wpAny_pure ⟨_, rfl, wpAny_pure h⟩)) sz))
      | exact wpAny_bind (wpAny_bind (m := Builtin.Tuple.tupleExact #[y, x]) (wpAny_newObj_type (wpAny_pure ⟨_, rfl, wpAny_pure h⟩) sz))
end
def tStp (K : PySem.W.Frag) (te tk : TE) : TE := fun σ H Q => te σ H fun x H1 => tk σ H1 fun z H2 => ∃ a u v, x = .ref a ∧ SqT K H2 a [u, v] ∧ ((z = .int 1 ∧ Q (.ref a) H2) ∨ (z = .int (-1) ∧ ∀ p, H2 p = none → Q (.ref p) (upd H2 p (.tup [v, u]))))
theorem no_part {X : Cx} {pins : List (Addr × Obj)} {σ : St} {H : Hp} {s : Shared} {Q : Value → Shared → Prop} (I : Inv X pins σ H s) (h : Q .none s) : wpAny (model X.prog X.w) X.A (evalPart none X.env) Q X.xe s := by
  rw [evalPart_none]
  exact wpAny_pure h
theorem pe_stp {X : Cx} {e st : Expr} {te tk : TE} {p3 pos : Pos} (he : PE X e te) (hk : PE X st tk) (hp : ∀ o i, subscripted (.Slice none none (some st) p3) false o i = operate [o, i] (getItem o i) := by intro _ _; rfl) : PE X (.Subscript e (.Slice none none (some st) p3) pos) (tStp X.K te tk) := by
  constructor
  intro pins s σ H Q I h
  refine Subscript_ (thn (he.run pins s σ H _ I h) ?_)
  rintro v s1 ⟨x, H1, I1, r1, q1⟩
  refine wpAny_Slice (no_part I1 (no_part I1 ?_))
  rw [evalPart_some]
  refine thn (hk.run pins s1 σ H1 _ I1 q1) ?_
  rintro vs s2 ⟨z, H2, I2, rz, a, y1, y2, rfl, hx, q⟩
  obtain rfl : v = .ref a := r1
  have I3 : Inv X pins σ H2 { s2 with heap := s2.heap.push { cls := .type "slice", data := .fields #[.none, .none, vs] } } := I2.kept (t' := s2.toks) fun b ob k => Heap.get?_push_of_some _ k
  obtain ⟨its, r, ht, _⟩ := I3.tuple hx
  obtain ⟨w1, w2, rfl, rw1, rw2⟩ := vals2 r
  have isS := Heap.IsSliceOf.new s2.heap .none .none vs
  have isT : Shared.TypeIs { s2 with heap := s2.heap.push { cls := .type "slice", data := .fields #[.none, .none, vs] } } (.ref a) "tuple" := ht.typeIs
  rcases q with ⟨rfl, q⟩ | ⟨rfl, q⟩ <;> obtain ⟨t, rfl⟩ := rz
  · exact tail_any isT slot_tuple_getitem.lookup (pair_stp ht isS (.int 1 t) (.inl ⟨rfl, .ref a, H2, I3, rfl, q⟩)) (hp _ _)
  · have laid := I3.laid (t' := s2.toks) (o := .tup [y2, y1]) (fun b ob k => Heap.get?_push_of_some { cls := .type "tuple", data := .seq #[w2, w1] } k) (Nat.le_refl _) ⟨by show 2 ≤ sizeLine; decide, [w2, w1], .cons rw2 (.cons rw1 .nil), IsTup.new _ _⟩
    exact tail_any isT slot_tuple_getitem.lookup (pair_stp ht isS (.int (-1) t) (.inr ⟨rfl, .ref _, _, laid, rfl, q _ (I3.hok.fresh (Nat.le_refl _))⟩)) (hp _ _)

/-! ### set(list of ints), k not in it -/
def rSetI (K : PySem.W.Frag) : List V → Hp → VK → Prop := fun xs H Q => ∃ (a : Addr) (ns : List Int), xs = [.ref a] ∧ SqL K H a (ns.map V.int) ∧ ns.length + 1 < scanBound ∧ ∀ p S n, H p = none → (∀ k, S k = decide (k ∈ ns)) → Q (.ref p) (upd H p (.set S n))
theorem getD_any (k : Int) : ∀ ns : List Int, (((List.range ns.length).map fun i => ns.getD i 0).any (· == k)) = decide (k ∈ ns) := by
  intro ns
  have e : ((List.range ns.length).map fun i => ns.getD i 0) = ns := by
    apply List.ext_getElem?
    intro i
    rw [List.getElem?_map]
    by_cases h : i < ns.length
    · rw [List.getElem?_range h, List.getElem?_eq_getElem h]
      simp [List.getD_eq_getElem?_getD, List.getElem?_eq_getElem h]
    · rw [List.getElem?_eq_none (by simpa using Nat.le_of_not_lt h), List.getElem?_eq_none (Nat.le_of_not_lt h)]
      rfl
  rw [e]
  by_cases h : k ∈ ns
  · rw [decide_eq_true h]
    exact List.any_eq_true.mpr ⟨k, h, beq_self_eq_true k⟩
  · rw [decide_eq_false h]
    refine List.any_eq_false.mpr fun x hx hb => h ?_
    rw [← eq_of_beq hb]
    exact hx
theorem cr_setI {X : Cx} (hc : X.calm = true) : CallR X (.type "set") (rSetI X.K) := by
  rintro pins s σ H xs us Q I r ⟨a, ns, rfl, hs, hn, q⟩
  obtain ⟨u, rfl, (ru : u = .ref a)⟩ := vals1 r
  subst ru
  obtain ⟨its, rv, hl, few⟩ := I.list hs
  have len : its.length = ns.length := by rw [← rv.length, List.length_map]
  refine call_set_list (I.ok.hd hc) hl.isList (intsAre_of rv) (by rw [List.size_toArray, len]; exact hn) fun h' tk hS hk => ?_
  have laid := I.laid (t' := tk) (o := .set _ _) (fun b o e => hk b o (Heap.lt_size e) e) (Nat.le_refl _) hS
  refine ⟨.ref _, _, laid, rfl, q _ _ _ (I.hok.fresh (Nat.le_refl _)) fun k => ?_⟩
  rw [firstMet_any, List.size_toArray, len]
  exact getD_any k ns
def rSNotI : V → V → Hp → VK → Prop := fun x y H Q => ∃ k a S n, x = V.int k ∧ y = V.ref a ∧ H a = some (.set S n) ∧ Q (.bl (!S k)) H
theorem op_notset {X : Cx} : OpR X (compareOp .NotIn) rSNotI := by
  rintro pins s σ H x y v u Q I rx ry ⟨k, a, S, n, rfl, rfl, ha, q⟩
  obtain ⟨tk, rfl⟩ := rx
  obtain rfl : u = .ref a := ry
  have at_a : s.heap.SetOf (intKind X.prog X.w) a S n := I.hok a _ ha
  exact wpAny_notInSet_of (intKind_is _ _ _ _) rfl at_a ⟨.bl (!S k), H, I.tok _, rfl, q⟩

/-! a def that the top holds; what a caller uses of it -/
def Def (K : PySem.W.Frag) (mg : Str → Option Value) (x : Str) (st : Stmt) : Prop := ∃ (f : Addr) (fd : FuncData), Fun K x x st f fd ∧ mg x = some (.ref f)
def Cal (P : Program) (w : World) (K : PySem.W.Frag) (mg : Str → Option Value) (base : Heap) (x : Str) (ps : List Str) (k : Nat) (sp : Sp) : Prop :=
  ∃ (f : Addr) (fd : FuncData), mg x = some (.ref f) ∧ PySem.W.keepIn K (.ref f) = true ∧ Binds K fd ps [] ∧ FnOk P w K mg base CX0 k f fd ps sp
theorem Def.ok {P : Program} {w : World} {K : PySem.W.Frag} {mg : Str → Option Value} {base : Heap} {x : Str} {st : Stmt} {N ps : List Str} {k : Nat} {sp : Sp} (D : Def K mg x st) (S : FnScope N ps (defScope st))
    (hb : ∀ (kV doc pm : Value) (an : Option Addr) (cdv ct : Value) (us : List Value), us.length = ps.length → bindArgs (PySem.W.fnOf x x (defArgs st) (defBody st) (defScope st) .none kV doc pm an cdv ct) ⟨us, []⟩ = pure (ps.zip us))
    (ar : ∀ vs H Q E, sp vs H Q E → vs.length = ps.length)
    (hbody : ∀ (f : Addr) (cdv : Value) (A : Around) (outer : List Env) (s : Shared) (H : Hp) (vs : List V) (Q : VK) (E : XK), Room k (A.deeper (envOfC x (defScope st) s.heap.objs.size f cdv)) → sp vs H Q E →
      ∃ t, PSs (cxOf CX0 P w K mg base N x (defScope st) f cdv A outer s H E).nox (defBody st) t ∧ t { nx := fun _ H' => Q .non H', rt := Q } (start N vs) H) : Cal P w K mg base x ps (k + 1) sp := by
  obtain ⟨f, fd, F, m⟩ := D
  exact ⟨f, fd, m, F.kp, F.binds hb, F.ok S ar fun cdv A outer s H vs Q E hr h => hbody f cdv A outer s H vs Q E hr h⟩

/-! heaps -/
/-- all but what stands at a is as it was -/
def But (a : Addr) (H H' : Hp) : Prop := ∀ b o, b ≠ a → H b = some o → H' b = some o
theorem Same.but {a : Addr} {H H' : Hp} (s : Same H H') : But a H H' := fun b o _ e => s b o e
theorem But.trans {a : Addr} {H H1 H2 : Hp} (x : But a H H1) (y : But a H1 H2) : But a H H2 := fun b o n e => y b o n (x b o n e)
theorem Same.upd {H : Hp} {p : Addr} {o : HO} (h : H p = none) : Same H (upd H p o) := fun b x e => by
  rw [upd_ne (ne_of_none e h)]
  exact e
theorem But.upd {a : Addr} {H H' : Hp} (x : But a H H') (o : HO) : But a H (upd H' a o) := fun b u n e => by
  rw [upd_ne n]
  exact x b u n e
/-- what is new at p may change: all that stood in H stands -/
theorem Same.at {H H' : Hp} {p : Addr} {o : HO} (s : Same H H') (h : H p = none) : Same H (L2.upd H' p o) := fun b x e => by
  rw [upd_ne (ne_of_none e h)]
  exact s b x e
theorem But.same {a : Addr} {H0 H H' : Hp} (s : Same H0 H) (n : H0 a = none) (b : But a H H') : Same H0 H' := fun c o e => b c o (ne_of_none e n) (s c o e)
theorem Same.tup {K : PySem.W.Frag} {H H' : Hp} {a : Addr} {xs : List V} (e : Same H H') (h : SqT K H a xs) : SqT K H' a xs := by
  rcases h with (z | ⟨o, z⟩) | z
  · exact .inl (.inl (e _ _ z))
  · exact .inl (.inr ⟨o, e a _ z⟩)
  · exact .inr z
theorem But.tup {K : PySem.W.Frag} {H H' : Hp} {g a : Addr} {xs ys : List V} (e : But g H H') (hg : H g = some (.lst ys)) (h : SqT K H a xs) : SqT K H' a xs := by
  rcases h with (z | ⟨o, z⟩) | z
  · exact .inl (.inl (e _ _ (ne_of z hg (by intro q; cases q)) z))
  · exact .inl (.inr ⟨o, e _ _ (ne_of z hg (by intro q; cases q)) z⟩)
  · exact .inr z
theorem ref_same {H H' : Hp} {a : Addr} {o : HO} (s : Same H H') (h : H a = some o) : H' a = some o := s _ _ h
end L2

/-! own rules: an error that a clause has caught and a local keeps behind the clause; its fields, isinstance of it by its own class -/
namespace L2
open PySem PySem.Spec PyProof.Rows
/-- a caught error, kept: its class, its own dict's address -/
def exk (a : Addr) (cls : Value) (d : Option Addr) : HO :=
  .ext fun g => ∃ ob fs, g.get? a = some ob ∧ Zc cls d ob ∧ ob.data = Data.fields fs
theorem exk_ok {P : Program} {w : World} {H : Hp} {g : Heap} {a : Addr} {cls : Value} {d : Option Addr} {ob : Obj} {fs : Array Value} (e : g.get? a = some ob) (z : Zc cls d ob) (f : ob.data = Data.fields fs) : ObjOk P w H g a (exk a cls d) := by
  refine ⟨⟨ob, fs, e, z, f⟩, ⟨ob, e⟩, ?_⟩
  rintro g1 g2 ⟨ob1, fs1, e1, z1, f1⟩ st
  exact ⟨ob1, fs1, st ob1 e1, z1, f1⟩
theorem exk_at {P : Program} {w : World} {H : Hp} {g : Heap} {a : Addr} {cls : Value} {d : Option Addr} (ok : HOk P w H g) (e : H a = some (exk a cls d)) : ∃ ob fs, g.get? a = some ob ∧ Zc cls d ob ∧ ob.data = Data.fields fs := by
  have z : ObjOk P w H g a (.ext _) := ok a _ e
  exact z.1
section
variable {X : Cx} {H : Hp} {s : Shared} {pins : List (Addr × Obj)} {σ : St}
/-- behind the clause the error is an object of the heap as any other -/
theorem Inv.regain {a : Addr} {cls : Value} {d : Option Addr} {ob : Obj} {fs : Array Value} (I : Inv X pins σ H s) (e : s.heap.get? a = some ob) (z : Zc cls d ob) (f : ob.data = Data.fields fs) (n0 : X.s_0.heap.get? a = none)
    (nl : a ≠ X.env.locals) (np : ∀ p ∈ X.pn ++ pins, p.1 ≠ a) (na : H a = none) : Inv X pins σ (upd H a (exk a cls d)) s where
  ok := I.ok
  os := I.os
  bare := I.bare
  base :=
    { keep := I.base.keep
      slot := I.base.slot
      free := fun b o q n x => by
        have ne : b ≠ a := fun y => by rw [y, n0] at q; cases q
        rw [upd_ne ne]
        exact I.base.free b o q n x
      there := I.base.there
      tups := fun b xs q => by
        have q1 := I.base.tups b xs q
        rw [upd_ne (ne_of_none q1 na)]
        exact q1
      frzs := fun b o u q => by
        have q1 := I.base.frzs b o u q
        rw [upd_ne (ne_of_none q1 na)]
        exact q1
      tbls := fun b ps q => by
        obtain ⟨m, q1⟩ := I.base.tbls b ps q
        rw [upd_ne (ne_of_none q1 na)]
        exact ⟨m, q1⟩ }
  loc := I.loc
  cell := I.cell
  free := by
    rw [upd_ne (Ne.symm nl)]
    exact I.free
  freeC := fun x c q => by
    have ne : c ≠ a := fun y => by
      obtain ⟨v, o, q1, q2⟩ := I.cell x c q
      rw [y, e] at q1
      cases q1
      rw [f] at q2
      exact nomatch q2
    rw [upd_ne ne]
    exact I.freeC x c q
  pin := fun p hp => by
    obtain ⟨q1, q2, q3⟩ := I.pin p hp
    rw [upd_ne (np p hp)]
    exact ⟨q1, q2, q3⟩
  hok := fun b o q => by
    by_cases y : b = a
    · subst y
      rw [upd_same] at q
      cases q
      exact exk_ok e z f
    · rw [upd_ne y] at q
      refine (I.hok b o q).stay (fun _ _ _ r => r) (fun c r => ?_) fun c xs r => ?_
      · rw [upd_ne (ne_of_none r na)]
        exact r
      · rw [upd_ne (ne_of_none r na)]
        exact r
  len := I.len
/-- the wish of the clause 'except x as n', the error kept -/
def wKeep (K : PySem.W.Frag) (c : Value) (i : Nat) (ts : Addr → Value → Option Addr → TS) (Wout : WX) (D : Ends) : WX := fun cls d σ H =>
  ∃ y, PySem.W.exmOne K cls c = some y ∧ (y = false → Wout cls d σ H) ∧ (y = true → ∀ a, H a = none →
    ts a cls d ⟨fun σ1 H1 => D.nx (σ1.set i none) (upd H1 a (exk a cls d)), fun v H1 => D.rt v (upd H1 a (exk a cls d)), fun σ1 H1 => D.bk (σ1.set i none) (upd H1 a (exk a cls d)), fun σ1 H1 => D.ct (σ1.set i none) (upd H1 a (exk a cls d))⟩ (σ.set i (some (.ref a))) H)

variable {x n : Str} {c : Value} {i : Nat} {work suite : List Stmt} {st0 : Stmt} {np q1 q2 : Pos} {tw : WX → TS} {ts : Addr → Value → Option Addr → TS} {Wout : WX}
/-- try: work / except x as n: suite, the error kept behind it -/
theorem ps_try_keep (e1 : X.stack = X.env :: X.outer) (e2 : X.env.frame = some X.env.locals) (e3 : X.ex = []) (nd : X.N.Nodup) (ni : X.N[i]? = some n) (nk : X.env.kindOf n = some .local) (nm : Names X x c) (tk : Takes X Wout)
    (W1 : ∀ (W : WX) (pn : List (Addr × Obj)) (xe : Value → Shared → Prop), Takes (X.tr pn xe) W → PassesOwn (model X.prog X.w) X.A X.env xe → PSs (X.tr pn xe) work (tw W))
    (W2 : ∀ (a : Addr) (ob : Obj) (cls : Value) (d : Option Addr) (pn : List (Addr × Obj)), Zc cls d ob → (∃ fs, ob.data = .fields fs) → PSs (X.suite a ((a, ob) :: pn)) (st0 :: suite) (ts a cls d)) :
    PS X (.Try work [.ExceptHandler (some (.Name x np)) (some n) (st0 :: suite) q1] [] [] q2) (fun D σ H => tw (wKeep X.K c i ts Wout D) D σ H) := by
  constructor
  intro pins s σ H D I h
  have ok := I.ok
  have frm : X.A.frames = some (X.env :: X.outer) := ok.frames.trans (congrArg some e1)
  apply wpAny_Try_except
  have caught : ∀ (xe0 : Value → Shared → Prop) (er : Value) (s9 : Shared), XE (X.tr (X.pn ++ pins) xe0) (wKeep X.K c i ts Wout D) er s9 →
      wpAny (model X.prog X.w) X.A (noteFrame er X.env) (fun _ s₂ => wpAny (model X.prog X.w) X.A (setFlight er none) (fun _ s₃ =>
        wpAny (model X.prog X.w) X.A (handleBy er X.env [.ExceptHandler (some (.Name x np)) (some n) (st0 :: suite) q1]) (SP X pins D) X.xe s₃) X.xe s₂) X.xe s9 := by
    rintro xe0 er s9 ⟨a, B, sI, pins1, σ1, H1, cls, d, rfl, J0, nb, up, sky, na, os, ag, y, ey, no, yes⟩
    have J1 : Inv X pins σ1 H1 sI := J0.ofTry ok
    have sky1 : Sky B (X.env :: X.outer) a (Zc cls d) X.env.locals s9.heap := e1 ▸ sky
    refine Sky.land Zc.steady frm e2 sky1 fun g3 fl3 up3 => ?_
    have J3 : Inv X pins σ1 H1 { s9 with heap := g3 } := J1.landed nb fl3.1 (up.trans up3) os ag
    obtain ⟨ob3, fs3, at3, z3, d3⟩ := fl3.there
    have off : ∀ {g : Heap} {ob : Obj} {fs : Array Value}, g.FunFrames B (X.env :: X.outer) → g.get? a = some ob → ob.data = Data.fields fs → a ∉ frs (X.env :: X.outer) := by
      intro g ob fs ff q r m
      obtain ⟨_, o1, r1, r2⟩ := ff.mem m
      rw [q] at r1
      cases r1
      exact r2 _ r
    have n1 := off fl3.2.2.1 at3 d3
    have nL : a ≠ X.env.locals := by
      intro y
      refine n1 (List.mem_filterMap.mpr ⟨X.env, List.mem_cons_self, ?_⟩)
      rw [e2, y]
    have nF : a ∉ X.fs := by
      intro m
      obtain ⟨v, m1, m2⟩ := List.mem_filterMap.mp m
      exact n1 (List.mem_filterMap.mpr ⟨v, List.mem_cons_of_mem _ m1, m2⟩)
    -- the error is new: it stood neither in the state at the raise nor at the def's start
    have nI : sI.heap.get? a = none := by
      cases q : sI.heap.get? a with
      | none => rfl
      | some o =>
        have r := nb a o q (by rw [e1]; exact n1)
        rw [fl3.2.1] at r
        cases r
    have unborn : X.s_0.heap.get? a = none := by
      cases q : X.s_0.heap.get? a with
      | none => rfl
      | some o =>
        obtain ⟨o1, r⟩ := J1.base.there a o q (by rw [e3]; simp)
        rw [nI] at r
        cases r
    have nP : ∀ p ∈ X.pn ++ pins, p.1 ≠ a := by
      intro p m y
      obtain ⟨r, _⟩ := J1.pin p m
      rw [y, nI] at r
      cases r
    have S3 := J3.suite at3 d3 na nL nF
    refine wpAny_handleBy_cons (codeAny_handlers_test ?_) (fun q => by cases q)
    have lt : PySem.W.Looks (model X.prog X.w) g3 (typeOf (.ref a)) cls := by
      intro A Q E sx k q
      refine wpAny_typeOf_ref (k _ _ at3) ?_
      rw [z3.1]
      exact q
    have lm := PySem.W.exm_one (M := model X.prog X.w) J3.kIn lt ey
    have named : ∀ {Q : Value → Shared → Prop} {E : Value → Shared → Prop}, Q c { s9 with heap := g3 } → wpAny (model X.prog X.w) (X.A.mark (some (.ref a))) (eval (.Name x np) X.env) Q E { s9 with heap := g3 } := by
      intro Q E q
      obtain ⟨m1, m2, m3⟩ := nm
      rcases m3 with m3 | ⟨m3, m4, m5⟩
      · exact ld_glob (X := X.suite a ((a, ob3) :: (X.pn ++ pins))) S3 m1 m3 q m2
      · exact ld_blt (X := X.suite a ((a, ob3) :: (X.pn ++ pins))) S3 m1 m3 m4 q m5 m2
    apply named
    apply lm.here
    cases y with
    | true =>
      apply codeAny_handlers_suite_as
      refine HandSPX.lands_againZ fl3 fun g4 fl4 up4 => ?_
      have J4 : Inv X pins σ1 H1 { s9 with heap := g4 } := J1.landed nb fl4.1 ((up.trans up3).trans up4) os ag
      obtain ⟨ob4, fs4, at4, z4, d4⟩ := fl4.there
      have S4 := J4.suite at4 d4 na nL nF
      refine store_ok (X := X.suite a ((a, ob4) :: (X.pn ++ pins))) (v := .ref a) S4 nd ni (.inl nk) rfl (fun s5 S5 => ?_) (.inr nk)
      refine wpAny_mono ((W2 a ob4 cls d (X.pn ++ pins) z4 ⟨_, d4⟩).run [] s5 _ H1 _ S5 (yes rfl a na)) (fun f s6 sp6 => ?_) (fun _ _ z => z.elim)
      have past : ∀ {σ6 : St} {H6 : Hp} {G : Shared → Prop}, Inv (X.suite a ((a, ob4) :: (X.pn ++ pins))) [] σ6 H6 s6 → (∀ s7, Inv X pins (σ6.set i none) (upd H6 a (exk a cls d)) s7 → G s7) →
          wpAny (model X.prog X.w) X.A (do bindName X.env n .none; unbindBehindTheSuite X.env n q1) (fun _ s7 => G s7) X.xe s6 := by
        intro σ6 H6 G S6 g
        obtain ⟨p1, p2, _⟩ := S6.pin (a, ob4) (List.mem_append_left _ List.mem_cons_self)
        exact gone_ok ((S6.unsuite ok).regain p1 z4 d4 unborn nL nP p2) nd ni nk g
      cases f with
      | next =>
        obtain ⟨σ6, H6, S6, r⟩ := sp6
        exact past S6 fun s7 J7 => ⟨_, _, J7, r⟩
      | brk =>
        obtain ⟨σ6, H6, S6, r⟩ := sp6
        exact past S6 fun s7 J7 => ⟨_, _, J7, r⟩
      | cont =>
        obtain ⟨σ6, H6, S6, r⟩ := sp6
        exact past S6 fun s7 J7 => ⟨_, _, J7, r⟩
      | ret u =>
        obtain ⟨v6, σ6, H6, S6, rr, r⟩ := sp6
        exact past S6 fun s7 J7 => ⟨_, _, _, J7, rr, r⟩
    | false =>
      change wpAny _ X.A (handleBy (.ref a) X.env []) _ _ _
      apply wpAny_handleBy_nil
      obtain ⟨_, _, _, ob, fs, T, oT, ts', at_e, z_e, d_e, f_e, r_e⟩ := id fl3
      unfold PySem.passOn
      refine wpAny_bind (wpAny_field at_e d_e f_e ?_)
      rw [if_neg (by simp)]
      have onward : wpAny (model X.prog X.w) X.A (setFlight (.ref a) X.env.frame) (fun _ s4 => wpAny (model X.prog X.w) X.A (throw (.ref a) : Sem Flow) (SP X pins D) X.xe s4) X.xe { s9 with heap := g3 } := by
        rw [e2]
        refine HandSPX.setFlight_upZ fl3 fun g4 hh4 up4 => wpAny_throw (tk _ _ ⟨a, B, sI, pins, σ1, H1, cls, d, rfl, J1, nb, (up.trans up3).trans up4, .inr (.inr ?_), na, os, ag, no rfl⟩)
        rw [e1]
        exact hh4
      first
        | exact wpAny_bind (wpAny_pure (wpAny_bind onward))
        | exact wpAny_bind onward
  refine wpAny_mono ((W1 (wKeep X.K c i ts Wout D) (X.pn ++ pins) _ (fun u s9 xx => caught _ u s9 xx) PassesOwn.looking).run [] s σ H D (I.toTry _) h) (fun f s9 sp => ?_) (fun e s9 he => he)
  cases f with
  | next =>
    obtain ⟨σ1, H1, J1, q⟩ := sp
    exact wpAny_execs_nil ⟨σ1, H1, J1.ofTry ok, q⟩
  | brk =>
    obtain ⟨σ1, H1, J1, q⟩ := sp
    exact ⟨σ1, H1, J1.ofTry ok, q⟩
  | cont =>
    obtain ⟨σ1, H1, J1, q⟩ := sp
    exact ⟨σ1, H1, J1.ofTry ok, q⟩
  | ret u =>
    obtain ⟨v, σ1, H1, J1, r, q⟩ := sp
    exact ⟨v, σ1, H1, J1.ofTry ok, r, q⟩

/-- err.f, err a kept error of the class at C -/
def tKf (C : Addr) (f : Str) (te : TE) : TE := fun σ H Q => te σ H fun v H1 => ∃ (a d : Addr) (fs : List (Str × V)) (y : V), v = .ref a ∧ H1 a = some (exk a (.ref C) (some d)) ∧ H1 d = some (.xd fs) ∧ fs.lookup f = some y ∧ Q y H1
theorem pe_kf {C : Addr} {e : Expr} {te : TE} {pos : Pos} {f : Str} (T : XfC X.K C) (no : PySem.W.findIn X.K (.ref C) f = some none) (he : PE X e te) (hb : attributeBase e f X.env (eval e X.env) = eval e X.env := by rfl) : PE X (.Attribute e f pos) (tKf C f te) := by
  constructor
  intro pins s σ H Q I h
  refine attr_of hb (thn (he.run pins s σ H _ I h) ?_)
  rintro u s1 ⟨v, H1, I1, rv, a, d, fs, y, rfl, ha, hd, l, q⟩
  obtain rfl : u = Value.ref a := rv
  obtain ⟨ob, vs, g1, z, g2⟩ := exk_at I1.hok ha
  have od1 : ObjOk X.prog X.w H1 s1.heap d (.xd fs) := I1.hok d _ hd
  obtain ⟨m, ns, rl⟩ := od1
  obtain ⟨od, o1, o2⟩ := lookIn_ns ns
  have rl' := rl f
  rw [l] at rl'
  obtain ⟨u, hu, ru⟩ := RelO.some_of (v := y) (o := m f) rl'
  have J : PySem.W.InstAt s1.heap a ob C (some od) := by
    refine ⟨g1, z.1, ?_, ?_⟩
    · unfold PySem.W.notCls
      rw [g2] <;> rfl
    · rw [z.2]
      exact o1
  refine HandSPX.exc_get I1.kIn J T.ga T.gg T.exC (PySem.W.findObj_own T.hdC no rfl ?_) (handed_of ru) ⟨y, H1, I1.tok _, ru, q⟩
  rw [o2, hu]

/-- isinstance(err, C), err of just that class -/
def rIsK (C : Addr) : List V → Hp → VK → Prop := fun xs H Q => ∃ (a : Addr) (d : Option Addr), xs = [.ref a, .ref C] ∧ H a = some (exk a (.ref C) d) ∧ Q (.bl true) H
theorem answers_self {a : Addr} {c : Value} : Answers (fun s => ∃ ob, s.heap.get? a = some ob ∧ ob.cls = c) (.ref a) c true := by
  intro dep tk prog w A R s hs
  obtain ⟨g, g2, d, tt, os⟩ := s
  obtain ⟨⟨ob, e, z⟩, q⟩ := hs
  have lt : PySem.W.Looks (model prog w) g (typeOf (.ref a)) c := by
    intro A Q E sx k q
    refine wpAny_typeOf_ref (k _ _ e) ?_
    rw [z]
    exact q
  (unfold Builtin.«isinstance.nested»)
  refine wpAny_bind (lt.at ?_)
  rw [if_pos (beq_self_eq_true c)]
  first
    | exact wpAny_bind (wpAny_rule (q tt))
    | exact wpAny_bind (wpAny_rule (wpAny_pure (q tt)))
    | exact wpAny_pure (q tt)
theorem call_isK {C : Addr} : CallR X (.builtin "isinstance") (rIsK C) := by
  rintro pins s σ H xs us Q I r ⟨a, d, rfl, e, q⟩
  obtain ⟨y1, y2, rfl, ry1, ry2⟩ := vals2 r
  obtain rfl : y1 = Value.ref a := ry1
  obtain rfl : y2 = Value.ref C := ry2
  obtain ⟨ob, vs, g1, z, g2⟩ := exk_at I.hok e
  exact call_isinstance (S := fun _ R s => (∃ ob, s.heap.get? a = some ob ∧ ob.cls = .ref C) ∧ ∀ tk, R (.ok (.ret (.bool true))) { s with toks := tk })
    (fun prog w A R s hs => isinstance_outer (answers_self 0 _ prog w A R s hs) (fun z => nomatch z)) ⟨⟨ob, g1, z.1⟩, fun tk => ⟨.bl true, H, I.tok tk, rfl, q⟩⟩
end
end L2

/-! own rules: defs that are called while nothing is being shown (no guard stands), so that repr of nested data is its text -/
namespace L2
open PySem PySem.Spec PyProof.Rows
/-- a def's promise, told where no guard stands -/
structure FnG (P : Program) (w : World) (K : PySem.W.Frag) (mg : Str → Option Value) (base : Heap) (k : Nat) (f : Addr) (fd : FuncData) (ps : List Str) (sp : Sp) : Prop where
  ar : ∀ vs H Q E, sp vs H Q E → vs.length = ps.length
  go : ∀ (A : Around) (outer : List Env) (s : Shared) (H : Hp) (args : Args) (us : List Value) (vs : List V) (Q : VK) (E : XK), Room k A → A.guards = some [] → Env0 P w K mg base A outer s H → BindsTo s fd args (ps.zip us) → Vals vs us → sp vs H Q E →
    codeAny (model P w) A (.call (.ref f) args) (CR CX0 outer P w H s Q E) s
section
variable {P : Program} {w : World} {K : PySem.W.Frag}
      {mg : Str → Option Value} {base : Heap}
theorem Fun.okG {x qual : Str} {st : Stmt} {f : Addr} {fd : FuncData} {N ps : List Str} {k : Nat} {sp : Sp} (F : Fun K x qual st f fd) (S : FnScope N ps (defScope st)) (ar : ∀ vs H Q E, sp vs H Q E → vs.length = ps.length)
    (body : ∀ (cdv : Value) (A : Around) (outer : List Env) (s : Shared) (H : Hp) (vs : List V) (Q : VK) (E : XK), Room k (A.deeper (envOfC qual (defScope st) s.heap.objs.size f cdv)) → (A.deeper (envOfC qual (defScope st) s.heap.objs.size f cdv)).guards = some [] → sp vs H Q E →
      ∃ t, PSs (cxOf CX0 P w K mg base N qual (defScope st) f cdv A outer s H E).nox (defBody st) t ∧ t { nx := fun _ H' => Q .non H', rt := Q } (start N vs) H) : FnG P w K mg base (k + 1) f fd ps sp := by
  obtain ⟨oc, od, kV, doc, pm, an, cdv, ct, osl, rfl, at_f, code⟩ := F.ex
  refine ⟨ar, fun A outer s H args us vs Q E room quiet e0 bind rel h => ?_⟩
  have inK : K.In s.heap := e0.mod.kin.keeps fun b o e => (e0.bs b o e).1
  have noLim : s.heap.NoLimit := e0.mod.nolimit.keeps fun b o e => (e0.bs b o e).1
  have arity := ar _ _ _ _ h
  have kinds : ∀ y ∈ ps.zip us, (defScope st).names.lookup y.1 = some .local ∨ ((defScope st).names.lookup y.1 = some .cell ∧ ((cellsFrom (s.heap.objs.size + 1) (defScope st).names []).lookup y.1).isSome = true) := by
    rintro ⟨n, v⟩ hy
    rcases S.par n (List.of_mem_zip
          hy).1 with q | q
    · exact .inl q
    · exact .inr ⟨q, PySem.W.cellsFrom_some
          _ _ _ (.inl q)⟩
  refine codeAny_call_function room.depth (inK _ _ at_f) rfl S.co S.gen rfl (PySem.W.codeRec_of inK code) (bind _ _ _ _ ?_)
  refine wpAny_newFunctionEnv_cells S.kind kinds fun env same s1 made => ?_
  subst same
  refine ⟨noLim.keeps made.toInCall.keep, codeAny_func ?_⟩
  obtain ⟨t, der, rd⟩ := body cdv A outer s H vs Q E (room.deeper _) quiet h
  have I : Inv (cxOf CX0 P w K mg base N qual (defScope st) f cdv A outer s H E) [] (start N vs) H s1 := inv_start S room.hd e0 arity rel made
  refine wpAny_mono (der.nox.run [] s1 (start N vs) H _ I rd) (fun fl s2 z => ?_) fun _ _ z => z
  cases fl with
  | ret u =>
    obtain ⟨v, σ2, H2, J, rv, q⟩ := z
    exact ⟨v, H2, J.os, J.bare, J.base, J.hok, rv, q⟩
  | next =>
    obtain ⟨σ2, H2, J, q⟩ := z
    exact ⟨.non, H2, J.os, J.bare, J.base, J.hok, rfl, q⟩
  | brk =>
    obtain ⟨_, _, _, q⟩ := z
    exact q.elim
  | cont =>
    obtain ⟨_, _, _, q⟩ := z
    exact q.elim
/-- a call of such a def -/
theorem pe_callG {X : Cx} {k : Nat} {f : Addr} {fd : FuncData} {ps : List Str} {sp : Sp} {x : Str} {p pos : Pos} {e : Expr} {es : List Expr} {t : TA} (F : FnG X.prog X.w X.K X.mg X.base k f fd ps sp) (hr : Room k X.A) (hq : X.A.guards = some []) (hg : Gl X x) (hm : X.mg x = some (.ref f)) (hk : PySem.W.keepIn X.K (.ref f) = true)
    (hb : Binds X.K fd ps []) (ha : PA X (e :: es) t) (hdb : (x == ("__debug__" : Str)) = false := by decide) (he : starEach (e :: es) X.env = (false, eval e X.env) :: starEach es X.env := by rfl) (hpl : (backTo pos (starEach es X.env)).any (·.1) = false := by rfl) :
    PE X (.Call (.Name x p) (e :: es) [] pos) (tCall sp [] E0 t) := by
  constructor
  intro pins s σ H Q I h
  refine wpAny_Call_Name_kw
        (ld_glob I hg hm ?_ hdb)
  refine PySem.W.callWith_K (h₀ := X.base) I.ok.mod.kin hk (thn (ha.run pos pins s σ H _ I h) ?_) he hpl
  rintro us s1 ⟨vs, H1, I1, r, q⟩
  refine ⟨I1.kIn, ?_⟩
  have q' : sp vs H1 Q E0 := by
    have z : sp (vs ++ []) H1 Q E0 := q
    rwa [List.append_nil] at z
  have n : us.length = ps.length := by rw [← r.length]; exact F.ar _ _ _ _ q'
  have b := hb s1 us I1.kIn (by rw [List.append_nil]; exact n)
  rw [List.append_nil] at b
  refine wpAny_call (codeAny_mono (F.go X.A X.stack s1 H1 ⟨us, []⟩ us vs Q E0 hr hq I1.env0 b r q') fun res s2 z => ?_)
  cases res with
  | error er => exact (show False from z).elim
  | ok fl =>
    cases fl with
    | ret u => exact I1.after z
    | next => exact (show False from z).elim
    | brk => exact (show False from z).elim
    | cont => exact (show False from z).elim
/-- repr of nested data -/
def rRepD (K : PySem.W.Frag) : List V → Hp → VK → Prop := fun xs H Q => ∃ (a : Addr) (d : PyData), xs = [.ref a] ∧ Dp K H (.ref a) d ∧ d.showable = true ∧ d.hasDict = false ∧ d.depth ≤ 20 ∧ d.shown.length ≤ sizeLine ∧ Q (.str d.shown) H
theorem call_reprD {X : Cx} (hq : X.A.guards = some []) (hu : X.A.units + 64 < cLine) : CallR X (.builtin "repr") (rRepD X.K) := by
  rintro pins s σ H xs us Q I r ⟨a, d, rfl, dp, sh, nd, dep, sz, q⟩
  obtain ⟨u, rfl, (ru : u = .ref a)⟩ := vals1 r
  subst ru
  obtain ⟨as, rd⟩ := Dp.reads I d _ _ dp rfl
  refine repr_of_reads' rd sh (fun z => by rw [nd] at z; cases z) hq (by omega) (fun _ _ e => e) (fun h' u tk k => ?_) sz
  exact ⟨.str d.shown, H, I.kept k, ⟨u, rfl⟩, q⟩
/-- the law's own call -/
theorem law_callG {mb : Str → Option Value} {k : Nat} {fa a : Addr} {fd : FuncData} {x : Str} {sp : Sp} {s₁ : Shared} {vs : List Value} {ns : List Int} (inK : K.In s₁.heap) (glob : s₁.heap.Ns mainGlobals mg) (bi : s₁.heap.Ns builtinsNs mb) (bb : ∀ y : Str, y ≠ "__name__" → mb y = bootBuiltins y)
    (noLim : s₁.heap.NoLimit) (noGen : s₁.gens = #[]) (list : s₁.heap.get? a = some { cls := .type "list", data := .seq vs.toArray }) (wholes : IntsAre vs ns) (size : ns.length ≤ sizeLine) (room : Room k callerA)
    (F : ∀ base : Heap, K.In base → base.Ns mainGlobals mg → FnG P w K mg base k fa fd [x] sp) (bind : ∀ (s : Shared) (u : Value), BindsTo s fd ⟨[u], []⟩ [(x, u)]) (h : ∀ H : Hp, Only H → SqL K H a (ns.map V.int) → sp [.ref a] H (fun v _ => v = .bl true) fun _ _ _ => False) :
    codeAny (model P w) callerA (.call (.ref fa) ⟨[.ref a], []⟩) (fun r s' => r = .ok (.ret
          (.bool true)) ∧ OldK s₁.heap s'.heap ∧ s'.os = s₁.os ∧ AllBare s'.gens) s₁ := by
  have items := vals_ints wholes
  have few := wholes.length
  have main : ∀ H : Hp, Only H → SqL K H a (ns.map V.int) → HOk P w H s₁.heap → (∀ b u, H b = some u → b = a ∧ K.lookup a = none) →
      codeAny (model P w) callerA (.call (.ref fa) ⟨[.ref a], []⟩) (fun r s' => r = .ok (.ret
            (.bool true)) ∧ OldK s₁.heap s'.heap ∧ s'.os = s₁.os ∧ AllBare s'.gens) s₁ := by
    intro H only seq ok just
    have under : ∀ {b : Addr} {o : Obj}, s₁.heap.get? b = some o → H b = none → (hidT s₁.heap H).get? b = some o := fun e n => hidT_get e n
    have nsp : ∀ {b : Addr} {m : Str → Option Value}, s₁.heap.Ns b m → (hidT s₁.heap H).Ns b m := by
      rintro b m ⟨o, es, ep, e, d, r⟩
      refine ⟨o, es, ep, under e ?_, d, r⟩
      cases q : H b with
      | none => rfl
      | some u =>
        obtain ⟨rfl, _⟩ := just b u q
        rw [list] at e
        cases e
        exact nomatch (show Data.seq vs.toArray _ = Data.dict es ep from d)
    have inB : K.In (hidT s₁.heap H) := by
      intro b o e
      refine under (inK b o e) ?_
      cases q : H b with
      | none => rfl
      | some u =>
        obtain ⟨rfl, z⟩ := just b u q
        rw [z] at e
        cases e
    have modu : Mod K mg (hidT s₁.heap H) := by
      obtain ⟨mc, l1, l2⟩ := noLim
      exact ⟨inB, nsp glob, ⟨mb, nsp bi, bb⟩, ⟨mc, nsp l1, l2⟩⟩
    have e0 : Env0 P w K mg (hidT s₁.heap H) callerA [] s₁ H := ⟨rfl, modu, fun b o e => of_hidT e, Nat.le_of_eq (hidT_size _ _), trivial, fun b hb => absurd (show b ∈ ([] : List Addr) from hb) List.not_mem_nil, ok, .of_eq noGen⟩
    refine codeAny_mono ((F _ inB (nsp glob)).go callerA [] s₁ H ⟨[.ref a], []⟩ [.ref a] [.ref a] _ _ room rfl e0 (bind s₁ (.ref a)) (.cons rfl .nil) (h H only seq)) fun r s2 z => ?_
    cases r with
    | error e => exact (show False from z).elim
    | ok fl =>
      cases fl with
      | next => exact (show False from z).elim
      | brk => exact (show False from z).elim
      | cont => exact (show False from z).elim
      | ret u =>
        obtain ⟨v, H2, os, bare, un, ok2, rv, (q : v = .bl true)⟩ := z
        subst q
        obtain rfl : u = Value.bool true := rv
        refine ⟨rfl, OldK.of_keep fun
              b o e => ?_, os, bare⟩
        cases q : H b with
        | none => exact un.keep b o e q (by simp [frs]) (by simp)
        | some u =>
          rcases only b with y | ⟨ob, xs, y⟩
          · rw [q] at y
            cases y
          · have y2 := un.frzs b ob _ y
            obtain ⟨e1, _⟩ := ok b _ y
            obtain ⟨e2, _⟩ := ok2 b _ y2
            rw [e] at e1
            cases e1
            exact e2
  cases hk : K.lookup a with
  | some o =>
    have e := inK a o hk
    rw [list] at e
    cases e
    refine main (fun _ => none) (fun _ => .inl rfl) (.inr ⟨_, vs.toArray, _, hk, rfl, rfl, rfl, ?_, by simpa using items⟩) (fun b u z => nomatch (show (none : Option HO) = some u from z)) (fun b u z => nomatch (show (none : Option HO) = some u from z))
    rw [List.size_toArray, few]
    exact size
  | none =>
    have one : ∀ b u, (if b = a then some (HO.frz { cls := .type "list", data := .seq vs.toArray } (.lst (ns.map V.int))) else none) = some u → b = a ∧ u = HO.frz { cls := .type "list", data := .seq vs.toArray } (.lst (ns.map V.int)) := by
      intro b u z
      by_cases y : b = a
      · rw [if_pos y] at z
        exact ⟨y, (Option.some.inj z).symm⟩
      · rw [if_neg y] at z
        cases z
    refine main (fun b => if b = a then some (.frz { cls := .type "list", data := .seq vs.toArray } (.lst (ns.map V.int))) else none) (fun b => ?_) (.inl (.inr ⟨_, if_pos rfl⟩)) (fun b u z => ?_) (fun b u z => ⟨(one b u z).1, hk⟩)
    · by_cases y : b = a
      · exact .inr ⟨_, _, if_pos y⟩
      · exact .inl (if_neg y)
    · obtain ⟨rfl, rfl⟩ := one b u z
      exact ⟨list, by rw [List.length_map]; exact size, vs, _, items, list⟩
end
/-- the head's goal from such a promise -/
theorem walk_ofG {l : PySem.W.OpenLaw} {n k : Nat} {q : Program} {loose : List Str} {XP : (Str → Option Value) → Heap → Prop} {YP : World → Heap → Prop} {d : DefRec} {K : Params → PySem.W.Frag} {sp : World → Sp} {x : Str} (most : l.most = some n) (fits : n ≤ sizeLine) (noDef : d.params.defaults = []) (room : Room k callerA)
    (inK : ∀ (w : World) (h : Heap), YP w h → (K w.params).In h)
    (F : ∀ (w : World) (mg : Str → Option Value) (fa : Addr) (h : Heap), (K
          w.params).In h → h.Ns mainGlobals mg → mg d.name = some (.ref fa) →
      ∃ fd : FuncData, (∀ (s : Shared) (u : Value), BindsTo s fd ⟨[u], []⟩ [(x, u)]) ∧ ∀ base : Heap, (K w.params).In base → base.Ns mainGlobals mg → FnG l.prog w (K w.params) mg base k fa fd [x] (sp w))
    (h : ∀ (w : World) (H : Hp) (a : Addr) (ns : List Int), ns.length ≤ n → Only H → SqL (K w.params) H a (ns.map V.int) → sp w [.ref a] H (fun v _ => v = .bl true) fun _ _ _ => False) :
    PySem.W.WalkO q loose XP YP l.row.toRowW
          d [] (fun f vs => PySem.call f vs) := by
  refine Att.attach_call most noDef fun w s₀ s₁ mg mb fa o pm cd doc a vs ns G Y _ _ _ name list wholes len gens => ?_
  have KX := inK w _ Y
  obtain ⟨fd, bind, made⟩ := F w mg fa _ KX G.T.g name
  exact law_callG KX G.T.g G.T.b G.T.builtins G.T.nolimit gens list wholes (Nat.le_trans len fits) room made bind fun H only seq => h w H a ns len only seq
end L2

/-! trees: the mathematics -/
namespace K5
/-- doors es, each (parent, child), children all different; a bridge each; all connected -/
structure Tr0 (n : Nat) (es : List (Nat × Nat)) : Prop where
  len : es.length + 1 = n
  lt : ∀ e ∈ es, e.1 < n ∧ e.2 < n
  nd : (es.map Prod.snd).Nodup
  side : ∃ side : Nat → Nat → Bool, (∀ e ∈ es, side e.2 e.1 ≠ side e.2 e.2) ∧ ∀ e ∈ es, ∀ f ∈ es, e.2 ≠ f.2 → side e.2 f.1 = side e.2 f.2
  conn : ∀ S : Nat → Prop, (∀ e ∈ es, S e.1 ↔ S e.2) → ∀ x y, x < n → y < n → S x → S y
theorem Tr0.one : Tr0 1 [] where
  len := rfl
  lt := fun _ h => nomatch h
  nd := List.nodup_nil
  side := ⟨fun _ _ => true, fun _ h => (nomatch h), fun _ h => (nomatch h)⟩
  conn := fun S _ x y hx hy h => (show x = y by omega) ▸ h
theorem Tr0.grow {n : Nat} {es : List (Nat × Nat)} (T : Tr0 n es) (o : Nat) (ho : o < n) : Tr0 (n + 1) (es ++ [(o, n)]) := by
  obtain ⟨len, lt, nd, ⟨side, s1, s2⟩, conn⟩ := T
  have hn : ∀ e ∈ es, e.2 ≠ n := fun e h => by have := (lt e h).2; omega
  have hn1 : ∀ e ∈ es, e.1 ≠ n := fun e h => by have := (lt e h).1; omega
  refine ⟨by simp; omega, fun e h => ?_, ?_, ⟨fun c x => if c = n then decide (x = n) else if x = n then side c o else side c x, fun e h => ?_, fun e h f hf hne => ?_⟩, fun S hS x y hx hy h => ?_⟩
  · rcases List.mem_append.mp h with h | h
    · have := lt e h; omega
    · rw [List.mem_singleton.mp h]; exact ⟨Nat.lt_succ_of_lt ho, Nat.lt_succ_self _⟩
  · rw [List.map_append]
    refine List.nodup_append.mpr ⟨nd, by simp, fun a ha b hb => ?_⟩
    obtain ⟨e, he, rfl⟩ := List.mem_map.mp ha
    simp at hb
    rw [hb]
    exact hn e he
  · rcases List.mem_append.mp h with h | h
    · simp only [if_neg (hn e h), if_neg (hn1 e h)]
      exact s1 e h
    · rw [List.mem_singleton.mp h]
      simp only [if_pos rfl]
      rw [decide_eq_false (show ¬ o = n by omega)]
      simp
  · rcases List.mem_append.mp h with h | h
    · simp only [if_neg (hn e h)]
      rcases List.mem_append.mp hf with hf | hf
      · simp only [if_neg (hn f hf), if_neg (hn1 f hf)]
        exact s2 e h f hf hne
      · rw [List.mem_singleton.mp hf]
        simp only [if_neg (show ¬ o = n by omega), if_true]
    · rcases List.mem_append.mp hf with hf | hf
      · rw [List.mem_singleton.mp h]
        simp only [if_true]
        rw [decide_eq_false (hn f hf), decide_eq_false (hn1 f hf)]
      · rw [List.mem_singleton.mp h, List.mem_singleton.mp hf] at hne
        exact absurd rfl hne
  · have h0 : ∀ e ∈ es, S e.1 ↔ S e.2 := fun e he => hS e (List.mem_append.mpr (.inl he))
    have h1 : S o ↔ S n := hS (o, n) (List.mem_append.mpr (.inr (List.mem_singleton.mpr rfl)))
    by_cases ex : x = n
    · subst ex
      have so : S o := h1.mpr h
      by_cases ey : y = x
      · exact ey ▸ h
      · exact conn S h0 o y ho (by omega) so
    · have sx : S o := conn S h0 x o (by omega) ho h
      by_cases ey : y = n
      · exact ey ▸ h1.mp sx
      · exact conn S h0 x y (by omega) (by omega) h
theorem Tr0.perm {n : Nat} {es fs : List (Nat × Nat)} (T : Tr0 n es) (p : fs.Perm es) : Tr0 n fs := by
  obtain ⟨len, lt, nd, ⟨side, s1, s2⟩, conn⟩ := T
  exact ⟨by rw [p.length_eq]; exact len, fun e h => lt e (p.mem_iff.mp h), (p.map Prod.snd).nodup_iff.mpr nd,
    ⟨side, fun e h => s1 e (p.mem_iff.mp h), fun e h f hf => s2 e (p.mem_iff.mp h) f (p.mem_iff.mp hf)⟩,
    fun S hS => conn S fun e h => hS e (p.mem_iff.mpr h)⟩
/-- renamed by a list of names that is a rearrangement of 0 .. n - 1 -/
theorem Tr0.names {n : Nat} {es : List (Nat × Nat)} (T : Tr0 n es) (f g : Nat → Nat) (h1 : ∀ x, x < n → f x < n) (h2 : ∀ x, x < n → g (f x) = x) (h3 : ∀ y, y < n → g y < n ∧ f (g y) = y) :
    Tr0 n (es.map fun e => (f e.1, f e.2)) := by
  obtain ⟨len, lt, nd, ⟨side, s1, s2⟩, conn⟩ := T
  refine ⟨by rw [List.length_map]; exact len, fun e h => ?_, ?_, ⟨fun c x => side (g c) (g x), fun e h => ?_, fun e h e' h' hne => ?_⟩, fun S hS x y hx hy h => ?_⟩
  · obtain ⟨a, ha, rfl⟩ := List.mem_map.mp h
    exact ⟨h1 _ (lt a ha).1, h1 _ (lt a ha).2⟩
  · rw [List.map_map]
    have q : ∀ l : List (Nat × Nat), (∀ e ∈ l, e.2 < n) → (l.map Prod.snd).Nodup → (l.map (Prod.snd ∘ fun e => (f e.1, f e.2))).Nodup := by
      intro l
      induction l with
      | nil => intro _ _; exact List.nodup_nil
      | cons a r ih =>
        intro hl hd
        rw [List.map_cons] at hd ⊢
        obtain ⟨d1, d2⟩ := List.nodup_cons.mp hd
        refine List.nodup_cons.mpr ⟨fun m => d1 ?_, ih (fun e he => hl e (List.mem_cons_of_mem _ he)) d2⟩
        obtain ⟨b, hb, e⟩ := List.mem_map.mp m
        have e' : f b.2 = f a.2 := e
        have : b.2 = a.2 := by rw [← h2 b.2 (hl b (List.mem_cons_of_mem _ hb)), e', h2 a.2 (hl a List.mem_cons_self)]
        exact List.mem_map.mpr ⟨b, hb, this⟩
    exact q es (fun e he => (lt e he).2) nd
  · obtain ⟨a, ha, rfl⟩ := List.mem_map.mp h
    show side (g (f a.2)) (g (f a.1)) ≠ side (g (f a.2)) (g (f a.2))
    rw [h2 _ (lt a ha).1, h2 _ (lt a ha).2]
    exact s1 a ha
  · obtain ⟨a, ha, rfl⟩ := List.mem_map.mp h
    obtain ⟨b, hb, rfl⟩ := List.mem_map.mp h'
    show side (g (f a.2)) (g (f b.1)) = side (g (f a.2)) (g (f b.2))
    rw [h2 _ (lt a ha).2, h2 _ (lt b hb).1, h2 _ (lt b hb).2]
    exact s2 a ha b hb fun e => hne (by show f a.2 = f b.2; rw [e])
  · have q := conn (fun z => S (f z)) (fun e he => hS _ (List.mem_map.mpr ⟨e, he, rfl⟩)) (g x) (g y) (h3 x hx).1 (h3 y hy).1 (by show S (f (g x)); rw [(h3 x hx).2]; exact h)
    have q' : S (f (g y)) := q
    rw [(h3 y hy).2] at q'
    exact q'

/-- a house of n rooms that is a tree, its doors by their numbers, the ends in either order -/
structure Tree (n : Nat) (ds : List (Nat × Nat)) : Prop where
  len : ds.length + 1 = n
  lt : ∀ e ∈ ds, e.1 < n ∧ e.2 < n
  side : ∃ side : Nat → Nat → Bool, (∀ d e, ds[d]? = some e → side d e.1 ≠ side d e.2) ∧ ∀ c d e, ds[d]? = some e → c ≠ d → side c e.1 = side c e.2
  conn : ∀ S : Nat → Prop, (∀ e ∈ ds, S e.1 ↔ S e.2) → ∀ x y, x < n → y < n → S x → S y
/-- pointwise the same up to the order of the ends -/
inductive Flip : List (Nat × Nat) → List (Nat × Nat) → Prop
  | nil : Flip [] []
  | same {e es fs} (h : Flip es fs) : Flip (e :: es) (e :: fs)
  | turn {a b es fs} (h : Flip es fs) : Flip ((a, b) :: es) ((b, a) :: fs)
theorem Flip.len : ∀ {es fs}, Flip es fs → es.length = fs.length
  | _, _, .nil => rfl
  | _, _, .same h => by rw [List.length_cons, List.length_cons, h.len]
  | _, _, .turn h => by rw [List.length_cons, List.length_cons, h.len]
theorem Flip.get : ∀ {es fs}, Flip es fs → ∀ {d : Nat} {f : Nat × Nat}, fs[d]? = some f → ∃ e, es[d]? = some e ∧ (f = e ∨ f = (e.2, e.1))
  | _, _, .nil, d, f, h => by simp at h
  | _, _, .same h, 0, f, e => ⟨_, rfl, .inl (Option.some.inj e).symm⟩
  | _, _, .turn h, 0, f, e => ⟨_, rfl, .inr (Option.some.inj e).symm⟩
  | _, _, .same h, d + 1, f, e => h.get (d := d) e
  | _, _, .turn h, d + 1, f, e => h.get (d := d) e
theorem Flip.get' : ∀ {es fs}, Flip es fs → ∀ {d : Nat} {e : Nat × Nat}, es[d]? = some e → ∃ f, fs[d]? = some f ∧ (f = e ∨ f = (e.2, e.1))
  | _, _, .nil, d, f, h => by simp at h
  | _, _, .same h, 0, f, e => ⟨_, rfl, .inl (Option.some.inj e)⟩
  | _, _, .turn h, 0, f, e => ⟨_, rfl, .inr (by rw [← Option.some.inj e])⟩
  | _, _, .same h, d + 1, f, e => h.get' (d := d) e
  | _, _, .turn h, d + 1, f, e => h.get' (d := d) e
theorem Flip.snoc : ∀ {es fs} (e : Nat × Nat), Flip es fs → Flip (es ++ [e]) (fs ++ [e])
  | _, _, _, .nil => .same .nil
  | _, _, e, .same h => .same (h.snoc e)
  | _, _, e, .turn h => .turn (h.snoc e)
theorem Flip.snocT : ∀ {es fs} (a b : Nat), Flip es fs → Flip (es ++ [(a, b)]) (fs ++ [(b, a)])
  | _, _, _, _, .nil => .turn .nil
  | _, _, a, b, .same h => .same (h.snocT a b)
  | _, _, a, b, .turn h => .turn (h.snocT a b)
theorem Flip.refl : ∀ es, Flip es es
  | [] => .nil
  | _ :: r => .same (Flip.refl r)
theorem Tr0.tree {n : Nat} {es ds : List (Nat × Nat)} (T : Tr0 n es) (F : Flip es ds) : Tree n ds := by
  obtain ⟨len, lt, nd, ⟨side, s1, s2⟩, conn⟩ := T
  refine ⟨by rw [← F.len]; exact len, fun f h => ?_, ⟨fun d x => match es[d]? with | some e => side e.2 x | none => true, fun d f h => ?_, fun c d f h hne => ?_⟩, fun S hS => conn S fun e he => ?_⟩
  · obtain ⟨d, hd⟩ := List.mem_iff_getElem?.mp h
    obtain ⟨e, he, q⟩ := F.get hd
    have := lt e (List.mem_of_getElem? he)
    rcases q with q | q <;> subst q
    · exact this
    · exact ⟨this.2, this.1⟩
  · obtain ⟨e, he, q⟩ := F.get h
    have := s1 e (List.mem_of_getElem? he)
    simp only [he]
    rcases q with q | q <;> subst q
    · exact this
    · exact this.symm
  · obtain ⟨e, he, q⟩ := F.get h
    cases hc : es[c]? with
    | none => simp only [hc]
    | some e' =>
      simp only [hc]
      have hne2 : e'.2 ≠ e.2 := fun z => by
        apply hne
        obtain ⟨hd, hed⟩ := List.getElem?_eq_some_iff.mp he
        obtain ⟨hc', hec⟩ := List.getElem?_eq_some_iff.mp hc
        exact (List.getElem_inj (xs := es.map Prod.snd) (h₀ := by simpa using hc') (h₁ := by simpa using hd) nd).mp (by simp [hed, hec, z])
      have := s2 e' (List.mem_of_getElem? hc) e (List.mem_of_getElem? he) hne2
      rcases q with q | q <;> subst q
      · exact this
      · exact this.symm
  · obtain ⟨d, hd⟩ := List.mem_iff_getElem?.mp he
    obtain ⟨f, hf, q⟩ := F.get' hd
    have := hS f (List.mem_of_getElem? hf)
    rcases q with q | q <;> subst q
    · exact this
    · exact this.symm

/-- door d joins x and y -/
def Joins (ds : List (Nat × Nat)) (d x y : Nat) : Prop := ds[d]? = some (x, y) ∨ ds[d]? = some (y, x)
theorem Joins.symm {ds d x y} (j : Joins ds d x y) : Joins ds d y x := Or.symm j
theorem Joins.other {ds d x y z} (j : Joins ds d x y) (k : Joins ds d x z) (hxy : x ≠ y) : y = z := by
  rcases j with j | j <;> rcases k with k | k <;> rw [j] at k <;> cases k
  · rfl
  · exact absurd rfl hxy
  · exact absurd rfl hxy
  · rfl
/-- a way by the doors of the list -/
inductive Walk (ds : List (Nat × Nat)) : Nat → List Nat → Nat → Prop
  | nil (a) : Walk ds a [] a
  | cons {a c b d p} (j : Joins ds d a c) (w : Walk ds c p b) : Walk ds a (d :: p) b
theorem Walk.snoc {ds a p b d c} (w : Walk ds a p b) (j : Joins ds d b c) : Walk ds a (p ++ [d]) c := by
  induction w with
  | nil a => exact .cons j (.nil _)
  | cons j' w ih => exact .cons j' (ih j)
theorem Walk.app {ds a p b q c} (w : Walk ds a p b) (v : Walk ds b q c) : Walk ds a (p ++ q) c := by
  induction w with
  | nil a => exact v
  | cons j' w ih => exact .cons j' (ih v)
theorem Walk.rev {ds a p b} (w : Walk ds a p b) : Walk ds b p.reverse a := by
  induction w with
  | nil a => exact .nil _
  | cons j w ih =>
    rw [List.reverse_cons]
    exact ih.snoc j.symm
theorem Walk.split {ds} {e : Nat} : ∀ {a p b}, Walk ds a p b → e ∈ p → ∃ p1 p2 x y, p = p1 ++ e :: p2 ∧ Walk ds a p1 x ∧ Joins ds e x y ∧ Walk ds y p2 b
  | _, _, _, .nil a, h => by cases h
  | a, d :: p, b, .cons j w, h => by
    by_cases q : e = d
    · subst q
      exact ⟨[], p, a, _, rfl, .nil _, j, w⟩
    · have h' : e ∈ p := (List.mem_cons.mp h).resolve_left q
      obtain ⟨p1, p2, x, y, e1, w1, j1, w2⟩ := Walk.split w h'
      exact ⟨d :: p1, p2, x, y, by rw [e1]; rfl, .cons j w1, j1, w2⟩
section
variable {n : Nat} {ds : List (Nat × Nat)}
theorem side_join {side : Nat → Nat → Bool} (s1 : ∀ d e, ds[d]? = some e → side d e.1 ≠ side d e.2) {d x y : Nat} (j : Joins ds d x y) : side d x ≠ side d y := by
  rcases j with j | j
  · exact s1 _ _ j
  · exact (s1 _ _ j).symm
theorem side_other {side : Nat → Nat → Bool} (s2 : ∀ c d e, ds[d]? = some e → c ≠ d → side c e.1 = side c e.2) {c d x y : Nat} (j : Joins ds d x y) (h : c ≠ d) : side c x = side c y := by
  rcases j with j | j
  · exact s2 _ _ _ j h
  · exact (s2 _ _ _ j h).symm
theorem side_walk {side : Nat → Nat → Bool} (s2 : ∀ c d e, ds[d]? = some e → c ≠ d → side c e.1 = side c e.2) {c : Nat} : ∀ {a p b}, Walk ds a p b → c ∉ p → side c a = side c b
  | _, _, _, .nil a, _ => rfl
  | _, _, _, .cons j w, h => by
    rw [side_other s2 j fun e => h (by rw [e]; exact List.mem_cons_self)]
    exact side_walk s2 w fun m => h (List.mem_cons_of_mem _ m)
theorem side_use {side : Nat → Nat → Bool} (s1 : ∀ d e, ds[d]? = some e → side d e.1 ≠ side d e.2) (s2 : ∀ c d e, ds[d]? = some e → c ≠ d → side c e.1 = side c e.2) {c : Nat} {a p b} (w : Walk ds a p b) (nd : p.Nodup) (h : c ∈ p) : side c a ≠ side c b := by
  obtain ⟨p1, p2, x, y, rfl, w1, j, w2⟩ := w.split h
  obtain ⟨n1, n2, n3⟩ := List.nodup_append.mp nd
  have c1 : c ∉ p1 := fun m => n3 c m c List.mem_cons_self rfl
  have c2 : c ∉ p2 := (List.nodup_cons.mp n2).1
  rw [side_walk s2 w1 c1, ← side_walk s2 w2 c2]
  exact side_join s1 j
theorem way_unique (T : Tree n ds) : ∀ {p q a b}, Walk ds a p b → Walk ds a q b → p.Nodup → q.Nodup → p = q := by
  obtain ⟨side, s1, s2⟩ := T.side
  intro p
  induction p with
  | nil =>
    intro q a b w v np nq
    cases w
    cases v with
    | nil => rfl
    | cons j v => exact absurd rfl (side_use s1 s2 (.cons j v) nq List.mem_cons_self)
  | cons d p ih =>
    intro q a b w v np nq
    have hd := side_use s1 s2 w np List.mem_cons_self
    cases w with
    | @cons _ c _ _ _ j w =>
    cases v with
    | nil => exact absurd rfl hd
    | @cons _ c' _ e q j' v =>
      by_cases hde : d = e
      · subst hde
        have hac : a ≠ c := fun z => side_join s1 j (by rw [z])
        have := j.other j' hac
        subst this
        rw [ih w v (List.nodup_cons.mp np).2 (List.nodup_cons.mp nq).2]
      · exfalso
        have he := side_use s1 s2 (.cons j' v) nq List.mem_cons_self
        have hep : e ∈ p := by
          refine Classical.byContradiction fun hn => he ?_
          rw [side_other s2 j (Ne.symm hde)]
          exact side_walk s2 w hn
        obtain ⟨p1, p2, x, y, rfl, w1, j1, w2⟩ := w.split hep
        have n0 := List.nodup_cons.mp np
        obtain ⟨n1, n2, n3⟩ := List.nodup_append.mp n0.2
        have c1 : e ∉ p1 := fun m => n3 e m e List.mem_cons_self rfl
        have hx : side e x = side e a := by
          rw [← side_walk s2 w1 c1, ← side_other s2 j (Ne.symm hde)]
        have hxa : x = a := by
          rcases j1 with k | k <;> rcases j' with k' | k' <;> rw [k] at k' <;> cases k'
          · rfl
          · exact absurd hx.symm (s1 _ _ k).symm
          · exact absurd hx.symm (s1 _ _ k)
          · rfl
        subst hxa
        have c2 : d ∉ p1 := fun m => n0.1 (List.mem_append.mpr (.inl m))
        exact side_join s1 j (side_walk s2 w1 c2).symm
theorem way_uses (T : Tree n ds) {side : Nat → Nat → Bool} (s1 : ∀ d e, ds[d]? = some e → side d e.1 ≠ side d e.2) (s2 : ∀ c d e, ds[d]? = some e → c ≠ d → side c e.1 = side c e.2) {a p b d} (w : Walk ds a p b) (np : p.Nodup) : d ∈ p ↔ side d a ≠ side d b :=
  ⟨side_use s1 s2 w np, fun h => Classical.byContradiction fun hn => h (side_walk s2 w hn)⟩
theorem Joins.lt (T : Tree n ds) {d x y} (j : Joins ds d x y) : x < n ∧ y < n ∧ d + 1 < n ∧ x ≠ y := by
  obtain ⟨side, s1, s2⟩ := T.side
  have ne : x ≠ y := fun z => side_join s1 j (by rw [z])
  have hl := T.len
  rcases j with j | j
  · have := T.lt _ (List.mem_of_getElem? j)
    have h := (List.getElem?_eq_some_iff.mp j).1
    exact ⟨this.1, this.2, by omega, ne⟩
  · have := T.lt _ (List.mem_of_getElem? j)
    have h := (List.getElem?_eq_some_iff.mp j).1
    exact ⟨this.2, this.1, by omega, ne⟩
end
end K5

namespace K5
structure Uf (n : Nat) (L : List Nat) (rank : Nat → Nat) (R : Nat → Nat → Prop) : Prop where
  len : L.length = n
  at_ : ∀ x y, L[x]? = some y → y < n ∧ R x y ∧ (y ≠ x → rank y < rank x)
theorem get_lt {α : Type} {L : List α} {x : Nat} {y : α} (h : L[x]? = some y) : x < L.length := (List.getElem?_eq_some_iff.mp h).1
theorem get_set {α : Type} {L : List α} {x w : Nat} {z v : α} (h : (L.set x z)[w]? = some v) : (w = x ∧ v = z) ∨ (w ≠ x ∧ L[w]? = some v) := by
  rw [List.getElem?_set] at h
  by_cases e : x = w
  · rw [if_pos e] at h
    split at h
    · exact .inl ⟨e.symm, (Option.some.inj h).symm⟩
    · cases h
  · rw [if_neg e] at h
    exact .inr ⟨fun q => e q.symm, h⟩
theorem Uf.half {n L rank R} (u : Uf n L rank R) (tr : ∀ a b c, R a b → R b c → R a c) {x y z : Nat} (hx : L[x]? = some y) (hy : L[y]? = some z) : Uf n (L.set x z) rank R := by
  refine ⟨by rw [List.length_set]; exact u.len, fun w v h => ?_⟩
  rcases get_set h with ⟨rfl, rfl⟩ | ⟨_, h⟩
  · obtain ⟨a1, a2, a3⟩ := u.at_ _ _ hx
    obtain ⟨b1, b2, b3⟩ := u.at_ _ _ hy
    refine ⟨b1, tr _ _ _ a2 b2, fun ne => ?_⟩
    by_cases e : y = w
    · subst e
      rw [hx] at hy
      exact absurd (Option.some.inj hy).symm ne
    · have := a3 e
      by_cases e2 : v = y
      · subst e2; exact this
      · exact Nat.lt_trans (b3 e2) this
  · exact u.at_ _ _ h
theorem Uf.less {n L rank R} (u : Uf n L rank R) {x y z : Nat} (hx : L[x]? = some y) (hy : L[y]? = some z) (ne : y ≠ x) : rank z < rank x := by
  have h1 := (u.at_ _ _ hx).2.2 ne
  by_cases e : z = y
  · subst e; exact h1
  · exact Nat.lt_trans ((u.at_ _ _ hy).2.2 e) h1
theorem Uf.range (n : Nat) (R : Nat → Nat → Prop) (rf : ∀ a, R a a) : Uf n (List.range n) (fun _ => 0) R := by
  refine ⟨List.length_range, fun x y h => ?_⟩
  have hx : x < n := by simpa using get_lt h
  rw [List.getElem?_range hx] at h
  have e : x = y := Option.some.inj h
  subst e
  exact ⟨hx, rf _, fun z => absurd rfl z⟩
/-- alike for all doors from k on -/
def Rk (side : Nat → Nat → Bool) (k : Nat) (x y : Nat) : Prop := ∀ d, k ≤ d → side d x = side d y
theorem Rk.tr {side k} : ∀ a b c, Rk side k a b → Rk side k b c → Rk side k a c := fun a b c h1 h2 d hd => (h1 d hd).trans (h2 d hd)
theorem Rk.rf {side k} : ∀ a, Rk side k a a := fun a d _ => rfl
theorem Uf.union {n L rank side k} {ds : List (Nat × Nat)} (u : Uf n L rank (Rk side k)) (s1 : ∀ d e, ds[d]? = some e → side d e.1 ≠ side d e.2) (s2 : ∀ c d e, ds[d]? = some e → c ≠ d → side c e.1 = side c e.2)
    {x y ra rb : Nat} (hd : ds[k]? = some (x, y)) (ha : Rk side k x ra) (hb : Rk side k y rb) (hra : L[ra]? = some ra) (hrb : L[rb]? = some rb) :
    Uf n (L.set ra rb) (fun z => rank z + if side k z = side k x then rank rb + 1 else 0) (Rk side (k + 1)) := by
  refine ⟨by rw [List.length_set]; exact u.len, fun w v h => ?_⟩
  have hne : side k x ≠ side k y := s1 _ _ hd
  rcases get_set h with ⟨rfl, rfl⟩ | ⟨_, h⟩
  · refine ⟨(u.at_ _ _ hrb).1, fun d hd' => ?_, fun _ => ?_⟩
    · rw [← ha d (by omega), ← hb d (by omega)]
      exact s2 d k _ hd (by omega)
    · have e1 : side k w = side k x := (ha k (Nat.le_refl _)).symm
      have e2 : ¬ side k v = side k x := fun z => hne (z.symm.trans (hb k (Nat.le_refl _)).symm)
      simp only [e1, if_true, if_neg e2]
      omega
  · obtain ⟨b1, b2, b3⟩ := u.at_ _ _ h
    refine ⟨b1, fun d hd' => b2 d (by omega), fun ne => ?_⟩
    have := b3 ne
    have e : side k w = side k v := b2 k (Nat.le_refl _)
    rw [e]
    omega
theorem ring_no {side : Nat → Nat → Bool} {k} {ds : List (Nat × Nat)} (s1 : ∀ d e, ds[d]? = some e → side d e.1 ≠ side d e.2) {x y r : Nat} (hd : ds[k]? = some (x, y)) (ha : Rk side k x r) (hb : Rk side k y r) : False :=
  s1 _ _ hd ((ha k (Nat.le_refl _)).trans (hb k (Nat.le_refl _)).symm)
end K5

namespace K5
theorem nodup_le : ∀ (n : Nat) (l : List Nat), l.Nodup → (∀ x ∈ l, x < n) → l.length ≤ n
  | 0, [], _, _ => Nat.le_refl _
  | 0, a :: r, _, h => absurd (h a List.mem_cons_self) (Nat.not_lt_zero _)
  | n + 1, l, nd, h => by
    by_cases m : n ∈ l
    · have h1 := nodup_le n (l.erase n) (nd.erase n) fun x hx => by
        have q := (List.Nodup.mem_erase_iff nd).mp hx
        have := h x q.2
        have := q.1
        omega
      rw [List.length_erase_of_mem m] at h1
      have : 0 < l.length := List.length_pos_of_mem m
      omega
    · have h1 := nodup_le n l nd fun x hx => by
        have := h x hx
        have : x ≠ n := fun e => m (e ▸ hx)
        omega
      omega
/-- a search: kl the rooms found, ws those that wait -/
structure Dfs (n : Nat) (ds : List (Nat × Nat)) (shut kl ws : List Nat) : Prop where
  nd : kl.Nodup
  lt : ∀ x ∈ kl, x < n
  sub : ∀ x ∈ ws, x ∈ kl
  cl : ∀ x ∈ kl, x ∉ ws → ∀ d y, Joins ds d x y → d ∉ shut → y ∈ kl
structure DfsIn (n : Nat) (ds : List (Nat × Nat)) (shut kl ws : List Nat) (here : Nat) (don : List (Nat × Nat)) : Prop where
  nd : kl.Nodup
  lt : ∀ x ∈ kl, x < n
  sub : ∀ x ∈ ws, x ∈ kl
  cl : ∀ x ∈ kl, x ∉ ws → x ≠ here → ∀ d y, Joins ds d x y → d ∉ shut → y ∈ kl
  he : here ∈ kl
  dn : ∀ d y, (d, y) ∈ don → d ∉ shut → y ∈ kl
section
variable {n : Nat} {ds : List (Nat × Nat)} {shut kl ws : List Nat} {here : Nat} {don : List (Nat × Nat)}
theorem Dfs.start {x : Nat} (h : x < n) : Dfs n ds shut [x] [x] :=
  ⟨by simp, fun y hy => by rw [List.mem_singleton.mp hy]; exact h, fun y hy => hy, fun y hy hn => absurd hy hn⟩
theorem Dfs.pop (h : Dfs n ds shut kl (ws ++ [here])) : DfsIn n ds shut kl ws here [] :=
  ⟨h.nd, h.lt, fun x m => h.sub x (List.mem_append.mpr (.inl m)), fun x m nw ne d y j ns => h.cl x m (fun q => by
    rcases List.mem_append.mp q with q | q
    · exact nw q
    · exact ne (List.mem_singleton.mp q)) d y j ns, h.sub here (List.mem_append.mpr (.inr (List.mem_singleton.mpr rfl))), fun d y m => nomatch m⟩
theorem DfsIn.skip (h : DfsIn n ds shut kl ws here don) {d y : Nat} (q : d ∈ shut ∨ y ∈ kl) : DfsIn n ds shut kl ws here (don ++ [(d, y)]) :=
  ⟨h.nd, h.lt, h.sub, h.cl, h.he, fun d' y' m ns => by
    rcases List.mem_append.mp m with m | m
    · exact h.dn d' y' m ns
    · cases List.mem_singleton.mp m
      exact q.resolve_left ns⟩
theorem DfsIn.add (h : DfsIn n ds shut kl ws here don) {d y : Nat} (hy : y < n) (nk : y ∉ kl) : DfsIn n ds shut (kl ++ [y]) (ws ++ [y]) here (don ++ [(d, y)]) where
  nd := List.nodup_append.mpr ⟨h.nd, by simp, fun a ha b hb e => by
    rw [List.mem_singleton.mp hb] at e
    exact nk (e ▸ ha)⟩
  lt := fun x m => by
    rcases List.mem_append.mp m with m | m
    · exact h.lt x m
    · rw [List.mem_singleton.mp m]; exact hy
  sub := fun x m => by
    rcases List.mem_append.mp m with m | m
    · exact List.mem_append.mpr (.inl (h.sub x m))
    · exact List.mem_append.mpr (.inr m)
  cl := fun x m nw ne d' y' j ns => by
    rcases List.mem_append.mp m with m | m
    · exact List.mem_append.mpr (.inl (h.cl x m (fun q => nw (List.mem_append.mpr (.inl q))) ne d' y' j ns))
    · exact absurd (List.mem_append.mpr (.inr m)) nw
  he := List.mem_append.mpr (.inl h.he)
  dn := fun d' y' m ns => by
    rcases List.mem_append.mp m with m | m
    · exact List.mem_append.mpr (.inl (h.dn d' y' m ns))
    · cases List.mem_singleton.mp m
      exact List.mem_append.mpr (.inr (List.mem_singleton.mpr rfl))
theorem DfsIn.done (h : DfsIn n ds shut kl ws here don) (all : ∀ d y, Joins ds d here y → (d, y) ∈ don) : Dfs n ds shut kl ws :=
  ⟨h.nd, h.lt, h.sub, fun x m nw d y j ns => by
    by_cases e : x = here
    · subst e
      exact h.dn d y (all d y j) ns
    · exact h.cl x m nw e d y j ns⟩
theorem Dfs.le (h : Dfs n ds shut kl ws) : kl.length ≤ n := nodup_le n kl h.nd h.lt
theorem DfsIn.le (h : DfsIn n ds shut kl ws here don) : kl.length ≤ n := nodup_le n kl h.nd h.lt
/-- in the end: a closed set of rooms; without shut doors it is all -/
theorem Dfs.all (T : Tree n ds) (h : Dfs n ds [] kl []) {x : Nat} (hx : x ∈ kl) : ∀ y, y < n → y ∈ kl := by
  intro y hy
  refine T.conn (fun z => z ∈ kl) (fun e he => ?_) x y (h.lt x hx) hy hx
  obtain ⟨d, hd⟩ := List.mem_iff_getElem?.mp he
  exact ⟨fun m => h.cl _ m (by simp) d _ (.inl hd) (by simp), fun m => h.cl _ m (by simp) d _ (.inr hd) (by simp)⟩
theorem Dfs.walk (h : Dfs n ds shut kl []) : ∀ {x p y}, Walk ds x p y → (∀ d ∈ p, d ∉ shut) → x ∈ kl → y ∈ kl := by
  intro x p y w
  induction w with
  | nil a => intro _ m; exact m
  | cons j w ih => intro ns m; exact ih (fun d hd => ns d (List.mem_cons_of_mem _ hd)) (h.cl _ m (by simp) _ _ j (ns _ List.mem_cons_self))
end
/-- steps towards the beginning -/
structure Ptr (ds : List (Nat × Nat)) (shut : List Nat) (room : Nat) (ks : List (Nat × Option (Nat × Nat))) : Prop where
  st : ∀ x d y, (x, some (d, y)) ∈ ks → Joins ds d x y ∧ d ∉ shut ∧ y ∈ ks.map Prod.fst ∧ (ks.map Prod.fst).idxOf y < (ks.map Prod.fst).idxOf x
  fin : ∀ x, (x, none) ∈ ks → x = room
theorem Ptr.start {ds shut room} : Ptr ds shut room [(room, none)] :=
  ⟨fun x d y m => (by cases List.mem_singleton.mp m), fun x m => (by cases List.mem_singleton.mp m; rfl)⟩
theorem Ptr.add {ds shut room ks} (P : Ptr ds shut room ks) {x d y : Nat} (j : Joins ds d x y) (ns : d ∉ shut) (hy : y ∈ ks.map Prod.fst) (hx : x ∉ ks.map Prod.fst) : Ptr ds shut room (ks ++ [(x, some (d, y))]) := by
  refine ⟨fun x' d' y' m => ?_, fun x' m => ?_⟩
  · rw [List.map_append]
    rcases List.mem_append.mp m with m | m
    · obtain ⟨a, b, c, e⟩ := P.st x' d' y' m
      have hx' : x' ∈ ks.map Prod.fst := List.mem_map.mpr ⟨_, m, rfl⟩
      refine ⟨a, b, List.mem_append.mpr (.inl c), ?_⟩
      rw [List.idxOf_append, if_pos c, List.idxOf_append, if_pos hx']
      exact e
    · cases List.mem_singleton.mp m
      refine ⟨j, ns, List.mem_append.mpr (.inl hy), ?_⟩
      rw [List.idxOf_append, if_pos hy, List.idxOf_append, if_neg hx]
      have := List.idxOf_lt_length_iff.mpr hy
      omega
  · rcases List.mem_append.mp m with m | m
    · exact P.fin x' m
    · cases List.mem_singleton.mp m
/-- the way made so far from a to here along the steps -/
structure Made (ds : List (Nat × Nat)) (kl : List Nat) (a : Nat) (p : List Nat) (here : Nat) : Prop where
  w : Walk ds a p here
  nd : p.Nodup
  up : ∀ d ∈ p, ∀ x y, Joins ds d x y → kl.idxOf here ≤ kl.idxOf x ∧ kl.idxOf here ≤ kl.idxOf y
theorem Made.start {ds kl a} : Made ds kl a [] a := ⟨.nil _, List.nodup_nil, fun _ h => nomatch h⟩
theorem Made.step {ds shut room ks a p here d y} (T : ∃ n, Tree n ds) (M : Made ds (ks.map Prod.fst) a p here) (P : Ptr ds shut room ks) (h : (here, some (d, y)) ∈ ks) : Made ds (ks.map Prod.fst) a (p ++ [d]) y := by
  obtain ⟨j, ns, hy, lt⟩ := P.st here d y h
  refine ⟨M.w.snoc j, ?_, fun d' m x z k => ?_⟩
  · refine List.nodup_append.mpr ⟨M.nd, by simp, fun c hc b hb e => ?_⟩
    rw [List.mem_singleton.mp hb] at e
    subst e
    have := (M.up _ hc here y j).2
    omega
  · rcases List.mem_append.mp m with m | m
    · have := M.up d' m x z k
      omega
    · cases List.mem_singleton.mp m
      obtain ⟨n, T⟩ := T
      rcases j with j | j <;> rcases k with k | k <;> rw [j] at k <;> cases k
      · exact ⟨Nat.le_of_lt lt, Nat.le_refl _⟩
      · exact ⟨Nat.le_refl _, Nat.le_of_lt lt⟩
      · exact ⟨Nat.le_refl _, Nat.le_of_lt lt⟩
      · exact ⟨Nat.le_of_lt lt, Nat.le_refl _⟩
/-- the ways that the law makes: kl with the way to each -/
def Pth (ds : List (Nat × Nat)) (a : Nat) (ks : List (Nat × List Nat)) : Prop :=
  ∀ x p, (x, p) ∈ ks → Walk ds a p x ∧ p.Nodup ∧ ∀ d ∈ p, ∀ u v, Joins ds d u v → u ∈ ks.map Prod.fst ∧ v ∈ ks.map Prod.fst
theorem Pth.start {ds a} : Pth ds a [(a, [])] := fun x p m => by
  cases List.mem_singleton.mp m
  exact ⟨.nil _, List.nodup_nil, fun _ h => nomatch h⟩
theorem Pth.add {ds a ks x y p d} (P : Pth ds a ks) (h : (x, p) ∈ ks) (j : Joins ds d x y) (hy : y ∉ ks.map Prod.fst) : Pth ds a (ks ++ [(y, p ++ [d])]) := by
  intro x' p' m
  rw [List.map_append]
  rcases List.mem_append.mp m with m | m
  · obtain ⟨a, b, c⟩ := P x' p' m
    exact ⟨a, b, fun d hd u v k => ⟨List.mem_append.mpr (.inl (c d hd u v k).1), List.mem_append.mpr (.inl (c d hd u v k).2)⟩⟩
  · cases List.mem_singleton.mp m
    obtain ⟨a, b, c⟩ := P x p h
    have hx : x ∈ ks.map Prod.fst := List.mem_map.mpr ⟨_, h, rfl⟩
    refine ⟨a.snoc j, List.nodup_append.mpr ⟨b, by simp, fun c' hc b' hb e => ?_⟩, fun d' hd u v k => ?_⟩
    · rw [List.mem_singleton.mp hb] at e
      subst e
      exact hy (c _ hc x y j).2
    · rcases List.mem_append.mp hd with hd | hd
      · exact ⟨List.mem_append.mpr (.inl (c d' hd u v k).1), List.mem_append.mpr (.inl (c d' hd u v k).2)⟩
      · cases List.mem_singleton.mp hd
        have e1 := List.mem_append.mpr (.inl hx : x ∈ ks.map Prod.fst ∨ x ∈ [y])
        have e2 : y ∈ ks.map Prod.fst ++ [y] := List.mem_append.mpr (.inr (List.mem_singleton.mpr rfl))
        rcases j with j | j <;> rcases k with k | k <;> rw [j] at k <;> cases k
        · exact ⟨e1, e2⟩
        · exact ⟨e2, e1⟩
        · exact ⟨e2, e1⟩
        · exact ⟨e1, e2⟩
end K5

namespace K5
theorem perm_of_map {α β : Type} (f : α → β) : ∀ (l : List α) (ys : List β), ys.Perm (l.map f) → ∃ l' : List α, ys = l'.map f ∧ l'.Perm l
  | [], ys, h => ⟨[], h.eq_nil, List.Perm.refl _⟩
  | a :: r, ys, h => by
    have ha : f a ∈ ys := h.mem_iff.mpr List.mem_cons_self
    obtain ⟨s, t, rfl⟩ := List.append_of_mem ha
    have h2 : (s ++ t).Perm (r.map f) := (List.perm_middle.symm.trans h).cons_inv
    obtain ⟨r', e, p⟩ := perm_of_map f r _ h2
    refine ⟨r'.take s.length ++ a :: r'.drop s.length, ?_, ?_⟩
    · rw [List.map_append, List.map_cons, List.map_take, List.map_drop, ← e, List.take_left, List.drop_left]
    · have : (r'.take s.length ++ a :: r'.drop s.length).Perm (a :: r') := by
        have q := @List.perm_middle _ a (r'.take s.length) (r'.drop s.length)
        rw [List.take_append_drop] at q
        exact q
      exact this.trans (p.cons a)
theorem Tr0.nv {n : Nat} {es : List (Nat × Nat)} (T : Tr0 n es) {L : List Nat} (p : L.Perm (List.range n)) : Tr0 n (es.map fun e => (L.getD e.1 0, L.getD e.2 0)) := by
  have nd : L.Nodup := p.symm.nodup List.nodup_range
  have hl : L.length = n := by rw [p.length_eq, List.length_range]
  have hm : ∀ y, y ∈ L ↔ y < n := fun y => by rw [p.mem_iff, List.mem_range]
  have gd : ∀ x (h : x < n), L.getD x 0 = L[x]'(by omega) := fun x h => by
    rw [List.getD_eq_getElem?_getD, List.getElem?_eq_getElem (by omega)]
    rfl
  refine T.names (fun x => L.getD x 0) (fun y => L.idxOf y) (fun x h => ?_) (fun x h => ?_) (fun y h => ?_)
  · show L.getD x 0 < n
    rw [gd x h]
    exact (hm _).mp (List.getElem_mem _)
  · show L.idxOf (L.getD x 0) = x
    rw [gd x h]
    exact nd.idxOf_getElem x (by omega)
  · have hy := (hm y).mpr h
    have hi := List.idxOf_lt_length_iff.mpr hy
    refine ⟨by show L.idxOf y < n; omega, ?_⟩
    show L.getD (L.idxOf y) 0 = y
    rw [gd _ (by omega)]
    exact List.getElem_idxOf hi
end K5

/-! groups: rooms joined by doors, the mathematics -/
namespace K5
/-- a walk through doors of a set -/
def Con (ds : List (Nat × Nat)) (J : Nat → Prop) (x y : Nat) : Prop := ∃ u, Walk ds x u y ∧ ∀ e ∈ u, J e
section
variable {n : Nat} {ds : List (Nat × Nat)} {J J' : Nat → Prop}
theorem Con.refl (x : Nat) : Con ds J x x := ⟨[], .nil _, fun _ h => nomatch h⟩
theorem Con.symm {x y : Nat} (h : Con ds J x y) : Con ds J y x := by
  obtain ⟨u, w, hu⟩ := h
  exact ⟨u.reverse, w.rev, fun e he => hu e (List.mem_reverse.mp he)⟩
theorem Con.trans {x y z : Nat} (h : Con ds J x y) (k : Con ds J y z) : Con ds J x z := by
  obtain ⟨u, w, hu⟩ := h
  obtain ⟨v, w', hv⟩ := k
  refine ⟨u ++ v, w.app w', fun e he => ?_⟩
  rcases List.mem_append.mp he with he | he
  · exact hu e he
  · exact hv e he
theorem Con.door {d x y : Nat} (j : Joins ds d x y) (h : J d) : Con ds J x y := ⟨[d], .cons j (.nil _), fun e he => by
  rw [List.mem_singleton] at he
  rw [he]
  exact h⟩
theorem Con.mono (f : ∀ e, J e → J' e) {x y : Nat} (h : Con ds J x y) : Con ds J' x y := by
  obtain ⟨u, w, hu⟩ := h
  exact ⟨u, w, fun e he => f e (hu e he)⟩
/-- a mark that both ends of each such door share, is shared along -/
theorem Con.eq {β : Type} {f : Nat → β} (hf : ∀ d x y, J d → Joins ds d x y → f x = f y) : ∀ {x : Nat} {u : List Nat} {y : Nat}, Walk ds x u y → (∀ e ∈ u, J e) → f x = f y
  | _, _, _, .nil _, _ => rfl
  | _, _, _, .cons j w, h => (hf _ _ _ (h _ List.mem_cons_self) j).trans (Con.eq hf w fun e he => h e (List.mem_cons_of_mem _ he))
end
/-- the explained doors: the least set -/
inductive Ex (ds : List (Nat × Nat)) (S : List Nat × List Nat) : Nat → Prop
  | mk {d p r x y : Nat} {u : List Nat} : S.2[d]? = some p → S.1[p]? = some r → Joins ds d x y → Walk ds r u x → (∀ e ∈ u, Ex ds S e) → Ex ds S d
/-- marks of the rooms, the doors of J joined so far -/
structure Mk (n : Nat) (ds : List (Nat × Nat)) (S : List Nat × List Nat) (M : List Nat) (J : List Nat) : Prop where
  len : M.length = n
  nd : J.Nodup
  ex : ∀ d ∈ J, Ex ds S d
  lt : ∀ d ∈ J, d < ds.length
  le : ∀ x m, M[x]? = some m → m ≤ x ∧ Con ds (· ∈ J) x m
  eq : ∀ d x y, d ∈ J → Joins ds d x y → M.getD x 0 = M.getD y 0
section
variable {n : Nat} {ds : List (Nat × Nat)} {S : List Nat × List Nat} {M J : List Nat}
theorem Mk.start (n : Nat) : Mk n ds S (List.range n) [] where
  len := List.length_range
  nd := List.nodup_nil
  ex := fun _ h => nomatch h
  lt := fun _ h => nomatch h
  le := fun x m h => by
    have hx : x < n := by have := get_lt h; rwa [List.length_range] at this
    rw [List.getElem?_range hx] at h
    cases h
    exact ⟨Nat.le_refl _, Con.refl _⟩
  eq := fun _ _ _ h => nomatch h
theorem Mk.get (h : Mk n ds S M J) {x : Nat} (hx : x < n) : M[x]? = some (M.getD x 0) := by
  have hl : x < M.length := by rw [h.len]; exact hx
  rw [List.getD_eq_getElem?_getD, List.getElem?_eq_getElem hl]
  rfl
theorem Mk.con (h : Mk n ds S M J) {x y : Nat} (c : Con ds (· ∈ J) x y) : M.getD x 0 = M.getD y 0 := by
  obtain ⟨u, w, hu⟩ := c
  exact Con.eq (J := (· ∈ J)) (f := fun x => M.getD x 0) (fun d x y hd j => h.eq d x y hd j) w hu
theorem Mk.iff (h : Mk n ds S M J) {x y : Nat} (hx : x < n) (hy : y < n) : M.getD x 0 = M.getD y 0 ↔ Con ds (· ∈ J) x y := by
  refine ⟨fun e => ?_, h.con⟩
  have c1 := (h.le x _ (h.get hx)).2
  have c2 := (h.le y _ (h.get hy)).2
  rw [e] at c1
  exact c1.trans c2.symm
theorem Mk.lo (h : Mk n ds S M J) {x : Nat} (hx : x < n) : M.getD x 0 ≤ x := (h.le x _ (h.get hx)).1
/-- marks after a door is joined -/
def join (M : List Nat) (lo hi : Nat) : List Nat := M.map fun m => if m = hi then lo else m
theorem join_get {lo hi x : Nat} (hx : x < M.length) : (join M lo hi).getD x 0 = if M.getD x 0 = hi then lo else M.getD x 0 := by
  unfold join
  rw [List.getD_eq_getElem?_getD, List.getElem?_map, List.getElem?_eq_getElem hx, List.getD_eq_getElem?_getD, List.getElem?_eq_getElem hx]
  rfl
theorem Mk.step (T : Tree n ds) (h : Mk n ds S M J) {d a b p r : Nat} (hd : ds[d]? = some (a, b)) (ne : M.getD a 0 ≠ M.getD b 0) (hp : S.2[d]? = some p) (hr : S.1[p]? = some r) (hrn : r < n) (near : M.getD r 0 = M.getD a 0 ∨ M.getD r 0 = M.getD b 0) :
    Mk n ds S (join M (min (M.getD a 0) (M.getD b 0)) (max (M.getD a 0) (M.getD b 0))) (d :: J) := by
  have j : Joins ds d a b := .inl hd
  obtain ⟨la, lb, _, _⟩ := j.lt T
  have dJ : d ∉ J := fun z => ne (h.eq d a b z j)
  have exd : Ex ds S d := by
    rcases near with e | e
    · obtain ⟨u, w, hu⟩ := (h.iff hrn la).mp e
      exact .mk hp hr j w fun e he => h.ex e (hu e he)
    · obtain ⟨u, w, hu⟩ := (h.iff hrn lb).mp e
      exact .mk hp hr j.symm w fun e he => h.ex e (hu e he)
  generalize ea : M.getD a 0 = ma at ne near
  generalize eb : M.getD b 0 = mb at ne near
  have hmn : ∀ x, x < n → x < M.length := fun x hx => by rw [h.len]; exact hx
  have sub : ∀ e, e ∈ J → e ∈ d :: J := fun e he => List.mem_cons_of_mem _ he
  have cab : Con ds (· ∈ d :: J) a b := Con.door j List.mem_cons_self
  have ca : Con ds (· ∈ d :: J) a ma := ea ▸ ((h.le a _ (h.get la)).2.mono sub)
  have cb : Con ds (· ∈ d :: J) b mb := eb ▸ ((h.le b _ (h.get lb)).2.mono sub)
  have chl : Con ds (· ∈ d :: J) (max ma mb) (min ma mb) := by
    by_cases c : ma ≤ mb
    · rw [Nat.max_eq_right c, Nat.min_eq_left c]
      exact cb.symm.trans (cab.symm.trans ca)
    · rw [Nat.max_eq_left (by omega), Nat.min_eq_right (by omega)]
      exact ca.symm.trans (cab.trans cb)
  refine ⟨by unfold join; rw [List.length_map]; exact h.len, List.nodup_cons.mpr ⟨dJ, h.nd⟩, fun e he => ?_, fun e he => ?_, fun x m hm => ?_, fun e x y he jo => ?_⟩
  · rcases List.mem_cons.mp he with rfl | he
    · exact exd
    · exact h.ex e he
  · rcases List.mem_cons.mp he with rfl | he
    · exact get_lt hd
    · exact h.lt e he
  · have hx : x < n := by
      have := get_lt hm
      unfold join at this
      rwa [List.length_map, h.len] at this
    have e1 : m = (join M (min ma mb) (max ma mb)).getD x 0 := by rw [List.getD_eq_getElem?_getD, hm]; rfl
    rw [join_get (hmn x hx)] at e1
    have l1 := h.lo hx
    have c1 := (h.le x _ (h.get hx)).2.mono sub
    by_cases c : M.getD x 0 = max ma mb
    · rw [if_pos c] at e1
      rw [c] at c1
      refine ⟨by omega, ?_⟩
      rw [e1]
      exact c1.trans chl
    · rw [if_neg c] at e1
      rw [e1]
      exact ⟨l1, c1⟩
  · obtain ⟨lx, ly, _, _⟩ := jo.lt T
    rw [join_get (hmn x lx), join_get (hmn y ly)]
    rcases List.mem_cons.mp he with rfl | he
    · have key : ∀ z, z = a ∨ z = b → (if M.getD z 0 = max ma mb then min ma mb else M.getD z 0) = min ma mb := by
        rintro z (rfl | rfl)
        · rw [ea]
          by_cases c : ma = max ma mb
          · rw [if_pos c]
          · rw [if_neg c]
            omega
        · rw [eb]
          by_cases c : mb = max ma mb
          · rw [if_pos c]
          · rw [if_neg c]
            omega
      have ex : x = a ∨ x = b := by
        rcases jo with q | q <;> (rw [hd] at q; cases q; simp)
      have ey : y = a ∨ y = b := by
        rcases jo with q | q <;> (rw [hd] at q; cases q; simp)
      rw [key x ex, key y ey]
    · rw [h.eq e x y he jo]
theorem Mk.few (h : Mk n ds S M J) : J.length ≤ ds.length := nodup_le ds.length J h.nd h.lt
/-- nothing left to join -/
def Closed (ds : List (Nat × Nat)) (S : List Nat × List Nat) (M : List Nat) (d : Nat) : Prop :=
  ∀ a b p r, ds[d]? = some (a, b) → S.2[d]? = some p → S.1[p]? = some r → M.getD a 0 = M.getD b 0 ∨ (M.getD r 0 ≠ M.getD a 0 ∧ M.getD r 0 ≠ M.getD b 0)
theorem Mk.done (T : Tree n ds) (h : Mk n ds S M J) (cl : ∀ d, d < ds.length → Closed ds S M d) : ∀ d, Ex ds S d → ∀ x y, Joins ds d x y → M.getD x 0 = M.getD y 0 := by
  intro d hd
  induction hd with
  | @mk d p r x y u hp hr j w hu ih =>
    intro x' y' j'
    have er : M.getD r 0 = M.getD x 0 := Con.eq (J := (· ∈ u)) (f := fun x => M.getD x 0) (fun e a b he jo => ih e he a b jo) w fun e he => he
    have hdl : d < ds.length := by rcases j with q | q <;> exact get_lt q
    have fin : ∀ a b, ds[d]? = some (a, b) → M.getD a 0 = M.getD b 0 := by
      intro a b hab
      rcases cl d hdl a b p r hab hp hr with e | ⟨e1, e2⟩
      · exact e
      · rcases j with q | q
        · rw [hab] at q
          cases q
          exact absurd er e1
        · rw [hab] at q
          cases q
          exact absurd er e2
    rcases j' with q | q
    · exact fin _ _ q
    · exact (fin _ _ q).symm
/-- in the end: the joined doors are the explained ones -/
theorem Mk.all (T : Tree n ds) (h : Mk n ds S M J) (cl : ∀ d, d < ds.length → Closed ds S M d) {d x y : Nat} (j : Joins ds d x y) : M.getD x 0 = M.getD y 0 ↔ Ex ds S d := by
  refine ⟨fun e => ?_, fun e => h.done T cl d e x y j⟩
  obtain ⟨lx, ly, _, _⟩ := j.lt T
  obtain ⟨u, w, hu⟩ := (h.iff lx ly).mp e
  obtain ⟨side, s1, s2⟩ := T.side
  have : d ∈ u := Classical.byContradiction fun z => side_join s1 j (side_walk s2 w z)
  exact h.ex d (hu d this)
theorem Mk.con_ex (T : Tree n ds) (h : Mk n ds S M J) (cl : ∀ d, d < ds.length → Closed ds S M d) {x y : Nat} (hx : x < n) (hy : y < n) : M.getD x 0 = M.getD y 0 ↔ Con ds (Ex ds S) x y := by
  refine ⟨fun e => ((h.iff hx hy).mp e).mono h.ex, fun c => ?_⟩
  obtain ⟨u, w, hu⟩ := c
  exact Con.eq (J := Ex ds S) (f := fun x => M.getD x 0) (fun d a b hd jo => h.done T cl d hd a b jo) w hu
/-- two such lists of marks are one -/
theorem Mk.unique (T : Tree n ds) {M' J' : List Nat} (h : Mk n ds S M J) (cl : ∀ d, d < ds.length → Closed ds S M d) (h' : Mk n ds S M' J') (cl' : ∀ d, d < ds.length → Closed ds S M' d) : M = M' := by
  apply List.ext_getElem?
  intro x
  by_cases hx : x < n
  · rw [h.get hx, h'.get hx]
    congr 1
    have root : ∀ {M J : List Nat}, Mk n ds S M J → (∀ d, d < ds.length → Closed ds S M d) → ∀ y, y < n → Con ds (Ex ds S) x y → M.getD x 0 ≤ y := fun hm hc y hy c => by
      rw [(hm.con_ex T hc hx hy).mpr c]
      exact hm.lo hy
    have a1 := (h.le x _ (h.get hx)).2.mono h.ex
    have a2 := (h'.le x _ (h'.get hx)).2.mono h'.ex
    have l1 := h.lo hx
    have l2 := h'.lo hx
    have b1 := root h cl _ (by omega) a2
    have b2 := root h' cl' _ (by omega) a1
    omega
  · rw [List.getElem?_eq_none (by rw [h.len]; omega), List.getElem?_eq_none (by rw [h'.len]; omega)]
end
end K5

namespace K5
open PySem PySem.Spec PyProof.Rows L2
def top (i : Nat) : Stmt := PySem.Challenge.pw_lastthrough_k28_origins_against_all_stat.main.body.getD i (.Pass ⟨0, 0, 0, 0⟩)
abbrev s_is_whole : Stmt := top 6
abbrev N_is_whole : List Str := ["value"]
theorem sc_is_whole : FnScope N_is_whole ["value"] (defScope s_is_whole) := ⟨rfl, rfl, rfl, by decide +kernel, rfl, by decide +kernel, by decide +kernel⟩
abbrev s_is_index : Stmt := top 7
abbrev N_is_index : List Str := ["value", "count"]
theorem sc_is_index : FnScope N_is_index ["value", "count"] (defScope s_is_index) := ⟨rfl, rfl, rfl, by decide +kernel, rfl, by decide +kernel, by decide +kernel⟩
abbrev s_is_door : Stmt := top 8
abbrev N_is_door : List Str := ["value", "count", "a", "b"]
theorem sc_is_door : FnScope N_is_door ["value", "count"] (defScope s_is_door) := ⟨rfl, rfl, rfl, by decide +kernel, rfl, by decide +kernel, by decide +kernel⟩
abbrev s_check_house : Stmt := top 9
abbrev N_check_house : List Str := ["value", "door", "ends", "ring"]
theorem sc_check_house : FnScope N_check_house ["value"] (defScope s_check_house) := ⟨rfl, rfl, rfl, by decide +kernel, rfl, by decide +kernel, by decide +kernel⟩
abbrev s_first_ring : Stmt := top 10
abbrev N_first_ring : List Str := ["doors", "links", "door", "a", "b", "a_root", "b_root"]
theorem sc_first_ring : FnScope N_first_ring ["doors"] (defScope s_first_ring) := ⟨rfl, rfl, rfl, by decide +kernel, rfl, by decide +kernel, by decide +kernel⟩
abbrev s_find_root : Stmt := top 11
abbrev N_find_root : List Str := ["links", "room"]
theorem sc_find_root : FnScope N_find_root ["links", "room"] (defScope s_find_root) := ⟨rfl, rfl, rfl, by decide +kernel, rfl, by decide +kernel, by decide +kernel⟩
abbrev s_need_house : Stmt := top 12
abbrev N_need_house : List Str := ["house", "reason"]
theorem sc_need_house : FnScope N_need_house ["house"] (defScope s_need_house) := ⟨rfl, rfl, rfl, by decide +kernel, rfl, by decide +kernel, by decide +kernel⟩
abbrev s_has_state_shape : Stmt := top 14
abbrev N_has_state_shape : List Str := ["house", "value", "rooms", "barred"]
theorem sc_has_state_shape : FnScope N_has_state_shape ["house", "value"] (defScope s_has_state_shape) := ⟨rfl, rfl, rfl, by decide +kernel, rfl, by decide +kernel, by decide +kernel⟩
abbrev s_check_state : Stmt := top 15
abbrev N_check_state : List Str := ["house", "value", "rooms", "barred", "person", "room", "door"]
theorem sc_check_state : FnScope N_check_state ["house", "value"] (defScope s_check_state) := ⟨rfl, rfl, rfl, by decide +kernel, rfl, by decide +kernel, by decide +kernel⟩
abbrev s_need_state : Stmt := top 16
abbrev N_need_state : List Str := ["house", "state", "reason"]
theorem sc_need_state : FnScope N_need_state ["house", "state"] (defScope s_need_state) := ⟨rfl, rfl, rfl, by decide +kernel, rfl, by decide +kernel, by decide +kernel⟩
abbrev s_replaced : Stmt := top 17
abbrev N_replaced : List Str := ["values", "index", "value"]
theorem sc_replaced : FnScope N_replaced ["values", "index", "value"] (defScope s_replaced) := ⟨rfl, rfl, rfl, by decide +kernel, rfl, by decide +kernel, by decide +kernel⟩
abbrev s_group_marks : Stmt := top 19
abbrev N_group_marks : List Str := ["house", "state", "rooms", "barred", "marks", "grown", "door", "a", "b", "low", "high", "mark"]
theorem sc_group_marks : FnScope N_group_marks ["house", "state"] (defScope s_group_marks) := ⟨rfl, rfl, rfl, by decide +kernel, rfl, by decide +kernel, by decide +kernel⟩
abbrev s_groups : Stmt := top 20
abbrev N_groups : List Str := ["house", "state", "found", "room", "mark"]
theorem sc_groups : FnScope N_groups ["house", "state"] (defScope s_groups) := ⟨rfl, rfl, rfl, by decide +kernel, rfl, by decide +kernel, by decide +kernel⟩
abbrev s_explained_doors : Stmt := top 21
abbrev N_explained_doors : List Str := ["house", "state", "marks", "door", "a", "b"]
theorem sc_explained_doors : FnScope N_explained_doors ["house", "state"] (defScope s_explained_doors) := ⟨rfl, rfl, rfl, by decide +kernel, rfl, by decide +kernel, by decide +kernel⟩
abbrev s_last_moves : Stmt := top 22
abbrev N_last_moves : List Str := ["house", "state", "rooms", "barred", "moves", "door", "a", "b", "person", "start"]
theorem sc_last_moves : FnScope N_last_moves ["house", "state"] (defScope s_last_moves) := ⟨rfl, rfl, rfl, by decide +kernel, rfl, by decide +kernel, by decide +kernel⟩
abbrev s_count_previous : Stmt := top 23
abbrev N_count_previous : List Str := ["house", "state"]
theorem sc_count_previous : FnScope N_count_previous ["house", "state"] (defScope s_count_previous) := ⟨rfl, rfl, rfl, by decide +kernel, rfl, by decide +kernel, by decide +kernel⟩
abbrev s_state_before : Stmt := top 24
abbrev N_state_before : List Str := ["state", "rooms", "door", "before"]
theorem sc_state_before : FnScope N_state_before ["state", "rooms", "door", "before"] (defScope s_state_before) := ⟨rfl, rfl, rfl, by decide +kernel, rfl, by decide +kernel, by decide +kernel⟩
abbrev s_previous_at : Stmt := top 25
abbrev N_previous_at : List Str := ["house", "state", "index", "count", "place", "other", "rooms", "door", "person", "before"]
theorem sc_previous_at : FnScope N_previous_at ["house", "state", "index"] (defScope s_previous_at) := ⟨rfl, rfl, rfl, by decide +kernel, rfl, by decide +kernel, by decide +kernel⟩
abbrev s_l_cell : Stmt := top 27
abbrev N_l_cell : List Str := ["_law_script", "_law_index"]
theorem sc_l_cell : FnScope N_l_cell ["_law_script", "_law_index"] (defScope s_l_cell) := ⟨rfl, rfl, rfl, by decide +kernel, rfl, by decide +kernel, by decide +kernel⟩
abbrev s_l_hash : Stmt := top 28
abbrev N_l_hash : List Str := ["_law_seed", "_law_index", "_law_value"]
theorem sc_l_hash : FnScope N_l_hash ["_law_seed", "_law_index"] (defScope s_l_hash) := ⟨rfl, rfl, rfl, by decide +kernel, rfl, by decide +kernel, by decide +kernel⟩
abbrev s_l_generator : Stmt := top 29
abbrev N_l_generator : List Str := ["_law_script", "_law_index", "_law_seed"]
theorem sc_l_generator : FnScope N_l_generator ["_law_script", "_law_index"] (defScope s_l_generator) := ⟨rfl, rfl, rfl, by decide +kernel, rfl, by decide +kernel, by decide +kernel⟩
abbrev s_l_random : Stmt := top 30
abbrev N_l_random : List Str := ["_law_generator_here", "_law_bound", "_law_value", "_law_part"]
theorem sc_l_random : FnScope N_l_random ["_law_generator_here", "_law_bound"] (defScope s_l_random) := ⟨rfl, rfl, rfl, by decide +kernel, rfl, by decide +kernel, by decide +kernel⟩
abbrev s_l_shuffled : Stmt := top 31
abbrev N_l_shuffled : List Str := ["_law_generator_here", "_law_items", "_law_pool", "_law_item"]
theorem sc_l_shuffled : FnScope N_l_shuffled ["_law_generator_here", "_law_items"] (defScope s_l_shuffled) := ⟨rfl, rfl, rfl, by decide +kernel, rfl, by decide +kernel, by decide +kernel⟩
abbrev s_l_random_house : Stmt := top 32
abbrev N_l_random_house : List Str := ["_law_generator_here", "_law_size", "_law_labels", "_law_kind", "_law_doors", "_law_index", "_law_earlier", "_law_ends"]
theorem sc_l_random_house : FnScope N_l_random_house ["_law_generator_here", "_law_size"] (defScope s_l_random_house) := ⟨rfl, rfl, rfl, by decide +kernel, rfl, by decide +kernel, by decide +kernel⟩
abbrev s_l_around : Stmt := top 33
abbrev N_l_around : List Str := ["_law_layout", "_law_around_here", "_law_spot", "_law_door", "_law_one", "_law_other"]
theorem sc_l_around : FnScope N_l_around ["_law_layout"] (defScope s_l_around) := ⟨rfl, rfl, rfl, by decide +kernel, rfl, by decide +kernel, by decide +kernel⟩
abbrev s_l_random_state : Stmt := top 34
abbrev N_l_random_state : List Str := ["_law_generator_here", "_law_layout", "_law_count", "_law_rooms", "_law_who", "_law_barred", "_law_local", "_law_one", "_law_other", "_law_near", "_law_chosen"]
theorem sc_l_random_state : FnScope N_l_random_state ["_law_generator_here", "_law_layout", "_law_count"] (defScope s_l_random_state) := ⟨rfl, rfl, rfl, by decide +kernel, rfl, by decide +kernel, by decide +kernel⟩
abbrev s_l_moves : Stmt := top 35
abbrev N_l_moves : List Str := ["_law_layout", "_law_situation", "_law_rooms", "_law_barred", "_law_moves_here", "_law_door", "_law_one", "_law_other", "_law_who", "_law_spot"]
theorem sc_l_moves : FnScope N_l_moves ["_law_layout", "_law_situation"] (defScope s_l_moves) := ⟨rfl, rfl, rfl, by decide +kernel, rfl, by decide +kernel, by decide +kernel⟩
abbrev s_l_after_move : Stmt := top 36
abbrev N_l_after_move : List Str := ["_law_situation", "_law_move", "_law_rooms", "_law_barred", "_law_who", "_law_start", "_law_end", "_law_door"]
theorem sc_l_after_move : FnScope N_l_after_move ["_law_situation", "_law_move"] (defScope s_l_after_move) := ⟨rfl, rfl, rfl, by decide +kernel, rfl, by decide +kernel, by decide +kernel⟩
abbrev s_l_play : Stmt := top 37
abbrev N_l_play : List Str := ["_law_layout", "_law_situation", "_law_moves_here", "_law_who", "_law_start", "_law_end", "_law_found", "_law_move"]
theorem sc_l_play : FnScope N_l_play ["_law_layout", "_law_situation", "_law_moves_here"] (defScope s_l_play) := ⟨rfl, rfl, rfl, by decide +kernel, rfl, by decide +kernel, by decide +kernel⟩
abbrev s_l_all_states : Stmt := top 38
abbrev N_l_all_states : List Str := ["_law_layout", "_law_count", "_law_found", "_law_step", "_law_longer", "_law_rooms", "_law_barred", "_law_spot", "_law_door", "_law_who"]
theorem sc_l_all_states : FnScope N_l_all_states ["_law_layout", "_law_count"] (defScope s_l_all_states) := ⟨rfl, rfl, rfl, by decide +kernel, rfl, by decide +kernel, by decide +kernel⟩
abbrev s_l_used_doors : Stmt := top 39
abbrev N_l_used_doors : List Str := ["_law_before", "_law_target", "_law_used", "_law_reached", "_law_waiting", "_law_earlier", "_law_door"]
theorem sc_l_used_doors : FnScope N_l_used_doors ["_law_before", "_law_target"] (defScope s_l_used_doors) := ⟨rfl, rfl, rfl, by decide +kernel, rfl, by decide +kernel, by decide +kernel⟩
abbrev s_l_holds : Stmt := top 40
abbrev N_l_holds : List Str := ["_law_layout", "_law_before", "_law_target", "_law_earlier", "_law_state", "_law_door", "_law_number", "_law_explained", "_law_rows"]
theorem sc_l_holds : FnScope N_l_holds ["_law_layout", "_law_before", "_law_target"] (defScope s_l_holds) := ⟨rfl, rfl, rfl, by decide +kernel, rfl, by decide +kernel, by decide +kernel⟩
abbrev s_law : Stmt := top 41
abbrev N_law : List Str := ["_law_script", "_law_cell_here", "_law_generator_here", "_law_layout", "_law_states", "_law_before", "_law_state", "_law_move", "_law_later", "_law_turn"]
theorem sc_law : FnScope N_law ["_law_script"] (defScope s_law) := ⟨rfl, rfl, rfl, by decide +kernel, rfl, by decide +kernel, by decide +kernel⟩
/-- the built-ins that the text calls stand as they were -/
structure Bl (mg : Str → Option Value) : Prop where
  len : mg "len" = none
  isinstance : mg "isinstance" = none
  enumerate : mg "enumerate" = none
  range : mg "range" = none
  list : mg "list" = none
  set : mg "set" = none
  sorted : mg "sorted" = none
  max : mg "max" = none
  min : mg "min" = none
  tuple : mg "tuple" = none
  int : mg "int" = none
  bool : mg "bool" = none
  sum : mg "sum" = none
  repr : mg "repr" = none
  divmod : mg "divmod" = none

/-- a house at a: a tuple of tuples -/
def HouseAt (K : PySem.W.Frag) (H : Hp) (a : Addr) (ds : List (Nat × Nat)) : Prop :=
  ∃ rs : List Addr, SqT K H a (rs.map V.ref) ∧ rs.length = ds.length ∧ ∀ (d : Nat) (r : Addr) (e : Nat × Nat), rs[d]? = some r → ds[d]? = some e → SqT K H r [.int e.1, .int e.2]
section
variable {K : PySem.W.Frag} {H H' : Hp} {a g : Addr} {ds : List (Nat × Nat)}
theorem HouseAt.same (h : HouseAt K H a ds) (s : Same H H') : HouseAt K H' a ds := by
  obtain ⟨rs, h1, h2, h3⟩ := h
  exact ⟨rs, s.tup h1, h2, fun d r e x y => s.tup (h3 d r e x y)⟩
theorem HouseAt.but {xs : List V} (h : HouseAt K H a ds) (hg : H g = some (.lst xs)) (s : But g H H') : HouseAt K H' a ds := by
  obtain ⟨rs, h1, h2, h3⟩ := h
  exact ⟨rs, s.tup hg h1, h2, fun d r e x y => s.tup hg (h3 d r e x y)⟩
theorem ty_tup {xs : List V} (h : SqT K H a xs) : TyX K H (.ref a) (.type "tuple") := by
  rcases h with (h | ⟨o, h⟩) | ⟨o, its, n, h, c, _⟩
  · exact .base (.tup h)
  · exact .fTuple h
  · exact .kTuple h c
end
end K5

namespace K5
open PySem PySem.Spec PyProof.Rows L2
def spWhole : Sp := fun vs H Q _ => ∃ i : Int, vs = [.int i] ∧ Q (.bl true) H
def spIndex : Sp := fun vs H Q _ => ∃ i n : Int, vs = [.int i, .int n] ∧ Q (.bl (decide (0 ≤ i ∧ i < n))) H
def spDoor (K : PySem.W.Frag) : Sp := fun vs H Q _ => ∃ (a : Addr) (x y n : Int), vs = [.ref a, .int n] ∧ SqT K H a [.int x, .int y] ∧ (0 ≤ x ∧ x < n) ∧ (0 ≤ y ∧ y < n) ∧ x ≠ y ∧ Q (.bl true) H
section
variable {P : Program} {w : World} {K : PySem.W.Frag}
      {mg : Str → Option Value} {base : Heap}
theorem ok_is_whole (T : Bl mg) (D : Def K mg "is_whole" s_is_whole) : Cal P w K mg base "is_whole" ["value"] 1 spWhole := by
  refine D.ok sc_is_whole (fun _ _ _ _ _ _ us hl => match us, hl with | [_], _ => rfl) (fun vs H Q E h => ?_) (fun f cdv A outer s H vs Q E hr h => ?_)
  · obtain ⟨i, rfl, _⟩ := h
    rfl
  obtain ⟨i, rfl, q⟩ := h
  refine ⟨_, (pss_one (ps_ret (pe_and (pe_callB call_isi (by rfl) T.isinstance (by decide +kernel) (pa_cons (pv 0) (pa_cons (pe_bltn (v := .ty "int") (u := .type "int") (by rfl) T.int (by decide +kernel) rfl) pa_nil))) (pe_one (pe_not (pe_callB call_isi (by rfl) T.isinstance (by decide +kernel) (pa_cons (pv 0) (pa_cons (pe_bltn (v := .ty "bool") (u := .type "bool") (by rfl) T.bool (by decide +kernel) rfl) pa_nil)))))))), ?_⟩
  refine ⟨_, rfl, _, _, _, _, _, rfl, .ty _, .base (.int _), kit_ty (r := true) (by decide +kernel), _, rfl, iteT ?_⟩
  refine ⟨_, rfl, _, _, _, _, _, rfl, .ty _, .base (.int _), kit_ty (r := false) (by decide +kernel), _, rfl, q⟩
theorem ok_is_index (T : Bl mg) (D : Def K mg "is_index" s_is_index) (C_is_whole : Cal P w K mg base "is_whole" ["value"] 1 spWhole) : Cal P w K mg base "is_index" ["value", "count"] 2 spIndex := by
  refine D.ok sc_is_index (fun _ _ _ _ _ _ us hl => match us, hl with | [_, _], _ => rfl) (fun vs H Q E h => ?_) (fun f cdv A outer s H vs Q E hr h => ?_)
  · obtain ⟨i, n, rfl, _⟩ := h
    rfl
  obtain ⟨i, n, rfl, q⟩ := h
  obtain ⟨f_is_whole, fd_is_whole, g_is_whole, k_is_whole, b_is_whole, G_is_whole⟩ := C_is_whole
  refine ⟨_, (pss_one (ps_ret (pe_and (pe_call G_is_whole (hr.mono (by decide)) (by rfl) g_is_whole k_is_whole b_is_whole .nil pass0 (pa_cons (pv 0) pa_nil)) (pe_one (pe_chain op_le op_lt pe_int (pv 0) (pv 1)))))), ?_⟩
  refine ⟨_, rfl, _, rfl, _, rfl, iteT ?_⟩
  refine ⟨_, rfl, _, _, rfl, rfl, _, rfl, ite2 (fun h => ?_) (fun h => ?_)⟩
  · have h := of_decide_eq_true h
    refine ⟨_, rfl, _, _, rfl, rfl, ?_⟩
    have e : decide (i < n) = decide (0 ≤ i ∧ i < n) := by simp [h]
    show Q (.bl (decide (i < n))) H
    rw [e]
    exact q
  · have e : false = decide (0 ≤ i ∧ i < n) := by
      have h : ¬ 0 ≤ i := fun z => h (decide_eq_true z)
      simp [h]
    show Q (.bl false) H
    rw [e]
    exact q
theorem ok_is_door (T : Bl mg) (D : Def K mg "is_door" s_is_door) (C_is_index : Cal P w K mg base "is_index" ["value", "count"] 2 spIndex) : Cal P w K mg base "is_door" ["value", "count"] 3 (spDoor K) := by
  refine D.ok sc_is_door (fun _ _ _ _ _ _ us hl => match us, hl with | [_, _], _ => rfl) (fun vs H Q E h => ?_) (fun f cdv A outer s H vs Q E hr h => ?_)
  · obtain ⟨a, x, y, n, rfl, _⟩ := h
    rfl
  obtain ⟨a, x, y, n, rfl, ht, hx, hy, hne, q⟩ := h
  obtain ⟨f_is_index, fd_is_index, g_is_index, k_is_index, b_is_index, G_is_index⟩ := C_is_index
  refine ⟨_, (pss_cons (ps_if (PW.pt (pw_or (pt_not (pt_val (pe_callB call_isi (by rfl) T.isinstance (by decide +kernel) (pa_cons (pv 0) (pa_cons (pe_bltn (v := .ty "tuple") (u := .type "tuple") (by rfl) T.tuple (by decide +kernel) rfl) pa_nil))))) (pw_or1 (pt_cmpR op_ne (pe_callB call_len_seq (by rfl) T.len PySem.boot_len (pa_cons (pv 0) pa_nil)) pe_int (nomark _))))) (pss_one (ps_ret pe_bl)) pss_nil)
    (pss_cons (ps_asg (pv 0) (pg_tup (n := 2) rfl (pgs_cons (pg_name (i := 2) sc_is_door.nd rfl (.inl rfl)) (pgs_cons (pg_name (i := 3) sc_is_door.nd rfl (.inl rfl)) pgs_nil))))
    (pss_one (ps_ret (pe_and (pe_call G_is_index (hr.mono (by decide)) (by rfl) g_is_index k_is_index b_is_index .nil pass0 (pa_cons (pv 2) (pa_cons (pv 1) pa_nil))) (pe_and (pe_call G_is_index (hr.mono (by decide)) (by rfl) g_is_index k_is_index b_is_index .nil pass0 (pa_cons (pv 3) (pa_cons (pv 1) pa_nil))) (pe_one (pe_cmpR op_ne (pv 2) (pv 3) (nomark _))))))))), ?_⟩
  refine ⟨_, rfl, _, _, _, _, _, rfl, .ty _, ty_tup ht, kit_ty (r := true) (by decide +kernel), _, rfl, iteF ?_⟩
  refine ⟨_, rfl, _, _, rfl, .inr ht, rfl, _, rfl, iteF ?_⟩
  refine ⟨_, rfl, _, _, rfl, ht, rfl, _, _, rfl, _, _, rfl, rfl, ?_⟩
  refine ⟨_, rfl, _, rfl, _, _, rfl, _, rfl, ?_⟩
  rw [decide_eq_true hx]
  refine iteT ⟨_, rfl, _, rfl, _, _, rfl, _, rfl, ?_⟩
  rw [decide_eq_true hy]
  refine iteT ⟨_, rfl, _, rfl, rfl, ?_⟩
  rw [decide_eq_false (show ¬ V.int x = V.int y from fun z => hne (V.int.inj z))]
  exact q
end
end K5

namespace K5
open PySem PySem.Spec PyProof.Rows L2
/-- a list of numbers as values -/
def nv (L : List Nat) : List V := L.map fun (x : Nat) => V.int (x : Int)
theorem nv_len (L : List Nat) : (nv L).length = L.length := by unfold nv; rw [List.length_map]
theorem nv_get {L : List Nat} {x y : Nat} (h : L[x]? = some y) : (nv L)[x]? = some (.int (y : Int)) := by
  unfold nv
  rw [List.getElem?_map, h]
  rfl
theorem nv_set (L : List Nat) (x y : Nat) : (nv L).set x (.int (y : Int)) = nv (L.set x y) := by
  unfold nv
  rw [List.map_set]
theorem nv_at {L : List Nat} {x y : Nat} (h : L[x]? = some y) : atI (nv L) (x : Int) = some (.int (y : Int)) := atI_nat (nv_get h)
theorem ixN_nat {n x : Nat} (h : x < n) : ixN n (x : Int) = some x := by
  unfold ixN
  rw [if_pos (by omega), if_pos (by omega), Int.toNat_natCast]
theorem upd_self {H : Hp} {p : Addr} {o : HO} (h : H p = some o) : upd H p o = H := by
  funext b
  unfold upd
  by_cases e : b = p
  · rw [if_pos e, e, h]
  · rw [if_neg e]
theorem get_of {α : Type} {L : List α} {n x : Nat} (h : L.length = n) (hx : x < n) : ∃ y, L[x]? = some y := ⟨_, List.getElem?_eq_getElem (h ▸ hx)⟩
theorem rgV_nat (n : Nat) : rgV 0 (n : Int) = nv (List.range n) := by
  unfold rgV nv
  rw [show ((n : Int) - 0).toNat = n by omega]
  apply List.map_congr_left
  intro i _
  rw [Int.zero_add]
theorem dec_ne {i j : Int} (h : i ≠ j) : decide (V.int i = V.int j) = false := decide_eq_false fun z => h (V.int.inj z)
theorem dec_eq (i : Int) : decide (V.int i = V.int i) = true := decide_eq_true rfl
def spFind : Sp := fun vs H Q _ => ∃ (p : Addr) (L : List Nat) (n : Nat) (rank : Nat → Nat) (R : Nat → Nat → Prop) (room : Nat), vs = [.ref p, .int (room : Int)] ∧ H p = some (.lst (nv L)) ∧ Uf n L rank R ∧
  (∀ a b c, R a b → R b c → R a c) ∧ (∀ a, R a a) ∧ room < n ∧ ∀ (L' : List Nat) (r : Nat), Uf n L' rank R → R room r → L'[r]? = some r → (∀ x : Nat, L[x]? = some x → L'[x]? = some x) → Q (.int (r : Nat)) (upd H p (.lst (nv L')))
def spRing (K : PySem.W.Frag) : Sp := fun vs H Q _ => ∃ (a : Addr) (ds : List (Nat × Nat)) (n : Nat), vs = [.ref a] ∧ HouseAt K H a ds ∧ Tree n ds ∧ n ≤ 1000 ∧ ∀ H', Same H H' → Q .non H'
section
variable {P : Program} {w : World} {K : PySem.W.Frag}
      {mg : Str → Option Value} {base : Heap}
theorem ok_find_root (T : Bl mg) (D : Def K mg "find_root" s_find_root) : Cal P w K mg base "find_root" ["links", "room"] 1 spFind := by
  refine D.ok sc_find_root (fun _ _ _ _ _ _ us hl => match us, hl with | [_, _], _ => rfl) (fun vs H Q E h => ?_) (fun f cdv A outer s H vs Q E hr h => ?_)
  · obtain ⟨p, L, n, rank, R, room, rfl, _⟩ := h
    rfl
  obtain ⟨p, L, n, rank, R, room, rfl, hp, u, tr, rf, hlt, q⟩ := h
  refine ⟨_, (pss_cons (ps_while PassesOwn.never (pt_cmpR op_ne (pe_ix ix_list (pv 0) (pv 1) (fun _ _ => rfl)) (pv 1) (nomark _)) (pss_cons (ps_asg (pe_ix ix_list (pv 0) (pe_ix ix_list (pv 0) (pv 1) (fun _ _ => rfl)) (fun _ _ => rfl)) (pg_sub (pv 0) (pv 1) set_list))
    (pss_one (ps_set (i := 1) sc_find_root.nd rfl (.inl rfl) (pe_ix ix_list (pv 0) (pv 1) (fun _ _ => rfl))))))
    (pss_one (ps_ret (pv 1)))), ?_⟩
  refine ⟨fun m σ H1 => ∃ (L1 : List Nat) (r : Nat), m = rank r ∧ σ = [some (.ref p), some (.int (r : Nat))] ∧ H1 = upd H p (.lst (nv L1)) ∧ Uf n L1 rank R ∧ R room r ∧ r < n ∧ ∀ x : Nat, L[x]? = some x → L1[x]? = some x, ⟨rank room, L, room, rfl, rfl, (upd_self hp).symm, u, rf _, hlt, fun _ h => h⟩, fun m σ H1 hW => ?_⟩
  obtain ⟨L1, r, rfl, rfl, rfl, u1, rr, hr1, ro⟩ := hW
  obtain ⟨y, hy⟩ := get_of u1.len hr1
  refine ⟨_, rfl, _, rfl, _, _, _, _, rfl, rfl, SqL.of upd_same, nv_at hy, _, rfl, rfl, _, rfl, ?_⟩
  by_cases e : y = r
  · subst e
    rw [dec_eq]
    exact iteF ⟨_, rfl, q L1 y u1 rr hy ro⟩
  · rw [dec_ne (by omega)]
    obtain ⟨z, hz⟩ := get_of u1.len (u1.at_ _ _ hy).1
    refine iteT ⟨fun σ' H' => ∃ (L2 : List Nat) (r2 : Nat), rank r2 < rank r ∧ σ' = [some (.ref p), some (.int (r2 : Nat))] ∧ H' = upd H p (.lst (nv L2)) ∧ Uf n L2 rank R ∧ R room r2 ∧ r2 < n ∧ ∀ x : Nat, L[x]? = some x → L2[x]? = some x, fun σ' H' ⟨L2, r2, h1, h2⟩ => ⟨_, h1, L2, r2, rfl, h2⟩, ?_⟩
    refine ⟨_, rfl, _, rfl, _, rfl, _, _, _, _, rfl, rfl, SqL.of upd_same, nv_at hy, _, _, _, _, rfl, rfl, SqL.of upd_same, nv_at hz, ?_⟩
    refine ⟨_, rfl, _, rfl, _, _, _, r, rfl, rfl, upd_same, ixN_nat (by rw [nv_len, u1.len]; exact hr1), ?_⟩
    rw [upd_upd, nv_set]
    have hz' : (L1.set r z)[r]? = some z := by
      rw [List.getElem?_set_self (by rw [u1.len]; exact hr1)]
    refine ⟨_, rfl, _, rfl, _, _, _, _, rfl, rfl, SqL.of upd_same, nv_at hz', ?_⟩
    have a1 := u1.at_ _ _ hy
    have a2 := u1.at_ _ _ hz
    refine ⟨L1.set r z, z, u1.less hy hz e, rfl, rfl, u1.half tr hy hz, tr _ _ _ rr (tr _ _ _ a1.2.1 a2.2.1), a2.1, fun x hx => ?_⟩
    have h1 := ro x hx
    have ne : r ≠ x := fun z => by
      subst z
      rw [h1] at hy
      exact e (Option.some.inj hy).symm
    rw [List.getElem?_set_ne ne]
    exact h1
theorem ok_first_ring (T : Bl mg) (D : Def K mg "first_ring" s_first_ring) (C_find_root : Cal P w K mg base "find_root" ["links", "room"] 1 spFind) : Cal P w K mg base "first_ring" ["doors"] 2 (spRing K) := by
  refine D.ok sc_first_ring (fun _ _ _ _ _ _ us hl => match us, hl with | [_], _ => rfl) (fun vs H Q E h => ?_) (fun f cdv A outer s H vs Q E hr h => ?_)
  · obtain ⟨a, ds, n, rfl, _⟩ := h
    rfl
  obtain ⟨a, ds, n, rfl, hH, tree, hn, q⟩ := h
  obtain ⟨rs, hrs, hlen, hds⟩ := id hH
  obtain ⟨side, s1, s2⟩ := tree.side
  have hdn := tree.len
  obtain ⟨f_find_root, fd_find_root, g_find_root, k_find_root, b_find_root, G_find_root⟩ := C_find_root
  refine ⟨_, (pss_cons (ps_set (i := 1) sc_first_ring.nd rfl (.inl rfl) (pe_listRg rfl (by rfl) T.list (prg_1 (by rfl) T.range (pe_op op_add (pe_callB call_len_seq (by rfl) T.len PySem.boot_len (pa_cons (pv 0) pa_nil)) pe_int))))
    (pss_cons (ps_for PassesOwn.never rfl (pi_enumT (by rfl) T.enumerate (pa_cons (pv 0) pa_nil)) (pg_tup (n := 2) rfl (pgs_cons (pg_name (i := 2) sc_first_ring.nd rfl (.inl rfl)) (pgs_cons (pg_tup (n := 2) rfl (pgs_cons (pg_name (i := 3) sc_first_ring.nd rfl (.inl rfl)) (pgs_cons (pg_name (i := 4) sc_first_ring.nd rfl (.inl rfl)) pgs_nil))) pgs_nil)))
    (pss_cons (ps_set (i := 5) sc_first_ring.nd rfl (.inl rfl) (pe_call G_find_root (hr.mono (by decide)) (by rfl) g_find_root k_find_root b_find_root .nil pass0 (pa_cons (pv 1) (pa_cons (pv 3) pa_nil))))
    (pss_cons (ps_set (i := 6) sc_first_ring.nd rfl (.inl rfl) (pe_call G_find_root (hr.mono (by decide)) (by rfl) g_find_root k_find_root b_find_root .nil pass0 (pa_cons (pv 1) (pa_cons (pv 4) pa_nil))))
    (pss_cons (ps_if (pt_cmpR op_eq (pv 5) (pv 6) (nomark _)) (pss_one (ps_ret (pv 2))) pss_nil)
    (pss_one (ps_asg (pv 6) (pg_sub (pv 1) (pv 5) set_list)))))))
    (pss_one (ps_ret pe_non)))), ?_⟩
  have e1 : (((rs.map V.ref).length : Nat) : Int) + 1 = ((n : Nat) : Int) := by
    rw [List.length_map, hlen]
    omega
  refine ⟨_, rfl, _, _, rfl, .inr hrs, _, _, rfl, rfl, _, rfl, .of_le (Int.le_refl _) (by omega) (by omega) (by omega), fun q0 nq => ?_⟩
  rw [e1, rgV_nat]
  refine ⟨_, rfl, a, _, rfl, (Same.upd nq).tup hrs, ?_⟩
  refine for_it (walk_enumT (K := K) (a := a) (xs := rs.map V.ref)) (fun k σ H1 => ∃ L rank y2 y3 y4 y5 y6, σ = [some (.ref a), some (.ref q0), y2, y3, y4, y5, y6] ∧ Same H H1 ∧ H1 q0 = some (.lst (nv L)) ∧ Uf n L rank (Rk side k))
    ⟨_, _, _, _, _, _, _, rfl, Same.upd nq, upd_same, Uf.range n _ Rk.rf⟩ (fun i σ H1 _ ⟨_, _, _, _, _, _, _, _, sm, _⟩ => sm.tup hrs) ?_ ?_
  · rintro k x σ H1 H2 hk ⟨L, rank, y2, y3, y4, y5, y6, rfl, sm, hq0, u⟩ ⟨t, x1, x2, rfl, nt, rfl, ex1, ex2⟩
    cases ex1
    have hk' : k < ds.length := by
      rw [List.length_map, hlen] at hk
      exact hk
    obtain ⟨e, he⟩ : ∃ e, ds[k]? = some e := get_of rfl hk'
    obtain ⟨r, hr0⟩ : ∃ r, rs[k]? = some r := get_of hlen hk'
    have ex2' : V.ref r = x2 := by
      have ex2 : (rs.map V.ref)[k]? = some x2 := ex2
      rw [List.getElem?_map, hr0] at ex2
      exact Option.some.inj ex2
    subst ex2'
    have sm2 : Same H1 (upd H1 t (.tup [.int (k : Nat), .ref r])) := Same.upd nt
    have hrd := sm2.tup (sm.tup (hds k r e hr0 he))
    have hq2 := sm2 _ _ hq0
    have elt := tree.lt e (List.mem_of_getElem? he)
    refine ⟨t, _, rfl, SqT.of upd_same, rfl, _, _, rfl, _, _, rfl, ⟨r, _, rfl, hrd, rfl, _, _, rfl, _, _, rfl, rfl, rfl, ?_⟩⟩
    refine ⟨_, rfl, _, rfl, q0, L, n, rank, Rk side k, e.1, rfl, hq2, u, Rk.tr, Rk.rf, elt.1, fun L1 ra u1 hra rta _ => ?_⟩
    refine ⟨_, rfl, _, rfl, q0, L1, n, rank, Rk side k, e.2, rfl, upd_same, u1, Rk.tr, Rk.rf, elt.2, fun L2 rb u2 hrb rtb ro2 => ?_⟩
    rw [upd_upd]
    refine ⟨_, rfl, _, rfl, rfl, _, rfl, ?_⟩
    have nab : ra ≠ rb := fun z => ring_no s1 he hra (z ▸ hrb)
    show if decide (V.int (ra : Int) = V.int (rb : Int)) = true then _ else _
    rw [dec_ne (by omega)]
    refine iteF ?_
    have rta2 := ro2 ra rta
    refine ⟨_, rfl, _, rfl, _, rfl, _, _, _, ra, rfl, rfl, upd_same, ixN_nat (by rw [nv_len]; exact get_lt rta2), ?_⟩
    rw [upd_upd, nv_set]
    exact ⟨_, _, _, _, _, _, _, rfl, (sm.trans sm2).at nq, upd_same, u2.union s1 s2 he hra hrb rta2 rtb⟩
  · rintro σ H1 ⟨L, rank, y2, y3, y4, y5, y6, rfl, sm, hq0, u⟩
    exact q H1 sm
end
end K5

namespace K5
open PySem PySem.Spec PyProof.Rows L2
def spNeedRoom (K : PySem.W.Frag) : Sp := fun vs H Q _ => ∃ (a : Addr) (ds : List (Nat × Nat)) (x : Int), vs = [.ref a, .int x] ∧ HouseAt K H a ds ∧ 0 ≤ x ∧ x < ds.length + 1 ∧ Q .non H
def spNeedDoor (K : PySem.W.Frag) : Sp := fun vs H Q _ => ∃ (a : Addr) (ds : List (Nat × Nat)) (x : Int), vs = [.ref a, .int x] ∧ HouseAt K H a ds ∧ 0 ≤ x ∧ x < ds.length ∧ Q .non H
section
variable {P : Program} {w : World} {K : PySem.W.Frag}
      {mg : Str → Option Value} {base : Heap}
theorem ok_check_house (T : Bl mg) (D : Def K mg "check_house" s_check_house) (C_is_door : Cal P w K mg base "is_door" ["value", "count"] 3 (spDoor K)) (C_first_ring : Cal P w K mg base "first_ring" ["doors"] 2 (spRing K)) :
    Cal P w K mg base "check_house" ["value"] 4 (spRing K) := by
  refine D.ok sc_check_house (fun _ _ _ _ _ _ us hl => match us, hl with | [_], _ => rfl) (fun vs H Q E h => ?_) (fun f cdv A outer s H vs Q E hr h => ?_)
  · obtain ⟨a, ds, n, rfl, _⟩ := h
    rfl
  obtain ⟨a, ds, n, rfl, hH, tree, hn, q⟩ := h
  obtain ⟨rs, hrs, hlen, hds⟩ := id hH
  have hdn := tree.len
  obtain ⟨f_is_door, fd_is_door, g_is_door, k_is_door, b_is_door, G_is_door⟩ := C_is_door
  obtain ⟨f_first_ring, fd_first_ring, g_first_ring, k_first_ring, b_first_ring, G_first_ring⟩ := C_first_ring
  refine ⟨_, (pss_cons (ps_if (pt_not (pt_val (pe_callB call_isi (by rfl) T.isinstance (by decide +kernel) (pa_cons (pv 0) (pa_cons (pe_bltn (v := .ty "tuple") (u := .type "tuple") (by rfl) T.tuple (by decide +kernel) rfl) pa_nil))))) (pss_one (ps_ret (pe_tup (pa_cons pe_str pa_nil)))) pss_nil)
    (pss_cons (ps_for PassesOwn.never rfl (pi_enumT (by rfl) T.enumerate (pa_cons (pv 0) pa_nil)) (pg_tup (n := 2) rfl (pgs_cons (pg_name (i := 1) sc_check_house.nd rfl (.inl rfl)) (pgs_cons (pg_name (i := 2) sc_check_house.nd rfl (.inl rfl)) pgs_nil)))
    (pss_one (ps_if (pt_not (pt_val (pe_call G_is_door (hr.mono (by decide)) (by rfl) g_is_door k_is_door b_is_door .nil pass0 (pa_cons (pv 2) (pa_cons (pe_op op_add (pe_callB call_len_seq (by rfl) T.len PySem.boot_len (pa_cons (pv 0) pa_nil)) pe_int) pa_nil))))) (pss_one (ps_ret (pe_tup (pa_cons pe_str (pa_cons (pv 1) pa_nil))))) pss_nil)))
    (pss_cons (ps_set (i := 3) sc_check_house.nd rfl (.inl rfl) (pe_call G_first_ring (hr.mono (by decide)) (by rfl) g_first_ring k_first_ring b_first_ring .nil pass0 (pa_cons (pv 0) pa_nil)))
    (pss_cons (ps_if (pt_cmpR op_notN (pv 3) pe_non (nomark _)) (pss_one (ps_ret (pe_tup (pa_cons pe_str (pa_cons (pv 3) pa_nil))))) pss_nil)
    (pss_one (ps_ret pe_non)))))), ?_⟩
  refine ⟨_, rfl, _, _, _, _, _, rfl, .ty _, ty_tup hrs, kit_ty (r := true) (by decide +kernel), _, rfl, iteF ?_⟩
  refine ⟨_, rfl, a, _, rfl, hrs, ?_⟩
  refine for_it (walk_enumT (K := K) (a := a) (xs := rs.map V.ref)) (fun k σ H1 => ∃ y1 y2 y3, σ = [some (.ref a), y1, y2, y3] ∧ Same H H1)
    ⟨_, _, _, rfl, Same.refl _⟩ (fun i σ H1 _ ⟨_, _, _, _, sm⟩ => sm.tup hrs) ?_ ?_
  · rintro k x σ H1 H2 hk ⟨y1, y2, y3, rfl, sm⟩ ⟨t, x1, x2, rfl, nt, rfl, ex1, ex2⟩
    cases ex1
    have hk' : k < ds.length := by
      rw [List.length_map, hlen] at hk
      exact hk
    obtain ⟨e, he⟩ : ∃ e, ds[k]? = some e := get_of rfl hk'
    obtain ⟨r, hr0⟩ : ∃ r, rs[k]? = some r := get_of hlen hk'
    have ex2' : V.ref r = x2 := by
      have ex2 : (rs.map V.ref)[k]? = some x2 := ex2
      rw [List.getElem?_map, hr0] at ex2
      exact Option.some.inj ex2
    subst ex2'
    have sm2 : Same H1 (upd H1 t (.tup [.int (k : Nat), .ref r])) := Same.upd nt
    have sm3 := sm.trans sm2
    have elt := tree.lt e (List.mem_of_getElem? he)
    obtain ⟨side, s1, s2⟩ := tree.side
    have ene : e.1 ≠ e.2 := fun z => s1 k e he (by rw [z])
    refine ⟨t, _, rfl, SqT.of upd_same, rfl, _, _, rfl, _, _, rfl, rfl, ?_⟩
    refine ⟨_, rfl, _, rfl, _, _, rfl, .inr (sm3.tup hrs), _, _, rfl, rfl, ?_⟩
    refine ⟨r, e.1, e.2, _, rfl, sm3.tup (hds k r e hr0 he), ?_, ?_, by omega, _, rfl, iteF ⟨_, _, _, rfl, sm3⟩⟩
    · rw [List.length_map, hlen]; omega
    · rw [List.length_map, hlen]; omega
  · rintro σ H1 ⟨y1, y2, y3, rfl, sm⟩
    refine ⟨_, rfl, a, ds, n, rfl, hH.same sm, tree, hn, fun H2 sm2 => ?_⟩
    refine ⟨_, rfl, rfl, _, rfl, iteF ?_⟩
    exact q H2 (sm.trans sm2)
theorem ok_need_house (T : Bl mg) (D : Def K mg "need_house" s_need_house) (C_check_house : Cal P w K mg base "check_house" ["value"] 4 (spRing K)) : Cal P w K mg base "need_house" ["house"] 5 (spRing K) := by
  refine D.ok sc_need_house (fun _ _ _ _ _ _ us hl => match us, hl with | [_], _ => rfl) (fun vs H Q E h => ?_) (fun f cdv A outer s H vs Q E hr h => ?_)
  · obtain ⟨a, ds, n, rfl, _⟩ := h
    rfl
  obtain ⟨a, ds, n, rfl, hH, tree, hn, q⟩ := h
  obtain ⟨f_check_house, fd_check_house, g_check_house, k_check_house, b_check_house, G_check_house⟩ := C_check_house
  refine ⟨_, (pss_cons (ps_set (i := 1) sc_need_house.nd rfl (.inl rfl) (pe_call G_check_house (hr.mono (by decide)) (by rfl) g_check_house k_check_house b_check_house .nil pass0 (pa_cons (pv 0) pa_nil)))
    (pss_one (ps_if (pt_cmpR op_notN (pv 1) pe_non (nomark _)) pss_never pss_nil))), ?_⟩
  refine ⟨_, rfl, a, ds, n, rfl, hH, tree, hn, fun H2 sm2 => ⟨_, rfl, rfl, _, rfl, iteF ?_⟩⟩
  exact q H2 sm2
end
end K5

namespace K5
open PySem PySem.Spec PyProof.Rows L2
/-- a list at q of pairs of numbers, each a tuple -/
def PairsAt (H : Hp) (q : Addr) (l : List (Nat × Nat)) : Prop :=
  ∃ ts : List Addr, H q = some (.lst (ts.map V.ref)) ∧ ts.length = l.length ∧ ∀ (i : Nat) (t : Addr) (e : Nat × Nat), ts[i]? = some t → l[i]? = some e → H t = some (.tup [.int e.1, .int e.2])
theorem PairsAt.same {H H' : Hp} {q : Addr} {l} (h : PairsAt H q l) (s : Same H H') : PairsAt H' q l := by
  obtain ⟨ts, h1, h2, h3⟩ := h
  exact ⟨ts, s _ _ h1, h2, fun i t e a b => s _ _ (h3 i t e a b)⟩
theorem ne_lt {H : Hp} {a b : Addr} {xs ys : List V} (h : H a = some (.lst xs)) (h' : H b = some (.tup ys)) : b ≠ a := ne_of h' h (by intro z; cases z)
/-- what stands aside of q keeps -/
theorem PairsAt.aside {H H' : Hp} {q p : Addr} {l} {xs : List V} (h : PairsAt H q l) (hp : H p = some (.lst xs)) (ne : q ≠ p) (s : But p H H') : PairsAt H' q l := by
  obtain ⟨ts, h1, h2, h3⟩ := h
  exact ⟨ts, s _ _ ne h1, h2, fun i t e a b => s _ _ (ne_lt hp (h3 i t e a b)) (h3 i t e a b)⟩
theorem PairsAt.push {H H' : Hp} {q t : Addr} {l : List (Nat × Nat)} {ts : List Addr} {d y : Nat} (h1 : H q = some (.lst (ts.map V.ref))) (h2 : ts.length = l.length) (h3 : ∀ (i : Nat) (t : Addr) (e : Nat × Nat), ts[i]? = some t → l[i]? = some e → H t = some (.tup [.int e.1, .int e.2]))
    (s : But q H H') (hq : H' q = some (.lst (ts.map V.ref ++ [.ref t]))) (ht : H' t = some (.tup [.int (d : Int), .int (y : Int)])) : PairsAt H' q (l ++ [(d, y)]) := by
  refine ⟨ts ++ [t], by rw [hq, List.map_append]; rfl, by simp [h2], fun i t' e a b => ?_⟩
  by_cases hi : i < ts.length
  · rw [List.getElem?_append_left hi] at a
    rw [List.getElem?_append_left (by omega)] at b
    have := h3 i t' e a b
    exact s _ _ (ne_lt h1 this) this
  · have hlt := get_lt a
    rw [List.length_append, List.length_singleton] at hlt
    have ei : i = ts.length := by omega
    subst ei
    rw [List.getElem?_append_right (Nat.le_refl _), Nat.sub_self] at a
    rw [h2, List.getElem?_append_right (Nat.le_refl _), Nat.sub_self] at b
    cases a
    cases b
    exact ht
/-- the rows of exits: a list each -/
def Rows (H : Hp) (ps : List Addr) (ex : Nat → List (Nat × Nat)) : Prop := ∀ (x : Nat) (q : Addr), ps[x]? = some q → PairsAt H q (ex x)
theorem Rows.same {H H' : Hp} {ps ex} (h : Rows H ps ex) (s : Same H H') : Rows H' ps ex := fun x q e => (h x q e).same s
theorem Rows.push {H : Hp} {ps : List Addr} {ex : Nat → List (Nat × Nat)} (R : Rows H ps ex) (nd : ps.Nodup) {x : Nat} {q t : Addr} (hq : ps[x]? = some q) (nt : H t = none) {d y : Nat} {xs : List V} (hx : H q = some (.lst xs)) :
    Rows (upd (upd H t (.tup [.int (d : Int), .int (y : Int)])) q (.lst (xs ++ [.ref t]))) ps (fun z => if z = x then ex z ++ [(d, y)] else ex z) := by
  have s1 : But q H (upd (upd H t (.tup [.int (d : Int), .int (y : Int)])) q (.lst (xs ++ [.ref t]))) := fun b o ne e => by
    rw [upd_ne ne, upd_ne (ne_of_none e nt)]
    exact e
  have ntq : t ≠ q := (ne_of_none hx nt).symm
  intro z q' hz
  by_cases e : z = x
  · subst e
    rw [hq] at hz
    cases hz
    obtain ⟨ts, h1, h2, h3⟩ := R z q hq
    rw [hx] at h1
    cases h1
    simp only [if_true]
    exact .push (ts := ts) hx h2 h3 s1 upd_same (by rw [upd_ne ntq, upd_same])
  · simp only [if_neg e]
    have ne : q' ≠ q := fun z' => by
      subst z'
      exact e (nd_ix nd hz hq)
    exact (R z q' hz).aside hx ne s1
theorem ex_mem {ds : List (Nat × Nat)} {ex : Nat → List (Nat × Nat)} {k : Nat} {e : Nat × Nat} (he : ds[k]? = some e) (ne : e.1 ≠ e.2) (mem : ∀ x d y, (d, y) ∈ ex x ↔ d < k ∧ Joins ds d x y) (x d y : Nat) :
    (d, y) ∈ (if x = e.2 then (if x = e.1 then ex x ++ [(k, e.2)] else ex x) ++ [(k, e.1)] else if x = e.1 then ex x ++ [(k, e.2)] else ex x) ↔ d < k + 1 ∧ Joins ds d x y := by
  have J : Joins ds k x y ↔ (x = e.1 ∧ y = e.2) ∨ (x = e.2 ∧ y = e.1) := by
    unfold Joins
    rw [he]
    constructor
    · rintro (h | h)
      · have h := Option.some.inj h
        exact .inl ⟨by rw [h], by rw [h]⟩
      · have h := Option.some.inj h
        exact .inr ⟨by rw [h], by rw [h]⟩
    · rintro (⟨rfl, rfl⟩ | ⟨rfl, rfl⟩)
      · exact .inl rfl
      · exact .inr rfl
  have step : (d < k + 1 ∧ Joins ds d x y) ↔ (d < k ∧ Joins ds d x y) ∨ (d = k ∧ ((x = e.1 ∧ y = e.2) ∨ (x = e.2 ∧ y = e.1))) := by
    constructor
    · rintro ⟨h1, h2⟩
      by_cases q : d = k
      · subst q
        exact .inr ⟨rfl, J.mp h2⟩
      · exact .inl ⟨by omega, h2⟩
    · rintro (⟨h1, h2⟩ | ⟨rfl, h2⟩)
      · exact ⟨by omega, h2⟩
      · exact ⟨by omega, J.mpr h2⟩
  rw [step, ← mem x d y]
  by_cases h2 : x = e.2
  · have h1 : ¬ x = e.1 := fun z => ne (z.symm.trans h2)
    rw [if_pos h2, if_neg h1, List.mem_append, List.mem_singleton, Prod.mk.injEq]
    simp [h1, h2, ne.symm]
  · rw [if_neg h2]
    by_cases h1 : x = e.1
    · rw [if_pos h1, List.mem_append, List.mem_singleton, Prod.mk.injEq]
      simp [h1, ne]
    · rw [if_neg h1]
      simp [h1, h2]
theorem small3k {n : Nat} (h : n ≤ 3000) : n < sizeLine := Nat.lt_of_le_of_lt h (by decide)
theorem lcYes {A B : Hp → Prop} {σ : L2.St} {H : Hp} (h : A H) : tYes σ H (fun b H3 => if b = true then A H3 else B H3) := by
  show (if true = true then A H else B H)
  rw [if_pos rfl]
  exact h
def spExits (K : PySem.W.Frag) : Sp := fun vs H Q _ => ∃ (a : Addr) (ds : List (Nat × Nat)) (n : Nat), vs = [.ref a] ∧ HouseAt K H a ds ∧ Tree n ds ∧ n ≤ 1000 ∧
  ∀ (H' : Hp) (p : Addr) (ps : List Addr) (ex : Nat → List (Nat × Nat)), Same H H' → H p = none → H' p = some (.lst (ps.map V.ref)) → ps.length = n → Rows H' ps ex → (∀ x d y, (d, y) ∈ ex x ↔ Joins ds d x y) → Q (.ref p) H'
section
variable {P : Program} {w : World} {K : PySem.W.Frag}
      {mg : Str → Option Value} {base : Heap}
end
end K5

namespace K5
open PySem PySem.Spec PyProof.Rows L2
/-- a dict whose keys are numbers: key by key -/
def DicR {β : Type} (VR : V → β → Prop) (kvs : List (Key × V)) (ks : List (Nat × β)) : Prop := Paired (fun (kv : Key × V) (k : Nat × β) => kv.1 = Sum.inl (k.1 : Int) ∧ VR kv.2 k.2) kvs ks
section
variable {β : Type} {VR VR' : V → β → Prop}
theorem DicR.mono {kvs ks} (h : DicR VR kvs ks) (f : ∀ v o, VR v o → VR' v o) : DicR VR' kvs ks := Paired.mapP h fun a b x => ⟨x.1, f _ _ x.2⟩
theorem DicR.len {kvs ks} (h : DicR VR kvs ks) : kvs.length = ks.length := Paired.length h
theorem DicR.no : ∀ {kvs : List (Key × V)} {ks : List (Nat × β)} {x : Nat}, DicR VR kvs ks → x ∉ ks.map Prod.fst → valV kvs (Sum.inl (x : Int)) = none
  | _, _, x, .nil, _ => rfl
  | kv :: _, k :: _, x, .cons h t, hx => by
    have hne : ¬ kv.1 = Sum.inl (x : Int) := fun z => by
      rw [h.1] at z
      have z := Sum.inl.inj z
      exact hx (List.mem_map.mpr ⟨k, List.mem_cons_self, by omega⟩)
    rw [valV_neg hne]
    exact DicR.no t fun m => hx (by rw [List.map_cons]; exact List.mem_cons_of_mem _ m)
theorem DicR.val : ∀ {kvs : List (Key × V)} {ks : List (Nat × β)} {x : Nat}, DicR VR kvs ks → x ∈ ks.map Prod.fst → ∃ v o, valV kvs (Sum.inl (x : Int)) = some v ∧ (x, o) ∈ ks ∧ VR v o
  | _, _, x, .nil, hx => by cases hx
  | kv :: _, k :: _, x, .cons h t, hx => by
    by_cases e : k.1 = x
    · refine ⟨kv.2, k.2, valV_pos (by rw [h.1, e]), ?_, h.2⟩
      rw [← e]
      exact List.mem_cons_self
    · have hne : ¬ kv.1 = Sum.inl (x : Int) := fun z => by
        rw [h.1] at z
        have z := Sum.inl.inj z
        omega
      rw [List.map_cons] at hx
      obtain ⟨v, o, a, b, c⟩ := DicR.val t ((List.mem_cons.mp hx).resolve_left fun q => e q.symm)
      exact ⟨v, o, by rw [valV_neg hne]; exact a, List.mem_cons_of_mem _ b, c⟩
theorem DicR.snoc : ∀ {kvs : List (Key × V)} {ks : List (Nat × β)} {x : Nat} {v : V} {o : β}, DicR VR kvs ks → VR v o → DicR VR (kvs ++ [(Sum.inl (x : Int), v)]) (ks ++ [(x, o)])
  | _, _, x, v, o, .nil, r => .cons ⟨rfl, r⟩ .nil
  | _, _, x, v, o, .cons h t, r => .cons h (DicR.snoc t r)
theorem DicR.add {kvs : List (Key × V)} {ks : List (Nat × β)} {x : Nat} {v : V} {o : β} (h : DicR VR kvs ks) (hx : x ∉ ks.map Prod.fst) (r : VR v o) : DicR VR (putK kvs (Sum.inl (x : Int)) v) (ks ++ [(x, o)]) := by
  rw [putK_new v (h.no hx)]
  exact h.snoc r
end
/-- a way's step: None, or a tuple (door, next room) -/
def WayR (H : Hp) (v : V) (o : Option (Nat × Nat)) : Prop := match o with
  | none => v = .non
  | some e => ∃ t, v = .ref t ∧ H t = some (.tup [.int (e.1 : Int), .int (e.2 : Int)])
theorem WayR.keep {H H' : Hp} {v o} (h : WayR H v o) (s : ∀ t xs, H t = some (.tup xs) → H' t = some (.tup xs)) : WayR H' v o := by
  cases o with
  | none => exact h
  | some e =>
    obtain ⟨t, a, b⟩ := h
    exact ⟨t, a, s _ _ b⟩
theorem snoc_nil {α : Type} (l : List α) : l = [] ∨ ∃ r x, l = r ++ [x] := by
  by_cases h : l = []
  · exact .inl h
  · exact .inr ⟨l.dropLast, l.getLast h, (List.dropLast_concat_getLast h).symm⟩
theorem mem_ofNat {d : Nat} {l : List Nat} : ((d : Int) ∈ l.map fun x : Nat => (x : Int)) ↔ d ∈ l := by
  constructor
  · intro h
    obtain ⟨x, hx, e⟩ := List.mem_map.mp h
    have : x = d := by omega
    exact this ▸ hx
  · intro h
    exact List.mem_map.mpr ⟨d, h, rfl⟩
theorem nv_int (l : List Nat) : nv l = (l.map fun x : Nat => (x : Int)).map V.int := by
  unfold nv
  rw [List.map_map]
  rfl
theorem nv_snoc (l : List Nat) (x : Nat) : nv (l ++ [x]) = nv l ++ [.int (x : Int)] := by
  unfold nv
  rw [List.map_append]
  rfl
/-- the dict and the list that the search writes; what stood ahead of them stands -/
structure WS (Hb H : Hp) (pw pq : Addr) (ks : List (Nat × Option (Nat × Nat))) (ws : List Nat) : Prop where
  sm : Same Hb H
  w : ∃ kvs, H pw = some (.dK kvs) ∧ DicR (WayR H) kvs ks
  q : H pq = some (.lst (nv ws))
  le : ws.length ≤ ks.length
theorem WS.ne {Hb H pw pq ks ws} (S : WS Hb H pw pq ks ws) : pw ≠ pq := by
  obtain ⟨kvs, h, _⟩ := S.w
  exact ne_of h S.q (by intro z; cases z)
theorem WS.setq {Hb H pw pq ks ws ws'} (S : WS Hb H pw pq ks ws) (nq : Hb pq = none) (hl : ws'.length ≤ ks.length) : WS Hb (upd H pq (.lst (nv ws'))) pw pq ks ws' := by
  obtain ⟨kvs, h, r⟩ := S.w
  refine ⟨S.sm.at nq, ⟨kvs, by rw [upd_ne S.ne]; exact h, r.mono fun v o x => x.keep fun t xs e => ?_⟩, upd_same, hl⟩
  rw [upd_ne (ne_lt S.q e)]
  exact e
theorem WS.add {Hb H pw pq ks ws} (S : WS Hb H pw pq ks ws) (nw : Hb pw = none) {t : Addr} (nt : H t = none) {kvs} (hk : H pw = some (.dK kvs)) (r : DicR (WayR H) kvs ks) {y d here : Nat} (ny : y ∉ ks.map Prod.fst) :
    WS Hb (upd (upd H t (.tup [.int (d : Int), .int (here : Int)])) pw (.dK (putK kvs (Sum.inl (y : Int)) (.ref t)))) pw pq (ks ++ [(y, some (d, here))]) ws := by
  have ntw : t ≠ pw := (ne_of_none hk nt).symm
  refine ⟨(S.sm.trans (Same.upd nt)).at nw, ⟨_, upd_same, (r.mono fun v o x => x.keep fun t' xs e => ?_).add ny ⟨t, rfl, by rw [upd_ne ntw, upd_same]⟩⟩, ?_, by rw [List.length_append]; exact Nat.le_trans S.le (Nat.le_add_right _ _)⟩
  · rw [upd_ne (ne_of e hk (by intro z; cases z)), upd_ne (ne_of_none e nt)]
    exact e
  · rw [upd_ne S.ne.symm, upd_ne (ne_of_none S.q nt)]
    exact S.q
def spWays (K : PySem.W.Frag) : Sp := fun vs H Q _ => ∃ (a sh : Addr) (ds : List (Nat × Nat)) (n room : Nat) (shut : List Nat), vs = [.ref a, .int (room : Int), .ref sh] ∧ HouseAt K H a ds ∧ Tree n ds ∧ n ≤ 1000 ∧ room < n ∧ SqL K H sh (nv shut) ∧ shut.length ≤ 1000 ∧
  ∀ (H' : Hp) (p : Addr) (kvs : List (Key × V)) (ks : List (Nat × Option (Nat × Nat))), Same H H' → H p = none → H' p = some (.dK kvs) → DicR (WayR H') kvs ks → Dfs n ds shut (ks.map Prod.fst) [] → Ptr ds shut room ks → room ∈ ks.map Prod.fst → Q (.ref p) H'
section
variable {P : Program} {w : World} {K : PySem.W.Frag}
      {mg : Str → Option Value} {base : Heap}
end
end K5

namespace K5
open PySem PySem.Spec PyProof.Rows L2
theorem bits29 {m : Int} (h0 : 0 < m) (h1 : m < 2 ^ 29) : ((Builtin.Int.intBits m : Nat) : Int) / 30 = 0 := by
  have h : Builtin.Int.intBits m ≤ 29 := by
    unfold Builtin.Int.intBits
    have hne : ¬ (m == 0) = true := fun z => by
      have := eq_of_beq z
      omega
    rw [if_neg hne]
    have : m.natAbs.log2 < 29 := (Nat.log2_lt (by omega)).mpr (by omega)
    omega
  omega
/-- a generator of draws: a list of three numbers, the third at most b -/
def GenAt (H : Hp) (g : Addr) (b : Nat) : Prop := ∃ x y z : Int, H g = some (.lst [.int x, .int y, .int z]) ∧ 0 ≤ x ∧ 0 ≤ z ∧ z ≤ (b : Int)
theorem GenAt.mono {H g b c} (h : GenAt H g b) (l : b ≤ c) : GenAt H g c := by
  obtain ⟨x, y, z, a, b, c, d⟩ := h
  exact ⟨x, y, z, a, b, c, by omega⟩
theorem GenAt.same {H H' g b} (h : GenAt H g b) (s : Same H H') : GenAt H' g b := by
  obtain ⟨x, y, z, a, b, c, d⟩ := h
  exact ⟨x, y, z, s _ _ a, b, c, d⟩
theorem GenAt.lst {H g b} (h : GenAt H g b) : ∃ xs, H g = some (.lst xs) := by
  obtain ⟨x, y, z, a, _⟩ := h
  exact ⟨_, a⟩
def spCell (K : PySem.W.Frag) : Sp := fun vs H Q _ => ∃ (a : Addr) (ns : List Int) (i : Int), vs = [.ref a, .int i] ∧ SqL K H a (ns.map V.int) ∧ 0 ≤ i ∧ ∀ z : Int, Q (.int z) H
def spHash : Sp := fun vs H Q _ => ∃ x i : Int, vs = [.int x, .int i] ∧ 0 ≤ i ∧ i < 2 ^ 62 ∧ ∀ z : Int, Q (.int z) H
def spGen (K : PySem.W.Frag) : Sp := fun vs H Q _ => ∃ (a : Addr) (ns : List Int) (i : Nat), vs = [.ref a, .int (i : Int)] ∧ SqL K H a (ns.map V.int) ∧ i ≤ 1000 ∧ ∀ (H' : Hp) (g : Addr), Same H H' → H g = none → GenAt H' g 1000000 → Q (.ref g) H'
def spRand : Sp := fun vs H Q _ => ∃ (g : Addr) (b m : Nat), vs = [.ref g, .int (m : Int)] ∧ GenAt H g b ∧ 0 < m ∧ m < 2 ^ 29 ∧ b < 2 ^ 60 ∧ ∀ (H' : Hp) (v : Nat), But g H H' → GenAt H' g (b + 1) → v < m → Q (.int (v : Int)) H'
section
variable {P : Program} {w : World} {K : PySem.W.Frag}
      {mg : Str → Option Value} {base : Heap}
theorem ok_cell (T : Bl mg) (D : Def K mg "_law_cell" s_l_cell) : Cal P w K mg base "_law_cell" ["_law_script", "_law_index"] 1 (spCell K) := by
  refine D.ok sc_l_cell (fun _ _ _ _ _ _ us hl => match us, hl with | [_, _], _ => rfl) (fun vs H Q E h => ?_) (fun f cdv A outer s H vs Q E hr h => ?_)
  · obtain ⟨a, ns, i, rfl, _⟩ := h
    rfl
  obtain ⟨a, ns, i, rfl, hs, hi, q⟩ := h
  refine ⟨_, (pss_cons (ps_if (pt_cmpR op_lt (pv 1) (pe_callB call_len_seq (by rfl) T.len PySem.boot_len (pa_cons (pv 0) pa_nil)) (nomark _)) (pss_one (ps_ret (pe_ix ix_list (pv 0) (pv 1) (fun _ _ => rfl)))) pss_nil)
    (pss_one (ps_ret pe_int))), ?_⟩
  refine ⟨_, rfl, _, rfl, _, _, rfl, .inl hs, _, _, rfl, rfl, _, rfl, ite2 (fun h => ?_) (fun h => ?_)⟩
  · have h := of_decide_eq_true h
    rw [List.length_map] at h
    obtain ⟨k, rfl⟩ : ∃ k : Nat, i = (k : Int) := ⟨i.toNat, by omega⟩
    have hk : k < ns.length := by omega
    refine ⟨_, rfl, _, rfl, _, _, _, _, rfl, rfl, hs, atI_nat (v := V.int ns[k]) (by rw [List.getElem?_map, List.getElem?_eq_getElem hk]; rfl), q _⟩
  · exact q 0
theorem ok_hash (T : Bl mg) (D : Def K mg "_law_hash" s_l_hash) : Cal P w K mg base "_law_hash" ["_law_seed", "_law_index"] 1 spHash := by
  refine D.ok sc_l_hash (fun _ _ _ _ _ _ us hl => match us, hl with | [_, _], _ => rfl) (fun vs H Q E h => ?_) (fun f cdv A outer s H vs Q E hr h => ?_)
  · obtain ⟨x, i, rfl, _⟩ := h
    rfl
  obtain ⟨x, i, rfl, h0, h1, q⟩ := h
  refine ⟨_, (pss_cons (ps_set (i := 2) sc_l_hash.nd rfl (.inl rfl) (pe_op op_mod (pe_op op_add (pe_op op_add (pe_op op_add (pe_op op_mul (pv 0) pe_int) (pe_op op_mul (pe_op op_mul pe_int (pv 1)) (pv 1))) (pv 1)) pe_int) pe_int))
    (pss_cons (ps_set (i := 2) sc_l_hash.nd rfl (.inl rfl) (pe_op op_mod (pe_op op_add (pe_op op_mul (pv 2) (pv 2)) pe_int) pe_int))
    (pss_one (ps_ret (pe_op op_mod (pe_op op_mul (pv 2) pe_int) pe_int))))), ?_⟩
  refine ⟨_, rfl, _, _, rfl, rfl, .inr (by decide), _, rfl, _, _, rfl, rfl, .inl (by decide), _, rfl, _, _, rfl, rfl, .inr ⟨by omega, by omega⟩, _, _, rfl, rfl, _, rfl, _, _, rfl, rfl, _, _, rfl, rfl, _, _, rfl, rfl, (by show (0 : Int) < 2147483647; decide), ?_⟩
  have b0 := Int.emod_nonneg (x * 1103515245 + 7919 * i * i + i + 1) (show (2147483647 : Int) ≠ 0 by decide)
  have b1 := Int.emod_lt_of_pos (x * 1103515245 + 7919 * i * i + i + 1) (show (0 : Int) < 2147483647 by decide)
  generalize (x * 1103515245 + 7919 * i * i + i + 1) % 2147483647 = u at b0 b1
  refine ⟨_, rfl, _, rfl, _, _, rfl, rfl, .inl ⟨by omega, by omega⟩, _, _, rfl, rfl, _, _, rfl, rfl, (by show (0 : Int) < 2147483629; decide), ?_⟩
  refine ⟨_, rfl, _, _, rfl, rfl, .inr (by decide), _, _, rfl, rfl, (by show (0 : Int) < 2147483587; decide), q _⟩
theorem ok_generator (T : Bl mg) (D : Def K mg "_law_generator" s_l_generator) (C_l_cell : Cal P w K mg base "_law_cell" ["_law_script", "_law_index"] 1 (spCell K)) : Cal P w K mg base "_law_generator" ["_law_script", "_law_index"] 2 (spGen K) := by
  refine D.ok sc_l_generator (fun _ _ _ _ _ _ us hl => match us, hl with | [_, _], _ => rfl) (fun vs H Q E h => ?_) (fun f cdv A outer s H vs Q E hr h => ?_)
  · obtain ⟨a, ns, i, rfl, _⟩ := h
    rfl
  obtain ⟨a, ns, i, rfl, hs, hi, q⟩ := h
  obtain ⟨f_l_cell, fd_l_cell, g_l_cell, k_l_cell, b_l_cell, G_l_cell⟩ := C_l_cell
  refine ⟨_, (pss_cons (ps_set (i := 2) sc_l_generator.nd rfl (.inl rfl) (pe_call G_l_cell (hr.mono (by decide)) (by rfl) g_l_cell k_l_cell b_l_cell .nil pass0 (pa_cons (pv 0) (pa_cons (pv 1) pa_nil))))
    (pss_one (ps_ret (pe_lst (pa_cons (pe_op op_mod (pe_callB (call_max2 rfl) (by rfl) T.max (by decide +kernel) (pa_cons (pe_op op_sub (pv 2) (pe_op op_pow pe_int pe_int)) (pa_cons pe_int pa_nil))) (pe_op op_powX (pe_op op_pow pe_int pe_int) pe_int)) (pa_cons (pe_op op_mod (pv 2) pe_int) (pa_cons (pe_op op_mul pe_int (pv 1)) pa_nil))))))), ?_⟩
  refine ⟨_, rfl, _, rfl, a, ns, _, rfl, hs, by omega, fun z => ?_⟩
  have hpos : (0 : Int) < (10 ^ (60 : Int).toNat) ^ (10 : Int).toNat := by decide +kernel
  refine ⟨_, rfl, _, _, rfl, rfl, ⟨by decide, by decide, by decide⟩, _, _, rfl, rfl, _, _, rfl, _, _, rfl, rfl, ⟨by decide, by decide, by decide⟩, _, _, rfl, rfl, (by decide +kernel), _, _, rfl, rfl, hpos, _, rfl, _, _, rfl, rfl, (by show (0 : Int) < 2147483647; decide), _, rfl, _, _, rfl, rfl, .inl (by decide), by show 3 ≤ sizeLine; decide, fun g ng => ?_⟩
  refine q _ g (Same.upd ng) ng ⟨_, _, _, upd_same, Int.emod_nonneg _ (by omega), by omega, by omega⟩
theorem ok_random (T : Bl mg) (D : Def K mg "_law_random" s_l_random) (C_l_hash : Cal P w K mg base "_law_hash" ["_law_seed", "_law_index"] 1 spHash) : Cal P w K mg base "_law_random" ["_law_generator_here", "_law_bound"] 2 spRand := by
  refine D.ok sc_l_random (fun _ _ _ _ _ _ us hl => match us, hl with | [_, _], _ => rfl) (fun vs H Q E h => ?_) (fun f cdv A outer s H vs Q E hr h => ?_)
  · obtain ⟨g, b, m, rfl, _⟩ := h
    rfl
  obtain ⟨g, b, m, rfl, ⟨x, y, z, hg, hx, hz, hzb⟩, hm, hm2, hb, q⟩ := h
  obtain ⟨f_l_hash, fd_l_hash, g_l_hash, k_l_hash, b_l_hash, G_l_hash⟩ := C_l_hash
  refine ⟨_, (pss_cons (ps_if (pt_cmpR op_gt (pe_ix ix_list (pv 0) pe_int (fun _ _ => rfl)) pe_int (nomark _)) (pss_cons (ps_set (i := 2) sc_l_random.nd rfl (.inl rfl) (pe_op op_mod (pe_ix ix_list (pv 0) pe_int (fun _ _ => rfl)) (pv 1)))
    (pss_cons (ps_asg (pe_op op_fdiv (pe_ix ix_list (pv 0) pe_int (fun _ _ => rfl)) (pv 1)) (pg_sub (pv 0) pe_int set_list))
    (pss_one (ps_ret (pv 2))))) pss_nil)
    (pss_cons (ps_set (i := 2) sc_l_random.nd rfl (.inl rfl) pe_int)
    (pss_cons (ps_for PassesOwn.never rfl (pi_range1 rfl T.range (pa_cons (pe_op op_add pe_int (pe_op op_fdiv (pe_bits (pv 1)) pe_int)) pa_nil)) (pg_name (i := 3) sc_l_random.nd rfl (.inl rfl))
    (pss_cons (ps_asg (pe_op op_add (pe_ix ix_list (pv 0) pe_int (fun _ _ => rfl)) pe_int) (pg_sub (pv 0) pe_int set_list))
    (pss_one (ps_set (i := 2) sc_l_random.nd rfl (.inl rfl) (pe_op op_add (pe_op op_mul (pv 2) pe_int) (pe_call G_l_hash (hr.mono (by decide)) (by rfl) g_l_hash k_l_hash b_l_hash .nil pass0 (pa_cons (pe_ix ix_list (pv 0) pe_int (fun _ _ => rfl)) (pa_cons (pe_ix ix_list (pv 0) pe_int (fun _ _ => rfl)) pa_nil))))))))
    (pss_one (ps_ret (pe_op op_mod (pv 2) (pv 1))))))), ?_⟩
  have hm' : (0 : Int) < (m : Int) := by omega
  refine ⟨_, rfl, _, _, _, V.int x, rfl, rfl, SqL.of hg, atI_nat (j := 0) (v := V.int x) rfl, _, _, rfl, rfl, _, rfl, ite2 (fun h => ?_) (fun h => ?_)⟩
  · refine ⟨_, rfl, _, _, _, V.int x, rfl, rfl, SqL.of hg, atI_nat (j := 0) (v := V.int x) rfl, _, rfl, _, _, rfl, rfl, hm', ?_⟩
    refine ⟨_, rfl, _, _, _, V.int x, rfl, rfl, SqL.of hg, atI_nat (j := 0) (v := V.int x) rfl, _, rfl, _, _, rfl, rfl, ⟨hm', by omega⟩, ?_⟩
    refine ⟨_, rfl, g, _, _, 0, rfl, rfl, hg, rfl, ?_⟩
    refine ⟨_, rfl, ?_⟩
    have e : x % (m : Int) = ((x % (m : Int)).toNat : Int) := (Int.toNat_of_nonneg (Int.emod_nonneg _ (by omega))).symm
    have l := Int.emod_lt_of_pos x hm'
    show Q (.int (x % (m : Int))) _
    rw [e]
    refine q _ _ (fun c o n e => by rw [upd_ne n]; exact e) ⟨x / (m : Int), y, z, upd_same, Int.ediv_nonneg hx (by omega), hz, by omega⟩ (by omega)
  · have eb : (1 : Int) + ((Builtin.Int.intBits (m : Int) : Nat) : Int) / 30 = 1 := by
      rw [bits29 hm' (by omega)]
      rfl
    refine ⟨_, rfl, _, rfl, _, _, rfl, rfl, ⟨by decide, by decide⟩, _, _, rfl, rfl, (1 : Int), congrArg (fun z => [V.int z]) eb, by decide, by decide, ?_⟩
    refine for_range (lo := 0) (n := 1) (fun i σ H1 => ∃ (r : Int) (y3 : Option V) (z1 : Int), σ = [some (.ref g), some (.int (m : Int)), some (.int r), y3] ∧ But g H H1 ∧ H1 g = some (.lst [.int x, .int y, .int z1]) ∧ 0 ≤ z1 ∧ z1 ≤ (b : Int) + (i : Int))
      ⟨0, _, z, rfl, fun _ _ _ e => e, hg, hz, by omega⟩ ?_ ?_
    · rintro i σ H1 hi ⟨r, y3, z1, rfl, bt, hg1, hz1, hz2⟩
      refine ⟨_, rfl, _, _, _, V.int z1, rfl, rfl, SqL.of hg1, atI_nat (j := 2) (v := V.int z1) rfl, _, _, rfl, rfl, _, rfl, g, _, _, 2, rfl, rfl, hg1, rfl, ?_⟩
      have hg2 : (upd H1 g (.lst [.int x, .int y, .int (z1 + 1)])) g = some (.lst [.int x, .int y, .int (z1 + 1)]) := upd_same
      refine ⟨_, rfl, _, _, rfl, rfl, .inr (by decide), _, rfl, _, _, _, V.int y, rfl, rfl, SqL.of hg2, atI_nat (j := 1) (v := V.int y) rfl, _, rfl, _, _, _, V.int (z1 + 1), rfl, rfl, SqL.of hg2, atI_nat (j := 2) (v := V.int (z1 + 1)) rfl, _, _, rfl, by omega, by omega, fun u => ?_⟩
      refine ⟨_, _, rfl, rfl, ?_⟩
      exact ⟨_, _, z1 + 1, rfl, bt.upd _, hg2, by omega, by omega⟩
    · rintro σ H1 ⟨r, y3, z1, rfl, bt, hg1, hz1, hz2⟩
      refine ⟨_, rfl, _, rfl, _, _, rfl, rfl, hm', ?_⟩
      have e : r % (m : Int) = ((r % (m : Int)).toNat : Int) := (Int.toNat_of_nonneg (Int.emod_nonneg _ (by omega))).symm
      have l := Int.emod_lt_of_pos r hm'
      show Q (.int (r % (m : Int))) _
      rw [e]
      exact q _ _ bt ⟨x, y, z1, hg1, hx, hz1, by omega⟩ (by omega)
end
end K5

namespace K5
open PySem PySem.Spec PyProof.Rows L2
theorem cons_erase {α : Type} : ∀ (l : List α) (i : Nat) (y : α), l[i]? = some y → (y :: l.eraseIdx i).Perm l
  | [], i, y, h => by simp at h
  | a :: r, 0, y, h => by
    have e : a = y := Option.some.inj h
    subst e
    exact List.Perm.refl _
  | a :: r, i + 1, y, h => ((List.Perm.swap a y _).trans ((cons_erase r i y h).cons a))
theorem _root_.L2.But.seq {K : PySem.W.Frag} {g a : Addr} {H H' : Hp} {xs : List V} (s : But g H H') (n : a ≠ g) (h : SqL K H a xs) : SqL K H' a xs := by
  rcases h with (h | ⟨o, h⟩) | h
  · exact .inl (.inl (s _ _ n h))
  · exact .inl (.inr ⟨o, s _ _ n h⟩)
  · exact .inr h
theorem _root_.L2.But.at {g p : Addr} {H H' : Hp} (s : But g H H') (n : H p = none) (o : HO) : But g H (upd H' p o) := fun b u ne e => by
  rw [upd_ne (ne_of_none e n)]
  exact s b u ne e
theorem _root_.L2.But.refl (g : Addr) (H : Hp) : But g H H := fun _ _ _ e => e
theorem _root_.L2.But.free {g p : Addr} {H H' : Hp} (s : But g H H') (ne : p ≠ g) (h : H' p = none) : H p = none := by
  cases q : H p with
  | none => rfl
  | some o =>
    rw [s p o ne q] at h
    cases h
theorem GenAt.at {H g b p o} (h : GenAt H g b) (n : p ≠ g) : GenAt (upd H p o) g b := by
  obtain ⟨x, y, z, a, r⟩ := h
  exact ⟨x, y, z, by rw [upd_ne n.symm]; exact a, r⟩
theorem GenAt.ne {H g b p} (h : GenAt H g b) (n : H p = none) : p ≠ g := by
  obtain ⟨x, y, z, a, r⟩ := h
  exact (ne_of_none a n).symm
theorem seq_nat {v n : Nat} (h : v < n) : seqIndex? (v : Int) n = some v := (ixN_seq (ixN_nat h)).1
def spShuf (K : PySem.W.Frag) : Sp := fun vs H Q _ => ∃ (g a : Addr) (b : Nat) (xs : List V), vs = [.ref g, .ref a] ∧ GenAt H g b ∧ SqL K H a xs ∧ a ≠ g ∧ xs.length ≤ 1000 ∧ b < 2 ^ 59 ∧
  ∀ (H' : Hp) (q : Addr) (ys : List V), But g H H' → GenAt H' g (b + xs.length) → H q = none → H' q = some (.lst ys) → ys.Perm xs → Q (.ref q) H'
section
variable {P : Program} {w : World} {K : PySem.W.Frag}
      {mg : Str → Option Value} {base : Heap}
theorem ok_shuffled (T : Bl mg) (D : Def K mg "_law_shuffled" s_l_shuffled) (C_l_random : Cal P w K mg base "_law_random" ["_law_generator_here", "_law_bound"] 2 spRand) : Cal P w K mg base "_law_shuffled" ["_law_generator_here", "_law_items"] 3 (spShuf K) := by
  refine D.ok sc_l_shuffled (fun _ _ _ _ _ _ us hl => match us, hl with | [_, _], _ => rfl) (fun vs H Q E h => ?_) (fun f cdv A outer s H vs Q E hr h => ?_)
  · obtain ⟨g, a, b, xs, rfl, _⟩ := h
    rfl
  obtain ⟨g, a, b, xs, rfl, hg, hs, nag, hxs, hb, q⟩ := h
  obtain ⟨f_l_random, fd_l_random, g_l_random, k_l_random, b_l_random, G_l_random⟩ := C_l_random
  refine ⟨_, (pss_cons (ps_set (i := 2) sc_l_shuffled.nd rfl (.inr rfl) (pe_callTy call_list_of (by rfl) T.list (by decide +kernel) (pa_cons (pv 1) pa_nil)))
    (pss_one (ps_ret (pe_lc (own := [("_law_item", 3)]) (g := gName 3)  (te := (tBM K "list" rPopAt (tVar 2) (tCons (tCall spRand [] E0 (tCons (tVar 0) (tCons (tCB (fun xs H Q => ∃ p ys, xs = [V.ref p] ∧ (SqL K H p ys ∨ SqT K H p ys) ∧ Q (.int ys.length) H) (tCons (tVar 2) tNil)) tNil))) tNil))) rfl sc_l_shuffled.nd (pi_list (pv 1)) (blkOk_by (N := N_l_shuffled) (sc := defScope s_l_shuffled) (own := [("_law_item", 3)]) (by decide +kernel)) (fun _ _ _ _ _ => (pg_name (i := 3) sc_l_shuffled.nd rfl (.inl rfl) (.inr rfl))) (fun _ _ _ _ _ => pts_nil) (fun _ _ _ _ _ => (pe_bm PySem.F.plainAttrs_list PySem.F.slot_list_pop PySem.F.type_list_pop mt_popAt (pv 2) (pa_cons (pe_call G_l_random (hr.mono (by decide)) (by rfl) g_l_random k_l_random b_l_random .nil pass0 (pa_cons (pv 0) (pa_cons (pe_callB call_len_seq (by rfl) T.len PySem.boot_len (pa_cons (pv 2) pa_nil)) pa_nil))) pa_nil))))))), ?_⟩
  refine ⟨_, rfl, a, xs, rfl, .inl hs, fun pp npp => ?_⟩
  have s1 := Same.upd (o := .lst xs) npp
  have h1 : (upd H pp (.lst xs)) pp = some (.lst xs) := upd_same
  have g1 := hg.same s1
  generalize upd H pp (.lst xs) = H1 at s1 h1 g1
  refine ⟨_, rfl, a, rfl, ⟨_, s1.seq hs⟩, fun pd npd => ?_⟩
  have ndp : pd ≠ pp := (ne_of_none h1 npd).symm
  have ndg : pd ≠ g := g1.ne npd
  have npg : pp ≠ g := hg.ne npp
  refine lc_it (walk_list (K := K) (a := a) (xs := xs)) (fun i H2 => ∃ acc pl, But g H H2 ∧ GenAt H2 g (b + i) ∧ H2 pp = some (.lst pl) ∧ H2 pd = some (.lst acc) ∧ (acc ++ pl).Perm xs ∧ acc.length = i)
    ⟨[], xs, s1.but.at (s1.free npd) _, g1.at ndg, by rw [upd_ne ndp.symm]; exact h1, upd_same, List.Perm.refl _, rfl⟩ (fun i H2 _ ⟨_, _, bt, _⟩ => bt.seq nag hs) ?_ ?_
  · rintro i v H2 H3 hi ⟨acc, pl, bt, g2, h2, hd2, pm, hl⟩ ⟨rfl, ex⟩
    have hlen := pm.length_eq
    rw [List.length_append] at hlen
    refine ⟨rfl, lcYes ?_⟩
    refine ⟨_, rfl, .inl ⟨rfl, _, SqL.of h2⟩, _, rfl, _, rfl, pp, pl, rfl, .inl (SqL.of h2), ?_⟩
    refine ⟨g, b + i, pl.length, rfl, g2, by omega, by omega, by omega, fun H4 u bt4 g4 hu => ?_⟩
    have h4 := bt4 _ _ npg h2
    have hd4 := bt4 _ _ ndg hd2
    obtain ⟨y, hy⟩ : ∃ y, pl[u]? = some y := ⟨_, List.getElem?_eq_getElem hu⟩
    refine ⟨pp, pl, _, u, y, rfl, rfl, h4, by omega, by omega, seq_nat hu, hy, ?_⟩
    refine ⟨acc, by rw [upd_ne ndp]; exact hd4, small1000 (by omega), acc ++ [y], pl.eraseIdx u, ?_, ?_, ?_, upd_same, ?_, by rw [List.length_append, hl]; rfl⟩
    · exact (((bt.trans bt4).at npp _).at (s1.free npd) _)
    · exact (g4.at npg).at ndg
    · rw [upd_ne ndp.symm, upd_same]
    · rw [List.append_assoc]
      exact (List.Perm.append_left acc (cons_erase pl u y hy)).trans pm
  · rintro H2 ⟨acc, pl, bt, g2, h2, hd2, pm, hl⟩
    have hlen := pm.length_eq
    rw [List.length_append] at hlen
    have : pl = [] := List.eq_nil_of_length_eq_zero (by omega)
    subst this
    rw [List.append_nil] at pm
    exact q H2 pd acc bt g2 (s1.free npd) hd2 pm
end
end K5

namespace K5
open PySem PySem.Spec PyProof.Rows L2
/-! ### moves and states, as plain mathematics -/
/-- person, start, end -/
abbrev Mv := Nat × Nat × Nat
/-- where each person is; whom each door bars -/
abbrev S2 := List Nat × List Nat
theorem Tree.one_door {n ds} (T : Tree n ds) {d c x y : Nat} (j : Joins ds d x y) (k : Joins ds c x y) : d = c := by
  obtain ⟨side, s1, s2⟩ := T.side
  refine Classical.byContradiction fun h => ?_
  exact side_join s1 j (side_other s2 k h)
/-- the door between two rooms -/
def dix (ds : List (Nat × Nat)) (x y : Nat) : Nat := ((List.range ds.length).find? fun d => decide (ds[d]? = some (x, y) ∨ ds[d]? = some (y, x))).getD 0
theorem joins_lt {ds : List (Nat × Nat)} {d x y : Nat} (j : Joins ds d x y) : d < ds.length := by
  rcases j with j | j
  · exact get_lt j
  · exact get_lt j
theorem dix_is {n ds} (T : Tree n ds) {d x y : Nat} (j : Joins ds d x y) : dix ds x y = d := by
  unfold dix
  cases h : (List.range ds.length).find? fun d => decide (ds[d]? = some (x, y) ∨ ds[d]? = some (y, x)) with
  | none =>
    have := List.find?_eq_none.mp h d (List.mem_range.mpr (joins_lt j))
    exact absurd (decide_eq_true (show ds[d]? = some (x, y) ∨ ds[d]? = some (y, x) from j)) this
  | some c =>
    have k : ds[c]? = some (x, y) ∨ ds[c]? = some (y, x) := by
      have := List.find?_some h
      exact of_decide_eq_true this
    exact T.one_door k j
/-- a move that names a person and a door -/
def VM (ds : List (Nat × Nat)) (P : Nat) (m : Mv) : Prop := m.1 < P ∧ ∃ d, Joins ds d m.2.1 m.2.2
/-- why the move is not possible -/
def why (ds : List (Nat × Nat)) (S : S2) (m : Mv) : Option String :=
  if S.1.getD m.1 0 ≠ m.2.1 then some "away" else if S.2.getD (dix ds m.2.1 m.2.2) 0 = m.1 then some "barred" else none
def nxt (ds : List (Nat × Nat)) (S : S2) (m : Mv) : S2 := (S.1.set m.1 m.2.2, S.2.set (dix ds m.2.1 m.2.2) m.1)
def runs (ds : List (Nat × Nat)) : Nat → S2 → List Mv → (Nat × String) ⊕ S2
  | _, S, [] => .inr S
  | i, S, m :: r => match why ds S m with
    | some w => .inl (i, w)
    | none => runs ds (i + 1) (nxt ds S m) r
structure StOk (n : Nat) (ds : List (Nat × Nat)) (S : S2) : Prop where
  one : 1 ≤ S.1.length
  few : S.1.length ≤ 10
  rooms : ∀ x ∈ S.1, x < n
  doors : S.2.length = ds.length
  bars : ∀ y ∈ S.2, y < S.1.length
theorem StOk.nxt {n ds S m} (T : Tree n ds) (h : StOk n ds S) (v : VM ds S.1.length m) : StOk n ds (nxt ds S m) := by
  obtain ⟨v1, d, j⟩ := v
  obtain ⟨_, l2, _, _⟩ := j.lt T
  have e1 : (K5.nxt ds S m).1.length = S.1.length := List.length_set
  refine ⟨by rw [e1]; exact h.one, by rw [e1]; exact h.few, fun x hx => ?_, by rw [show (K5.nxt ds S m).2.length = S.2.length from List.length_set]; exact h.doors, fun y hy => ?_⟩
  · rcases List.mem_or_eq_of_mem_set hx with q | q
    · exact h.rooms x q
    · rw [q]; exact l2
  · rw [e1]
    rcases List.mem_or_eq_of_mem_set hy with q | q
    · exact h.bars y q
    · rw [q]; exact v1
theorem nxt_len {ds S m} : (nxt ds S m).1.length = S.1.length := List.length_set
theorem runs_drop {ds : List (Nat × Nat)} {S : S2} {ms : List Mv} {k : Nat} {m : Mv} (h : ms[k]? = some m) : runs ds k S (ms.drop k) = match why ds S m with
    | some w => .inl (k, w)
    | none => runs ds (k + 1) (nxt ds S m) (ms.drop (k + 1)) := by
  have hk := get_lt h
  have e : ms.drop k = m :: ms.drop (k + 1) := by
    rw [List.drop_eq_getElem_cons hk]
    rw [List.getElem?_eq_getElem hk] at h
    rw [Option.some.inj h]
  rw [e]
  rfl
/-- the moves that are possible -/
def Can (ds : List (Nat × Nat)) (S : S2) (m : Mv) : Prop := m.1 < S.1.length ∧ S.1[m.1]? = some m.2.1 ∧ ∃ d, Joins ds d m.2.1 m.2.2 ∧ S.2[d]? ≠ some m.1
theorem Can.vm {ds S m} (h : Can ds S m) : VM ds S.1.length m := ⟨h.1, h.2.2.choose, h.2.2.choose_spec.1⟩
theorem getD_of {l : List Nat} {i x : Nat} (h : l[i]? = some x) : l.getD i 0 = x := by
  rw [List.getD_eq_getElem?_getD, h]
  rfl
theorem Can.why {n ds S m} (T : Tree n ds) (h : Can ds S m) (o : StOk n ds S) : why ds S m = none := by
  obtain ⟨h1, h2, d, j, h3⟩ := h
  unfold K5.why
  rw [if_neg (by rw [getD_of h2]; simp), dix_is T j]
  have hd : d < S.2.length := by rw [o.doors]; exact joins_lt j
  obtain ⟨b, hb⟩ : ∃ b, S.2[d]? = some b := get_of rfl hd
  rw [getD_of hb, if_neg]
  intro z
  exact h3 (by rw [hb, z])
def mcode (m : Mv) : Int := TS.code 64 [(m.1 : Int), (m.2.1 : Int), (m.2.2 : Int)]
theorem mcode_is (m : Mv) : mcode m = (m.1 : Int) * 4096 + (m.2.1 : Int) * 64 + (m.2.2 : Int) := by
  unfold mcode
  show (m.1 : Int) * 64 ^ 2 + ((m.2.1 : Int) * 64 ^ 1 + ((m.2.2 : Int) * 64 ^ 0 + 0)) = _
  rw [show (64 : Int) ^ 2 = 4096 by decide, show (64 : Int) ^ 1 = 64 by decide, show (64 : Int) ^ 0 = 1 by decide]
  omega
def Sm (m : Mv) : Prop := m.1 < 64 ∧ m.2.1 < 64 ∧ m.2.2 < 64
theorem mcode_inj {m m' : Mv} (a : Sm m) (b : Sm m') (e : mcode m = mcode m') : m = m' := by
  obtain ⟨x, y, z⟩ := m
  obtain ⟨x', y', z'⟩ := m'
  rw [mcode_is, mcode_is] at e
  unfold Sm at a b
  simp only at e a b
  have h1 : x = x' := by omega
  have h2 : y = y' := by omega
  have h3 : z = z' := by omega
  rw [h1, h2, h3]
/-- the moves with P, each once, ascending -/
structure Canon (l : List Mv) (P : Mv → Prop) : Prop where
  mem : ∀ m, m ∈ l ↔ P m
  sm : ∀ m ∈ l, Sm m
  asc : l.Pairwise fun a b => mcode a < mcode b
theorem asc_unique : ∀ (l l' : List Mv), (l.Pairwise fun a b => mcode a < mcode b) → (l'.Pairwise fun a b => mcode a < mcode b) → (∀ m, m ∈ l ↔ m ∈ l') → (∀ m ∈ l, Sm m) → l = l'
  | [], [], _, _, _, _ => rfl
  | [], b :: r, _, _, h, _ => by
    have := (h b).mpr List.mem_cons_self
    cases this
  | a :: r, [], _, _, h, _ => by
    have := (h a).mp List.mem_cons_self
    cases this
  | a :: r, b :: r', p, p', h, sm => by
    obtain ⟨p1, p2⟩ := List.pairwise_cons.mp p
    obtain ⟨q1, q2⟩ := List.pairwise_cons.mp p'
    have e : a = b := by
      rcases List.mem_cons.mp ((h a).mp List.mem_cons_self) with e | h1
      · exact e
      · rcases List.mem_cons.mp ((h b).mpr List.mem_cons_self) with e | h2
        · exact e.symm
        · have := p1 b h2
          have := q1 a h1
          omega
    subst e
    have : r = r' := by
      refine asc_unique r r' p2 q2 (fun m => ?_) fun m hm => sm m (List.mem_cons_of_mem _ hm)
      constructor
      · intro hm
        rcases List.mem_cons.mp ((h m).mp (List.mem_cons_of_mem _ hm)) with e | h1
        · subst e
          have := p1 m hm
          omega
        · exact h1
      · intro hm
        rcases List.mem_cons.mp ((h m).mpr (List.mem_cons_of_mem _ hm)) with e | h1
        · subst e
          have := q1 m hm
          omega
        · exact h1
    rw [this]
theorem Canon.unique {l l' P} (a : Canon l P) (b : Canon l' P) : l = l' := asc_unique l l' a.asc b.asc (fun m => (a.mem m).trans (b.mem m).symm) a.sm
/-! ### how they stand in the heap -/
def tI (m : Mv) : List V := [.int (m.1 : Int), .int (m.2.1 : Int), .int (m.2.2 : Int)]
def TL (H : Hp) (ts : List Addr) (l : List Mv) : Prop := ts.length = l.length ∧ ∀ (i : Nat) (t : Addr) (m : Mv), ts[i]? = some t → l[i]? = some m → H t = some (.tup (tI m))
def TrisAt (H : Hp) (q : Addr) (l : List Mv) : Prop := ∃ ts : List Addr, H q = some (.lst (ts.map V.ref)) ∧ TL H ts l
def StateAt (K : PySem.W.Frag) (H : Hp) (a : Addr) (S : S2) : Prop := ∃ r b : Addr, SqT K H a [.ref r, .ref b] ∧ SqT K H r (nv S.1) ∧ SqT K H b (nv S.2)
section
variable {K : PySem.W.Frag} {H H' : Hp} {a g q t : Addr} {S : S2} {l : List Mv} {ts : List Addr} {m : Mv}
theorem StateAt.same (h : StateAt K H a S) (s : Same H H') : StateAt K H' a S := by
  obtain ⟨r, b, h1, h2, h3⟩ := h
  exact ⟨r, b, s.tup h1, s.tup h2, s.tup h3⟩
theorem StateAt.but {xs : List V} (h : StateAt K H a S) (hg : H g = some (.lst xs)) (s : But g H H') : StateAt K H' a S := by
  obtain ⟨r, b, h1, h2, h3⟩ := h
  exact ⟨r, b, s.tup hg h1, s.tup hg h2, s.tup hg h3⟩
theorem TL.same (h : TL H ts l) (s : Same H H') : TL H' ts l := ⟨h.1, fun i t m x y => s _ _ (h.2 i t m x y)⟩
theorem TL.but {xs : List V} (h : TL H ts l) (hg : H g = some (.lst xs)) (s : But g H H') : TL H' ts l := ⟨h.1, fun i t m x y => s _ _ (ne_lt hg (h.2 i t m x y)) (h.2 i t m x y)⟩
theorem TL.nil : TL H [] [] := ⟨rfl, fun i t m x => by simp at x⟩
theorem TL.append {ts2 : List Addr} {l2 : List Mv} (h : TL H ts l) (h2 : TL H ts2 l2) : TL H (ts ++ ts2) (l ++ l2) := by
  refine ⟨by rw [List.length_append, List.length_append, h.1, h2.1], fun i t m x y => ?_⟩
  by_cases hi : i < ts.length
  · rw [List.getElem?_append_left hi] at x
    rw [List.getElem?_append_left (by rw [← h.1]; exact hi)] at y
    exact h.2 i t m x y
  · rw [List.getElem?_append_right (by omega)] at x
    rw [List.getElem?_append_right (by rw [← h.1]; omega), ← h.1] at y
    exact h2.2 _ t m x y
theorem TL.one (h : H t = some (.tup (tI m))) : TL H [t] [m] := by
  refine ⟨rfl, fun i t' m' x y => ?_⟩
  match i with
  | 0 => cases x; cases y; exact h
  | i + 1 => simp at x
theorem TL.take (h : TL H ts l) (k : Nat) : TL H (ts.take k) (l.take k) := by
  refine ⟨by rw [List.length_take, List.length_take, h.1], fun i t m x y => ?_⟩
  rw [List.getElem?_take] at x y
  split at x
  · rename_i hi
    rw [if_pos hi] at y
    exact h.2 i t m x y
  · cases x
theorem TL.drop (h : TL H ts l) (k : Nat) : TL H (ts.drop k) (l.drop k) := by
  refine ⟨by rw [List.length_drop, List.length_drop, h.1], fun i t m x y => ?_⟩
  rw [List.getElem?_drop] at x y
  exact h.2 _ t m x y
theorem TrisAt.same (h : TrisAt H q l) (s : Same H H') : TrisAt H' q l := by
  obtain ⟨ts, h1, h2⟩ := h
  exact ⟨ts, s _ _ h1, h2.same s⟩
theorem TL.perm (h : TL H ts l) {ys : List V} (p : ys.Perm (ts.map V.ref)) : ∃ (ts' : List Addr) (l' : List Mv), ys = ts'.map V.ref ∧ l'.Perm l ∧ TL H ts' l' := by
  have e1 : ts.map V.ref = (ts.zip l).map (fun z => V.ref z.1) := by
    have e : (ts.zip l).map (fun z => V.ref z.1) = ((ts.zip l).map Prod.fst).map V.ref := by rw [List.map_map]; rfl
    rw [e, List.map_fst_zip (by rw [h.1]; omega)]
  rw [e1] at p
  obtain ⟨zs, ez, pz⟩ := perm_of_map _ _ _ p
  refine ⟨zs.map Prod.fst, zs.map Prod.snd, by rw [ez, List.map_map]; rfl, ?_, by simp, fun i t e a b => ?_⟩
  · have q := pz.map Prod.snd
    rw [List.map_snd_zip (by rw [h.1]; omega)] at q
    exact q
  · rw [List.getElem?_map] at a b
    cases hz : zs[i]? with
    | none => rw [hz] at a; cases a
    | some z =>
      rw [hz] at a b
      cases a
      cases b
      have hm := pz.mem_iff.mp (List.mem_of_getElem? hz)
      obtain ⟨j, hj⟩ := List.mem_iff_getElem?.mp hm
      rw [List.getElem?_zip_eq_some] at hj
      exact h.2 j _ _ hj.1 hj.2
/-- sorted's answer over such moves -/
theorem sorted_canon {ys : List V} {P : Mv → Prop} (h : TL H ts l) (mem : ∀ m, m ∈ l ↔ P m) (sm : ∀ m ∈ l, Sm m) (nd : l.Nodup) (pm : ys.Perm (ts.map V.ref))
    (asc : ys.Pairwise fun x y => ∀ n m, TupI K H x n → TupI K H y m → TS.code 64 n ≤ TS.code 64 m) : ∃ (ts' : List Addr) (l' : List Mv), ys = ts'.map V.ref ∧ Canon l' P ∧ TL H ts' l' := by
  obtain ⟨ts', l', rfl, pl, tl⟩ := h.perm pm
  have nd' := pl.nodup_iff.mpr nd
  refine ⟨ts', l', rfl, ⟨fun m => pl.mem_iff.trans (mem m), fun m hm => sm m (pl.mem_iff.mp hm), ?_⟩, tl⟩
  rw [List.pairwise_iff_getElem]
  intro i j hi hj hij
  have hi' : i < ts'.length := by rw [tl.1]; exact hi
  have hj' : j < ts'.length := by rw [tl.1]; exact hj
  have a1 := List.pairwise_iff_getElem.mp asc i j (by rw [List.length_map]; exact hi') (by rw [List.length_map]; exact hj') hij
  rw [List.getElem_map, List.getElem_map] at a1
  have t1 := tl.2 i ts'[i] l'[i] (List.getElem?_eq_getElem hi') (List.getElem?_eq_getElem hi)
  have t2 := tl.2 j ts'[j] l'[j] (List.getElem?_eq_getElem hj') (List.getElem?_eq_getElem hj)
  have le : mcode l'[i] ≤ mcode l'[j] := a1 _ _ ⟨_, rfl, SqT.of t1⟩ ⟨_, rfl, SqT.of t2⟩
  have ne : mcode l'[i] ≠ mcode l'[j] := by
    intro e
    have := mcode_inj (sm _ (pl.mem_iff.mp (List.getElem_mem hi))) (sm _ (pl.mem_iff.mp (List.getElem_mem hj))) e
    exact absurd this (List.pairwise_iff_getElem.mp nd' i j hi hj hij)
  omega
theorem tup_of {m : Mv} (h : H t = some (.tup (tI m))) (sm : Sm m) : ∃ ns, TupI K H (.ref t) ns ∧ ns.length = 3 ∧ TS.Bd 64 ns := by
  refine ⟨[(m.1 : Int), (m.2.1 : Int), (m.2.2 : Int)], ⟨t, rfl, SqT.of h⟩, rfl, ?_⟩
  obtain ⟨h1, h2, h3⟩ := sm
  intro x hx
  simp only [List.mem_cons, List.not_mem_nil,
        or_false] at hx
  rcases hx with rfl | rfl | rfl <;> omega
end
/-! ### as data -/
def dM (m : Mv) : PyData := .tuple [.int (m.1 : Int), .int (m.2.1 : Int), .int (m.2.2 : Int)]
def dMs (l : List Mv) : PyData := .list (l.map dM)
def dIs (l : List Nat) : List PyData := (l.map fun x : Nat => (x : Int)).map PyData.int
def dS (S : S2) : PyData := .tuple [.tuple (dIs S.1), .tuple (dIs S.2)]
def dO : (Nat × String) ⊕ S2 → PyData
  | .inl (i, w) => .list [.int (i : Int), .tuple [.str (Str.ofString w)]]
  | .inr S => dS S
theorem dIs_lay : ∀ l : List Nat, PyData.canLayAll0 (dIs l) = true
  | [] => by simp [dIs, PyData.canLayAll0]
  | x :: r => by
    have := dIs_lay r
    unfold dIs at this ⊢
    simp only [List.map_cons, PyData.canLayAll0, PyData.canLay0, this, Bool.and_true]
theorem dIs_depth : ∀ l : List Nat, PyData.depthAll (dIs l) ≤ 1
  | [] => by simp [dIs, PyData.depthAll]
  | x :: r => by
    have := dIs_depth r
    unfold dIs at this ⊢
    simp only [List.map_cons, PyData.depthAll,
          PyData.depth]
    omega
theorem dM_lay (z : Mv) : (dM z).canLay0 = true := by simp [dM, PyData.canLay0, PyData.canLayAll0]
theorem dM_depth (z : Mv) : (dM z).depth ≤ 2 := by simp [dM, PyData.depth, PyData.depthAll]
theorem dMs_lay : ∀ zs : List Mv, PyData.canLayAll0 (zs.map dM) = true
  | [] => by simp [PyData.canLayAll0]
  | z :: zs => by simp [PyData.canLayAll0, dM_lay z, dMs_lay zs]
theorem dMs_depth : ∀ zs : List Mv, PyData.depthAll (zs.map dM) ≤ 2
  | [] => by simp [PyData.depthAll]
  | z :: zs => by
    have h1 := dMs_depth zs
    have h2 := dM_depth z
    simp only [List.map_cons, PyData.depthAll]
    omega
theorem shaped_mk {d : PyData} (h1 : d.canLay0 = true) (h2 : d.depth ≤ 64) : SeqAt.shaped d = true := by
  show (d.canLay0 && decide (d.depth ≤ 64)) = true
  rw [h1, decide_eq_true h2]
  rfl
theorem dMs_shaped (l : List Mv) : SeqAt.shaped (dMs l) = true := by
  have h := dMs_depth l
  refine shaped_mk ?_ ?_
  · simp only [dMs, PyData.canLay0]
    exact dMs_lay l
  · simp only [dMs, PyData.depth]
    omega
theorem dS_shaped (S : S2) : SeqAt.shaped (dS S) = true := by
  have h1 := dIs_depth S.1
  have h2 := dIs_depth S.2
  have h3 := dIs_lay S.1
  have h4 := dIs_lay S.2
  refine shaped_mk ?_ ?_
  · simp only [dS, PyData.canLay0, PyData.canLayAll0, h3, h4, Bool.and_true]
  · simp only [dS, PyData.depth, PyData.depthAll]
    omega
theorem dO_shaped {o : (Nat × String) ⊕ S2} (h : ∀ i w, o = .inl (i, w) → w = "away" ∨ w = "barred") : SeqAt.shaped (dO o) = true := by
  match o, h with
  | .inl (i, w), h =>
    have hw : PyData.strOk (Str.ofString w) = true := by
      rcases h i w rfl with rfl | rfl
      · decide +kernel
      · decide +kernel
    refine shaped_mk ?_ ?_
    · simp only [dO, PyData.canLay0, PyData.canLayAll0, hw, Bool.and_true]
    · simp only [dO, PyData.depth, PyData.depthAll]
      omega
  | .inr S, _ => exact dS_shaped S
theorem why_word {ds S m w} (h : why ds S m = some w) : w = "away" ∨ w = "barred" := by
  unfold why at h
  split at h
  · exact .inl (Option.some.inj h).symm
  · split at h
    · exact .inr (Option.some.inj h).symm
    · cases h
theorem runs_word {ds : List (Nat × Nat)} : ∀ {ms : List Mv} {k : Nat} {S : S2} {i : Nat} {w : String}, runs ds k S ms = .inl (i, w) → w = "away" ∨ w = "barred"
  | [], k, S, i, w, h => by
    rw [runs] at h
    cases h
  | m :: r, k, S, i, w, h => by
    rw [runs] at h
    split at h
    · rename_i w' e
      cases h
      exact why_word e
    · exact runs_word h
theorem d_refl {d : PyData} (h : SeqAt.shaped d = true) : PyData.eqv d d = true := SeqAt.eqv_refl _ (SeqAt.canLay_of_shaped h)
section
variable {K : PySem.W.Frag} {H : Hp} {a q t : Addr} {S : S2} {l : List Mv} {ts : List Addr} {m : Mv}
theorem dp_is : ∀ l : List Nat, DpAll K H (nv l) (dIs l)
  | [] => .nil
  | x :: r => .cons (.int _) (dp_is r)
theorem dp_S (h : StateAt K H a S) : Dp K H (.ref a) (dS S) := by
  obtain ⟨r, b, h1, h2, h3⟩ := h
  exact .tup h1 (.cons (.tup h2 (dp_is _)) (.cons (.tup h3 (dp_is _)) .nil))
theorem dp_M (h : H t = some (.tup (tI m))) : Dp K H (.ref t) (dM m) := .tup (SqT.of h) (.cons (.int _) (.cons (.int _) (.cons (.int _) .nil)))
theorem dp_Ms : ∀ (ts : List Addr) (l : List Mv), TL H ts l → DpAll K H (ts.map V.ref) (l.map dM)
  | [], [], _ => .nil
  | [], m :: l, h => by have := h.1; simp at this
  | t :: ts, [], h => by have := h.1; simp at this
  | t :: ts, m :: l, h => .cons (dp_M (h.2 0 t m rfl rfl)) (dp_Ms ts l ⟨by have := h.1; simpa using this, fun i t' m' x y => h.2 (i + 1) t' m' x y⟩)
theorem dp_Tris (h : TrisAt H q l) : Dp K H (.ref q) (dMs l) := by
  obtain ⟨ts, h1, h2⟩ := h
  exact .lst (SqL.of h1) (dp_Ms ts l h2)
end
end K5

namespace K5
open PySem PySem.Spec PyProof.Rows L2
/-- steps (door, start, end) from a to b -/
def Trl (ds : List (Nat × Nat)) : Nat → List Mv → Nat → Prop
  | a, [], b => a = b
  | a, m :: r, b => m.2.1 = a ∧ Joins ds m.1 m.2.1 m.2.2 ∧ Trl ds m.2.2 r b
theorem Trl.snoc {ds : List (Nat × Nat)} {d y z : Nat} : ∀ {r : List Mv} {a : Nat}, Trl ds a r y → Joins ds d y z → Trl ds a (r ++ [(d, y, z)]) z
  | [], a, h, j => by
    have h : a = y := h
    subst h
    exact ⟨rfl, j, rfl⟩
  | m :: r, a, h, j => ⟨h.1, h.2.1, Trl.snoc h.2.2 j⟩
theorem Trl.walk {ds : List (Nat × Nat)} : ∀ {r : List Mv} {a b : Nat}, Trl ds a r b → Walk ds a (r.map Prod.fst) b
  | [], a, b, h => by
    have h : a = b := h
    subst h
    exact .nil _
  | m :: r, a, b, h => by
    obtain ⟨h1, h2, h3⟩ := h
    rw [h1] at h2
    exact .cons h2 (Trl.walk h3)
theorem nv_some {L : List Nat} {k : Nat} {x : V} (h : (nv L)[k]? = some x) : ∃ v, L[k]? = some v ∧ x = .int (v : Int) := by
  unfold nv at h
  rw [List.getElem?_map] at h
  cases e : L[k]? with
  | none => rw [e] at h; cases h
  | some v => rw [e] at h; exact ⟨v, rfl, (Option.some.inj h).symm⟩
/-- the doors that bar p -/
def barr (S : S2) (p : Nat) : List Nat := (List.range S.2.length).filter fun d => decide (S.2[d]? = some p)
theorem mem_barr {S : S2} {p d : Nat} : d ∈ barr S p ↔ S.2[d]? = some p := by
  unfold barr
  rw [List.mem_filter, List.mem_range]
  constructor
  · rintro ⟨_, h⟩
    exact of_decide_eq_true h
  · intro h
    exact ⟨get_lt h, decide_eq_true h⟩
theorem barr_len {S : S2} {p : Nat} : (barr S p).length ≤ S.2.length := by
  have := List.length_filter_le (fun d => decide (S.2[d]? = some p)) (List.range S.2.length)
  rw [List.length_range] at this
  exact this
/-- the rooms that a search finds; each with its way back -/
structure Reg (n : Nat) (ds : List (Nat × Nat)) (shut : List Nat) (room : Nat) (ks : List (Nat × Option (Nat × Nat))) : Prop where
  df : Dfs n ds shut (ks.map Prod.fst) []
  pt : Ptr ds shut room ks
  rm : room ∈ ks.map Prod.fst
def spStepsT (K : PySem.W.Frag) : Sp := fun vs H Q _ => ∃ (p : Addr) (a n room : Nat) (ds : List (Nat × Nat)) (shut : List Nat) (kvs : List (Key × V)) (ks : List (Nat × Option (Nat × Nat))), vs = [.ref p, .int (a : Int)] ∧ H p = some (.dK kvs) ∧ DicR (WayR H) kvs ks ∧ Ptr ds shut room ks ∧
  Tree n ds ∧ ks.length ≤ 1000 ∧ a ∈ ks.map Prod.fst ∧ ∀ (H' : Hp) (q : Addr) (tr : List Mv), Same H H' → H q = none → TrisAt H' q tr → Trl ds a tr room → (tr.map Prod.fst).Nodup → (∀ m ∈ tr, m.1 ∉ shut) → tr.length ≤ 1000 → Q (.ref q) H'
def spSt (K : PySem.W.Frag) : Sp := fun vs H Q _ => ∃ (a s : Addr) (ds : List (Nat × Nat)) (n : Nat) (S : S2), vs = [.ref a, .ref s] ∧ HouseAt K H a ds ∧ Tree n ds ∧ n ≤ 1000 ∧ StateAt K H s S ∧ StOk n ds S ∧ ∀ H', Same H H' → Q .non H'
def spShape (K : PySem.W.Frag) : Sp := fun vs H Q _ => ∃ (a s : Addr) (ds : List (Nat × Nat)) (n : Nat) (S : S2), vs = [.ref a, .ref s] ∧ HouseAt K H a ds ∧ StateAt K H s S ∧ StOk n ds S ∧ Q (.bl true) H
def spPerson (K : PySem.W.Frag) : Sp := fun vs H Q _ => ∃ (s : Addr) (p n : Nat) (ds : List (Nat × Nat)) (S : S2), vs = [.ref s, .int (p : Int)] ∧ StateAt K H s S ∧ StOk n ds S ∧ p < S.1.length ∧ Q .non H
def spBarring (K : PySem.W.Frag) : Sp := fun vs H Q _ => ∃ (s : Addr) (p n : Nat) (ds : List (Nat × Nat)) (S : S2), vs = [.ref s, .int (p : Int)] ∧ StateAt K H s S ∧ StOk n ds S ∧ n ≤ 1000 ∧ ds.length < n ∧ ∀ (H' : Hp) (q : Addr), Same H H' → H q = none → H' q = some (.lst (nv (barr S p))) → Q (.ref q) H'
def spRegWays (K : PySem.W.Frag) : Sp := fun vs H Q _ => ∃ (a s : Addr) (p n : Nat) (ds : List (Nat × Nat)) (S : S2), vs = [.ref a, .ref s, .int (p : Int)] ∧ HouseAt K H a ds ∧ Tree n ds ∧ n ≤ 1000 ∧ StateAt K H s S ∧ StOk n ds S ∧ p < S.1.length ∧
  ∀ (H' : Hp) (q : Addr) (kvs : List (Key × V)) (ks : List (Nat × Option (Nat × Nat))), Same H H' → H q = none → H' q = some (.dK kvs) → DicR (WayR H') kvs ks → Reg n ds (barr S p) (S.1.getD p 0) ks → Q (.ref q) H'
def spRegion (K : PySem.W.Frag) : Sp := fun vs H Q _ => ∃ (a s : Addr) (p n : Nat) (ds : List (Nat × Nat)) (S : S2), vs = [.ref a, .ref s, .int (p : Int)] ∧ HouseAt K H a ds ∧ Tree n ds ∧ n ≤ 60 ∧ StateAt K H s S ∧ StOk n ds S ∧ p < S.1.length ∧
  ∀ (H' : Hp) (q : Addr) (L : List Nat) (ks : List (Nat × Option (Nat × Nat))), Same H H' → H q = none → H' q = some (.lst (nv L)) → Reg n ds (barr S p) (S.1.getD p 0) ks → L.Perm (ks.map Prod.fst) → L.Pairwise (· ≤ ·) → Q (.ref q) H'
/-- walk_to: None where the room lies outside, else the steps of the way there -/
def spWalkTo (K : PySem.W.Frag) : Sp := fun vs H Q _ => ∃ (a s : Addr) (p x n : Nat) (ds : List (Nat × Nat)) (S : S2), vs = [.ref a, .ref s, .int (p : Int), .int (x : Int)] ∧ HouseAt K H a ds ∧ Tree n ds ∧ n ≤ 1000 ∧ StateAt K H s S ∧ StOk n ds S ∧ p < S.1.length ∧ x < n ∧
  (∀ (H' : Hp) (ks : List (Nat × Option (Nat × Nat))), Same H H' → Reg n ds (barr S p) x ks → S.1.getD p 0 ∉ ks.map Prod.fst → Q .non H') ∧
  (∀ (H' : Hp) (q : Addr) (tr : List Mv), Same H H' → H q = none → TrisAt H' q (tr.map fun m => (p, m.2.1, m.2.2)) → Trl ds (S.1.getD p 0) tr x → (tr.map Prod.fst).Nodup → (∀ m ∈ tr, m.1 ∉ barr S p) → tr.length ≤ 1000 → Q (.ref q) H')
section
variable {P : Program} {w : World} {K : PySem.W.Frag}
      {mg : Str → Option Value} {base : Heap}
theorem ok_has_state_shape (T : Bl mg) (D : Def K mg "has_state_shape" s_has_state_shape) : Cal P w K mg base "has_state_shape" ["house", "value"] 1 (spShape K) := by
  refine D.ok sc_has_state_shape (fun _ _ _ _ _ _ us hl => match us, hl with | [_, _], _ => rfl) (fun vs H Q E h => ?_) (fun f cdv A outer s H vs Q E hr h => ?_)
  · obtain ⟨a, s, ds, n, S, rfl, _⟩ := h
    rfl
  obtain ⟨a, s, ds, n, S, rfl, ⟨rs, hrs, hlen, hds⟩, ⟨r, b, h1, h2, h3⟩, ok, q⟩ := h
  refine ⟨_, (pss_cons (ps_if (PW.pt (pw_or (pt_not (pt_val (pe_callB call_isi (by rfl) T.isinstance (by decide +kernel) (pa_cons (pv 1) (pa_cons (pe_bltn (v := .ty "tuple") (u := .type "tuple") (by rfl) T.tuple (by decide +kernel) rfl) pa_nil))))) (pw_or1 (pt_cmpR op_ne (pe_callB call_len_seq (by rfl) T.len PySem.boot_len (pa_cons (pv 1) pa_nil)) pe_int (nomark _))))) (pss_one (ps_ret pe_bl)) pss_nil)
    (pss_cons (ps_asg (pv 1) (pg_tup (n := 2) rfl (pgs_cons (pg_name (i := 2) sc_has_state_shape.nd rfl (.inl rfl)) (pgs_cons (pg_name (i := 3) sc_has_state_shape.nd rfl (.inl rfl)) pgs_nil))))
    (pss_cons (ps_if (PW.pt (pw_or (pt_not (pt_val (pe_callB call_isi (by rfl) T.isinstance (by decide +kernel) (pa_cons (pv 2) (pa_cons (pe_bltn (v := .ty "tuple") (u := .type "tuple") (by rfl) T.tuple (by decide +kernel) rfl) pa_nil))))) (pw_or1 (pt_not (pt_val (pe_callB call_isi (by rfl) T.isinstance (by decide +kernel) (pa_cons (pv 3) (pa_cons (pe_bltn (v := .ty "tuple") (u := .type "tuple") (by rfl) T.tuple (by decide +kernel) rfl) pa_nil)))))))) (pss_one (ps_ret pe_bl)) pss_nil)
    (pss_one (ps_ret (pe_and (pe_cmpR op_ge (pe_callB call_len_seq (by rfl) T.len PySem.boot_len (pa_cons (pv 2) pa_nil)) pe_int (nomark _)) (pe_one (pe_cmpR op_eq (pe_callB call_len_seq (by rfl) T.len PySem.boot_len (pa_cons (pv 3) pa_nil)) (pe_callB call_len_seq (by rfl) T.len PySem.boot_len (pa_cons (pv 0) pa_nil)) (nomark _))))))))), ?_⟩
  refine ⟨_, rfl, _, _, _, _, _, rfl, .ty _, ty_tup h1, kit_ty (r := true) (by decide +kernel), _, rfl, iteF ?_⟩
  refine ⟨_, rfl, _, _, rfl, .inr h1, rfl, _, rfl, iteF ?_⟩
  refine ⟨_, rfl, _, _, rfl, h1, rfl, _, _, rfl, _, _, rfl, rfl, ?_⟩
  refine ⟨_, rfl, _, _, _, _, _, rfl, .ty _, ty_tup h2, kit_ty (r := true) (by decide +kernel), _, rfl, iteF ?_⟩
  refine ⟨_, rfl, _, _, _, _, _, rfl, .ty _, ty_tup h3, kit_ty (r := true) (by decide +kernel), _, rfl, iteF ?_⟩
  have o1 := ok.one
  refine ⟨_, rfl, _, _, rfl, .inr h2, _, _, rfl, rfl, _, rfl, ?_⟩
  rw [decide_eq_true (show (1 : Int) ≤ ((nv S.1).length : Nat) by rw [nv_len]; omega)]
  refine iteT ⟨_, rfl, _, _, rfl, .inr h3, _, rfl, _, _, rfl, .inr hrs, rfl, ?_⟩
  rw [decide_eq_true (show V.int ((nv S.2).length : Nat) = V.int ((rs.map V.ref).length : Nat) by rw [nv_len, List.length_map, hlen, ok.doors])]
  exact q
theorem ok_check_state (T : Bl mg) (D : Def K mg "check_state" s_check_state) (C_need_house : Cal P w K mg base "need_house" ["house"] 5 (spRing K)) (C_has_state_shape : Cal P w K mg base "has_state_shape" ["house", "value"] 1 (spShape K))
    (C_is_index : Cal P w K mg base "is_index" ["value", "count"] 2 spIndex) : Cal P w K mg base "check_state" ["house", "value"] 6 (spSt K) := by
  refine D.ok sc_check_state (fun _ _ _ _ _ _ us hl => match us, hl with | [_, _], _ => rfl) (fun vs H Q E h => ?_) (fun f cdv A outer s H vs Q E hr h => ?_)
  · obtain ⟨a, s, ds, n, S, rfl, _⟩ := h
    rfl
  obtain ⟨a, s, ds, n, S, rfl, hH, tree, hn, st, ok, q⟩ := h
  obtain ⟨rs, hrs, hlen, hds⟩ := id hH
  obtain ⟨r, b, h1, h2, h3⟩ := id st
  have hdn := tree.len
  obtain ⟨f_need_house, fd_need_house, g_need_house, k_need_house, b_need_house, G_need_house⟩ := C_need_house
  obtain ⟨f_has_state_shape, fd_has_state_shape, g_has_state_shape, k_has_state_shape, b_has_state_shape, G_has_state_shape⟩ := C_has_state_shape
  obtain ⟨f_is_index, fd_is_index, g_is_index, k_is_index, b_is_index, G_is_index⟩ := C_is_index
  refine ⟨_, (pss_cons (ps_expr (pe_call G_need_house (hr.mono (by decide)) (by rfl) g_need_house k_need_house b_need_house .nil pass0 (pa_cons (pv 0) pa_nil)))
    (pss_cons (ps_if (pt_not (pt_val (pe_call G_has_state_shape (hr.mono (by decide)) (by rfl) g_has_state_shape k_has_state_shape b_has_state_shape .nil pass0 (pa_cons (pv 0) (pa_cons (pv 1) pa_nil))))) (pss_one (ps_ret (pe_tup (pa_cons pe_str pa_nil)))) pss_nil)
    (pss_cons (ps_asg (pv 1) (pg_tup (n := 2) rfl (pgs_cons (pg_name (i := 2) sc_check_state.nd rfl (.inl rfl)) (pgs_cons (pg_name (i := 3) sc_check_state.nd rfl (.inl rfl)) pgs_nil))))
    (pss_cons (ps_for PassesOwn.never rfl (pi_enumT (by rfl) T.enumerate (pa_cons (pv 2) pa_nil)) (pg_tup (n := 2) rfl (pgs_cons (pg_name (i := 4) sc_check_state.nd rfl (.inl rfl)) (pgs_cons (pg_name (i := 5) sc_check_state.nd rfl (.inl rfl)) pgs_nil)))
    (pss_one (ps_if (pt_not (pt_val (pe_call G_is_index (hr.mono (by decide)) (by rfl) g_is_index k_is_index b_is_index .nil pass0 (pa_cons (pv 5) (pa_cons (pe_op op_add (pe_callB call_len_seq (by rfl) T.len PySem.boot_len (pa_cons (pv 0) pa_nil)) pe_int) pa_nil))))) (pss_one (ps_ret (pe_tup (pa_cons pe_str (pa_cons (pv 4) pa_nil))))) pss_nil)))
    (pss_cons (ps_for PassesOwn.never rfl (pi_enumT (by rfl) T.enumerate (pa_cons (pv 3) pa_nil)) (pg_tup (n := 2) rfl (pgs_cons (pg_name (i := 6) sc_check_state.nd rfl (.inl rfl)) (pgs_cons (pg_name (i := 4) sc_check_state.nd rfl (.inl rfl)) pgs_nil)))
    (pss_one (ps_if (pt_not (pt_val (pe_call G_is_index (hr.mono (by decide)) (by rfl) g_is_index k_is_index b_is_index .nil pass0 (pa_cons (pv 4) (pa_cons (pe_callB call_len_seq (by rfl) T.len PySem.boot_len (pa_cons (pv 2) pa_nil)) pa_nil))))) (pss_one (ps_ret (pe_tup (pa_cons pe_str (pa_cons (pv 6) pa_nil))))) pss_nil)))
    (pss_one (ps_ret pe_non))))))), ?_⟩
  refine ⟨_, rfl, a, ds, n, rfl, hH, tree, hn, fun H1 s1 => ?_⟩
  refine ⟨_, rfl, _, rfl, a, s, ds, n, S, rfl, hH.same s1, st.same s1, ok, _, rfl, iteF ?_⟩
  refine ⟨_, rfl, _, _, rfl, s1.tup h1, rfl, _, _, rfl, _, _, rfl, rfl, ?_⟩
  refine ⟨_, rfl, r, _, rfl, s1.tup h2, ?_⟩
  refine for_it (walk_enumT (K := K) (a := r) (xs := nv S.1)) (fun k σ H2 => ∃ y4 y5 y6, σ = [some (.ref a), some (.ref s), some (.ref r), some (.ref b), y4, y5, y6] ∧ Same H H2)
    ⟨_, _, _, rfl, s1⟩ (fun i σ H2 _ ⟨_, _, _, _, sm⟩ => sm.tup h2) ?_ ?_
  · rintro k x σ H2 H3 hk ⟨y4, y5, y6, rfl, sm⟩ ⟨t, x1, x2, rfl, nt, rfl, ex1, ex2⟩
    cases ex1
    obtain ⟨v, hv, rfl⟩ := nv_some ex2
    have sm3 := sm.trans (Same.upd (o := .tup [.int (k : Nat), .int (v : Int)]) nt)
    have lv := ok.rooms v (List.mem_of_getElem? hv)
    refine ⟨t, _, rfl, SqT.of upd_same, rfl, _, _, rfl, _, _, rfl, rfl, ?_⟩
    refine ⟨_, rfl, _, rfl, _, _, rfl, .inr (sm3.tup hrs), _, _, rfl, rfl, _, _, rfl, _, rfl, ?_⟩
    rw [decide_eq_true (by rw [List.length_map, hlen]; omega)]
    exact iteF ⟨_, _, _, rfl, sm3⟩
  · rintro σ H2 ⟨y4, y5, y6, rfl, sm⟩
    refine ⟨_, rfl, b, _, rfl, sm.tup h3, ?_⟩
    refine for_it (walk_enumT (K := K) (a := b) (xs := nv S.2)) (fun k σ H2 => ∃ y4 y5 y6, σ = [some (.ref a), some (.ref s), some (.ref r), some (.ref b), y4, y5, y6] ∧ Same H H2)
      ⟨_, _, _, rfl, sm⟩ (fun i σ H2 _ ⟨_, _, _, _, sm⟩ => sm.tup h3) ?_ ?_
    · rintro k x σ H2 H3 hk ⟨y4, y5, y6, rfl, sm⟩ ⟨t, x1, x2, rfl, nt, rfl, ex1, ex2⟩
      cases ex1
      obtain ⟨v, hv, rfl⟩ := nv_some ex2
      have sm3 := sm.trans (Same.upd (o := .tup [.int (k : Nat), .int (v : Int)]) nt)
      have lv := ok.bars v (List.mem_of_getElem? hv)
      refine ⟨t, _, rfl, SqT.of upd_same, rfl, _, _, rfl, _, _, rfl, rfl, ?_⟩
      refine ⟨_, rfl, _, rfl, _, _, rfl, .inr (sm3.tup h2), _, _, rfl, _, rfl, ?_⟩
      rw [decide_eq_true (by rw [nv_len]; omega)]
      exact iteF ⟨_, _, _, rfl, sm3⟩
    · rintro σ H2 ⟨y4, y5, y6, rfl, sm⟩
      exact q H2 sm
theorem ok_need_state (T : Bl mg) (D : Def K mg "need_state" s_need_state) (C_check_state : Cal P w K mg base "check_state" ["house", "value"] 6 (spSt K)) : Cal P w K mg base "need_state" ["house", "state"] 7 (spSt K) := by
  refine D.ok sc_need_state (fun _ _ _ _ _ _ us hl => match us, hl with | [_, _], _ => rfl) (fun vs H Q E h => ?_) (fun f cdv A outer s H vs Q E hr h => ?_)
  · obtain ⟨a, s, ds, n, S, rfl, _⟩ := h
    rfl
  obtain ⟨a, s, ds, n, S, rfl, hH, tree, hn, st, ok, q⟩ := h
  obtain ⟨f_check_state, fd_check_state, g_check_state, k_check_state, b_check_state, G_check_state⟩ := C_check_state
  refine ⟨_, (pss_cons (ps_set (i := 2) sc_need_state.nd rfl (.inl rfl) (pe_call G_check_state (hr.mono (by decide)) (by rfl) g_check_state k_check_state b_check_state .nil pass0 (pa_cons (pv 0) (pa_cons (pv 1) pa_nil))))
    (pss_one (ps_if (pt_cmpR op_notN (pv 2) pe_non (nomark _)) pss_never pss_nil))), ?_⟩
  refine ⟨_, rfl, _, rfl, a, s, ds, n, S, rfl, hH, tree, hn, st, ok, fun H2 sm2 => ⟨_, rfl, rfl, _, rfl, iteF ?_⟩⟩
  exact q H2 sm2
end
end K5

namespace K5
open PySem PySem.Spec PyProof.Rows L2
theorem PairsAt.but {g q : Addr} {H H' : Hp} {l} (h : PairsAt H q l) (hg : ∃ xs, H g = some (.lst xs)) (ne : q ≠ g) (s : But g H H') : PairsAt H' q l := by
  obtain ⟨xs, hx⟩ := hg
  exact h.aside hx ne s
/-- a rearranged list of the same pairs -/
theorem PairsAt.perm {H : Hp} {l : List (Nat × Nat)} {ts : List Addr} {ys : List V} (h2 : ts.length = l.length) (h3 : ∀ (i : Nat) (t : Addr) (e : Nat × Nat), ts[i]? = some t → l[i]? = some e → H t = some (.tup [.int e.1, .int e.2]))
    (p : ys.Perm (ts.map V.ref)) : ∃ (ts' : List Addr) (l' : List (Nat × Nat)), ys = ts'.map V.ref ∧ l'.Perm l ∧ ts'.length = l'.length ∧ ∀ (i : Nat) (t : Addr) (e : Nat × Nat), ts'[i]? = some t → l'[i]? = some e → H t = some (.tup [.int e.1, .int e.2]) := by
  have e1 : ts.map V.ref = (ts.zip l).map (fun z => V.ref z.1) := by
    have e : (ts.zip l).map (fun z => V.ref z.1) = ((ts.zip l).map Prod.fst).map V.ref := by rw [List.map_map]; rfl
    rw [e, List.map_fst_zip (by omega)]
  rw [e1] at p
  obtain ⟨zs, ez, pz⟩ := perm_of_map _ _ _ p
  refine ⟨zs.map Prod.fst, zs.map Prod.snd, by rw [ez, List.map_map]; rfl, ?_, by simp, fun i t e a b => ?_⟩
  · have q := pz.map Prod.snd
    rw [List.map_snd_zip (by omega)] at q
    exact q
  · rw [List.getElem?_map] at a b
    cases hz : zs[i]? with
    | none => rw [hz] at a; cases a
    | some z =>
      rw [hz] at a b
      cases a
      cases b
      have hm := pz.mem_iff.mp (List.mem_of_getElem? hz)
      obtain ⟨j, hj⟩ := List.mem_iff_getElem?.mp hm
      rw [List.getElem?_zip_eq_some] at hj
      exact h3 j _ _ hj.1 hj.2
theorem Flip.perm {fs ds : List (Nat × Nat)} (p : fs.Perm ds) : ∀ {es : List (Nat × Nat)}, Flip es fs → ∃ es', es'.Perm es ∧ Flip es' ds := by
  induction p with
  | nil => intro es h; exact ⟨es, List.Perm.refl _, h⟩
  | cons x _ ih =>
    intro es h
    cases h with
    | same h =>
      obtain ⟨e', p', f'⟩ := ih h
      exact ⟨_ :: e', p'.cons _, .same f'⟩
    | turn h =>
      obtain ⟨e', p', f'⟩ := ih h
      exact ⟨_ :: e', p'.cons _, .turn f'⟩
  | swap x y l =>
    intro es h
    cases h with
    | same h =>
      cases h with
      | same h => exact ⟨_, List.Perm.swap _ _ _, .same (.same h)⟩
      | turn h => exact ⟨_, List.Perm.swap _ _ _, .turn (.same h)⟩
    | turn h =>
      cases h with
      | same h => exact ⟨_, List.Perm.swap _ _ _, .same (.turn h)⟩
      | turn h => exact ⟨_, List.Perm.swap _ _ _, .turn (.turn h)⟩
  | trans _ _ ih1 ih2 =>
    intro es h
    obtain ⟨e1, p1, f1⟩ := ih1 h
    obtain ⟨e2, p2, f2⟩ := ih2 f1
    exact ⟨e2, p2.trans p1, f2⟩
def spHouse (K : PySem.W.Frag) : Sp := fun vs H Q _ => ∃ (g : Addr) (b n : Nat), vs = [.ref g, .int (n : Int)] ∧ GenAt H g b ∧ 0 < n ∧ n ≤ 60 ∧ b < 2 ^ 50 ∧
  ∀ (H' : Hp) (a : Addr) (ds : List (Nat × Nat)), But g H H' → GenAt H' g (b + 1000) → a ≠ g → HouseAt K H' a ds → Tree n ds → Q (.ref a) H'
section
variable {P : Program} {w : World} {K : PySem.W.Frag}
      {mg : Str → Option Value} {base : Heap}
theorem ok_random_house (T : Bl mg) (D : Def K mg "_law_random_house" s_l_random_house) (C_l_random : Cal P w K mg base "_law_random" ["_law_generator_here", "_law_bound"] 2 spRand)
    (C_l_shuffled : Cal P w K mg base "_law_shuffled" ["_law_generator_here", "_law_items"] 3 (spShuf K)) : Cal P w K mg base "_law_random_house" ["_law_generator_here", "_law_size"] 4 (spHouse K) := by
  refine D.ok sc_l_random_house (fun _ _ _ _ _ _ us hl => match us, hl with | [_, _], _ => rfl) (fun vs H Q E h => ?_) (fun f cdv A outer s H vs Q E hr h => ?_)
  · obtain ⟨g, b, n, rfl, _⟩ := h
    rfl
  obtain ⟨g, b, n, rfl, hg, hn0, hn1, hb, q⟩ := h
  obtain ⟨f_l_shuffled, fd_l_shuffled, g_l_shuffled, k_l_shuffled, b_l_shuffled, G_l_shuffled⟩ := C_l_shuffled
  obtain ⟨f_l_random, fd_l_random, g_l_random, k_l_random, b_l_random, G_l_random⟩ := C_l_random
  refine ⟨_, (pss_cons (ps_set (i := 2) sc_l_random_house.nd rfl (.inl rfl) (pe_call G_l_shuffled (hr.mono (by decide)) (by rfl) g_l_shuffled k_l_shuffled b_l_shuffled .nil pass0 (pa_cons (pv 0) (pa_cons (pe_listRg rfl (by rfl) T.list (prg_1 (by rfl) T.range (pv 1))) pa_nil))))
    (pss_cons (ps_set (i := 3) sc_l_random_house.nd rfl (.inl rfl) (pe_call G_l_random (hr.mono (by decide)) (by rfl) g_l_random k_l_random b_l_random .nil pass0 (pa_cons (pv 0) (pa_cons pe_int pa_nil))))
    (pss_cons (ps_set (i := 4) sc_l_random_house.nd rfl (.inl rfl) (pe_lst pa_nil))
    (pss_cons (ps_for PassesOwn.never rfl (pi_range2 rfl T.range (pa_cons pe_int (pa_cons (pv 1) pa_nil))) (pg_name (i := 5) sc_l_random_house.nd rfl (.inl rfl))
    (pss_cons (ps_set (i := 6) sc_l_random_house.nd rfl (.inl rfl) (pe_ix ix_list (pe_lst (pa_cons (pe_op op_sub (pv 5) pe_int) (pa_cons pe_int (pa_cons (pe_call G_l_random (hr.mono (by decide)) (by rfl) g_l_random k_l_random b_l_random .nil pass0 (pa_cons (pv 0) (pa_cons (pv 5) pa_nil))) (pa_cons (pe_call G_l_random (hr.mono (by decide)) (by rfl) g_l_random k_l_random b_l_random .nil pass0 (pa_cons (pv 0) (pa_cons (pv 5) pa_nil))) pa_nil))))) (pv 3) (fun _ _ => rfl)))
    (pss_cons (ps_set (i := 7) sc_l_random_house.nd rfl (.inl rfl) (pe_tup (pa_cons (pe_ix ix_list (pv 2) (pv 6) (fun _ _ => rfl)) (pa_cons (pe_ix ix_list (pv 2) (pv 5) (fun _ _ => rfl)) pa_nil))))
    (pss_one (ps_expr (pe_bm PySem.F.plainAttrs_list PySem.F.slot_list_append PySem.F.type_list_append mt_append (pv 4) (pa_cons (pe_stp (pv 7) (pe_op op_sub pe_int (pe_op op_mul pe_int (pe_call G_l_random (hr.mono (by decide)) (by rfl) g_l_random k_l_random b_l_random .nil pass0 (pa_cons (pv 0) (pa_cons pe_int pa_nil)))))) pa_nil)))))))
    (pss_one (ps_ret (pe_callTy call_tuple_of (by rfl) T.tuple (by decide +kernel) (pa_cons (pe_call G_l_shuffled (hr.mono (by decide)) (by rfl) g_l_shuffled k_l_shuffled b_l_shuffled .nil pass0 (pa_cons (pv 0) (pa_cons (pv 4) pa_nil))) pa_nil)))))))), ?_⟩
  have en : rgV 0 (n : Int) = nv (List.range n) := rgV_nat n
  refine ⟨_, rfl, _, rfl, _, rfl, .of_le (Int.le_refl _) (by omega) (by omega) (by omega), fun pn npn => ?_⟩
  rw [en]
  have npng : pn ≠ g := hg.ne npn
  have s1 := Same.upd (o := .lst (nv (List.range n))) npn
  have g1 := hg.same s1
  have hn1' : (upd H pn (.lst (nv (List.range n)))) pn = some (.lst (nv (List.range n))) := upd_same
  generalize upd H pn (.lst (nv (List.range n))) = H1 at s1 g1 hn1'
  refine ⟨g, pn, b, nv (List.range n), rfl, g1, SqL.of hn1', npng, by rw [nv_len, List.length_range]; omega, by omega, fun H2 ql ys bt2 g2 nql hql pm => ?_⟩
  rw [nv_len, List.length_range] at g2
  obtain ⟨L, rfl, pL⟩ := perm_of_map _ _ _ pm
  have hql : H2 ql = some (.lst (nv L)) := hql
  have hLl : L.length = n := by rw [pL.length_eq, List.length_range]
  have nqlg : ql ≠ g := fun z => by
    subst z
    obtain ⟨xs, hxs⟩ := g1.lst
    rw [hxs] at nql
    cases nql
  refine ⟨_, rfl, g, b + n, 4, rfl, g2, by decide, by decide, by omega, fun H3 kind bt3 g3 hk => ?_⟩
  refine ⟨Nat.zero_le _, fun pd npd => ?_⟩
  have hpdg := g3.ne npd
  have bt03 : But g H H3 := (s1.but.trans bt2).trans bt3
  have npd0 : H pd = none := bt03.free hpdg npd
  have nlp : ql ≠ pd := ne_of_none (bt3 _ _ nqlg hql) npd
  refine ⟨_, rfl, _, _, rfl, ⟨by omega, by omega, by omega, by omega⟩, ?_⟩
  refine for_it (walk_range (lo := 1) (n := ((n : Int) - 1).toNat)) (fun i σ H4 => ∃ es fs y5 y6 y7, σ = [some (.ref g), some (.int (n : Int)), some (.ref ql), some (.int (kind : Int)), some (.ref pd), y5, y6, y7] ∧
    But g H H4 ∧ GenAt H4 g (b + n + 1 + 3 * i) ∧ H4 ql = some (.lst (nv L)) ∧ PairsAt H4 pd fs ∧ Tr0 (1 + i) es ∧ Flip (es.map fun e => (L.getD e.1 0, L.getD e.2 0)) fs)
    ⟨[], [], _, _, _, rfl, bt03.at npd0 _, g3.same (Same.upd npd), by rw [upd_ne nlp]; exact bt3 _ _ nqlg hql, ⟨[], upd_same, rfl, fun i t e h => by simp at h⟩, Tr0.one, .nil⟩ (fun _ _ _ _ _ => trivial) ?_ ?_
  · rintro i x σ H4 H5 hi ⟨es, fs, y5, y6, y7, rfl, bt4, g4, hl4, ⟨ts, f1, f2, f3⟩, tr, fl⟩ ⟨rfl, hx⟩
    have hel := tr.len
    have flen : fs.length = i := by
      rw [← fl.len, List.length_map]
      omega
    have hi' : 1 + i < n := by omega
    have er : (1 : Int) + (i : Int) = ((1 + i : Nat) : Int) := by omega
    have hx' : x = V.int ((1 + i : Nat) : Int) := hx.trans (congrArg V.int er)
    subst hx'
    refine ⟨_, rfl, _, _, rfl, rfl, _, rfl, _, rfl, g, b + n + 1 + 3 * i, 1 + i, rfl, g4, by omega, by omega, by omega, fun H6 u1 bt6 g6 hu1 => ?_⟩
    refine ⟨_, rfl, _, rfl, g, _, 1 + i, rfl, g6, by omega, by omega, by omega, fun H7 u2 bt7 g7 hu2 => ⟨by show 4 ≤ sizeLine; decide, fun pl npl => ?_⟩⟩
    obtain ⟨o, ho, hlt⟩ : ∃ o : Nat, ([V.int (((1 + i : Nat) : Int) - 1), V.int 0, V.int (u1 : Int), V.int (u2 : Int)] : List V)[kind]? = some (.int (o : Int)) ∧ o < 1 + i := by
      match kind, hk with
      | 0, _ => exact ⟨i, congrArg (fun z => some (V.int z)) (by omega), by omega⟩
      | 1, _ => exact ⟨0, rfl, by omega⟩
      | 2, _ => exact ⟨u1, rfl, hu1⟩
      | 3, _ => exact ⟨u2, rfl, hu2⟩
    refine ⟨_, rfl, pl, _, _, _, rfl, rfl, SqL.of upd_same, atI_nat ho, ?_⟩
    have nplg : pl ≠ g := g7.ne npl
    have gl4 := g4.lst.choose_spec
    have gl6 := g6.lst.choose_spec
    have bt47 := bt6.trans bt7
    have hl7 := bt47 _ _ nqlg hl4
    have f17 := bt47 _ _ hpdg f1
    have f37 := fun i t e a b => bt47 _ _ (ne_lt gl4 (f3 i t e a b)) (f3 i t e a b)
    have s8 := Same.upd (o := .lst [V.int (((1 + i : Nat) : Int) - 1), V.int 0, V.int (u1 : Int), V.int (u2 : Int)]) npl
    have hl8 := s8 _ _ hl7
    have f18 := s8 _ _ f17
    have f38 := fun i t e a b => s8 _ _ (f37 i t e a b)
    have g8 := g7.same s8
    have bt8 := (bt4.trans bt47).trans s8.but
    generalize upd H7 pl (.lst [V.int (((1 + i : Nat) : Int) - 1), V.int 0, V.int (u1 : Int), V.int (u2 : Int)]) = H8 at s8 hl8 f18 f38 g8 bt8
    have a1 : L[o]? = some (L.getD o 0) := by
      rw [List.getD_eq_getElem?_getD, List.getElem?_eq_getElem (by omega)]
      rfl
    have a2 : L[1 + i]? = some (L.getD (1 + i) 0) := by
      rw [List.getD_eq_getElem?_getD, List.getElem?_eq_getElem (by omega)]
      rfl
    refine ⟨_, rfl, _, rfl, ql, _, _, _, rfl, rfl, SqL.of hl8, nv_at a1, _, rfl, _, rfl, ql, _, _, _, rfl, rfl, SqL.of hl8, nv_at a2, by show 2 ≤ sizeLine; decide, fun te nte => ?_⟩
    generalize hd1 : L.getD o 0 = d1 at *
    generalize hd2 : L.getD (1 + i) 0 = d2 at *
    have nteg : te ≠ g := g8.ne nte
    have sA := Same.upd (o := .tup [.int (d1 : Int), .int (d2 : Int)]) nte
    have hteA : (upd H8 te (.tup [.int (d1 : Int), .int (d2 : Int)])) te = some (.tup [.int (d1 : Int), .int (d2 : Int)]) := upd_same
    have gA := g8.same sA
    have hlA := sA _ _ hl8
    have fA := sA _ _ f18
    have f3A := fun i t e a b => sA _ _ (f38 i t e a b)
    have btA := bt8.trans sA.but
    generalize upd H8 te (.tup [.int (d1 : Int), .int (d2 : Int)]) = HA at sA hteA gA hlA fA f3A btA
    refine ⟨_, rfl, .inl ⟨rfl, _, SqL.of fA⟩, _, rfl, _, rfl, g, b + n + 1 + 3 * i + 1 + 1, 2, rfl, gA, by decide, by decide, by omega, fun HB u btB gB hu => ?_⟩
    have gAl := gA.lst.choose_spec
    have hteB := btB _ _ nteg hteA
    have hlB := btB _ _ nqlg hlA
    have fB := btB _ _ hpdg fA
    have f3B := fun i t e x y => btB _ _ (ne_lt gAl (f3A i t e x y)) (f3A i t e x y)
    have btHB := btA.trans btB
    have tr' := tr.grow o hlt
    have em : ((es ++ [(o, 1 + i)]).map fun e => (L.getD e.1 0, L.getD e.2 0)) = (es.map fun e => (L.getD e.1 0, L.getD e.2 0)) ++ [(d1, d2)] := by
      rw [List.map_append, ← hd1, ← hd2]
      rfl
    refine ⟨_, _, rfl, rfl, .inl (by decide), _, _, rfl, rfl, te, _, _, rfl, SqT.of hteB, ?_⟩
    match u, hu with
    | 0, _ =>
      refine .inl ⟨rfl, pd, _, _, rfl, rfl, fB, by rw [List.length_map, f2]; exact small1000 (by omega), ?_⟩
      refine ⟨es ++ [(o, 1 + i)], fs ++ [(d1, d2)], _, _, _, rfl, btHB.at npd0 _, (gB.at hpdg).mono (by omega), by rw [upd_ne nlp]; exact hlB, .push (ts := ts) fB f2 f3B (fun b o ne e => by rw [upd_ne ne]; exact e) upd_same (by rw [upd_ne (ne_lt fB hteB)]; exact hteB), ?_, by rw [em]; exact fl.snoc _⟩
      rw [show 1 + (i + 1) = 1 + i + 1 by omega]
      exact tr'
    | 1, _ =>
      refine .inr ⟨rfl, fun tt ntt => ⟨pd, _, _, rfl, rfl, by rw [upd_ne (ne_of_none fB ntt)]; exact fB, by rw [List.length_map, f2]; exact small1000 (by omega), ?_⟩⟩
      have nttg : tt ≠ g := gB.ne ntt
      have sC := Same.upd (o := .tup [.int (d2 : Int), .int (d1 : Int)]) ntt
      refine ⟨es ++ [(o, 1 + i)], fs ++ [(d2, d1)], _, _, _, rfl, (btHB.at (btHB.free nttg ntt) _).at npd0 _, ((gB.same sC).at hpdg).mono (by omega), by rw [upd_ne nlp]; exact sC _ _ hlB, .push (ts := ts) (sC _ _ fB) f2 (fun i t e x y => sC _ _ (f3B i t e x y)) (fun b o ne e => by rw [upd_ne ne]; exact e) upd_same (by rw [upd_ne (ne_of_none fB ntt).symm, upd_same]), ?_, by rw [em]; exact fl.snocT _ _⟩
      rw [show 1 + (i + 1) = 1 + i + 1 by omega]
      exact tr'
  · rintro σ H4 ⟨es, fs, y5, y6, y7, rfl, bt4, g4, hl4, ⟨ts, f1, f2, f3⟩, tr, fl⟩
    have e1 : 1 + ((n : Int) - 1).toNat = n := by omega
    rw [e1] at tr
    have flen : fs.length + 1 = n := by
      rw [← fl.len, List.length_map]
      exact tr.len
    refine ⟨_, rfl, _, rfl, g, pd, _, _, rfl, g4, SqL.of f1, hpdg, by rw [List.length_map, f2]; omega, by omega, fun H5 qs ys bt5 g5 nqs hqs pm2 => ?_⟩
    rw [List.length_map, f2] at g5
    have gl4 := g4.lst.choose_spec
    have f35 := fun i t e a b => bt5 _ _ (ne_lt gl4 (f3 i t e a b)) (f3 i t e a b)
    obtain ⟨ts', ds, rfl, pe, hl', pr'⟩ := PairsAt.perm f2 f35 pm2
    refine ⟨qs, _, rfl, .inl ⟨SqL.of hqs, fun pt npt => ?_⟩⟩
    have nptg : pt ≠ g := g5.ne npt
    obtain ⟨es', p', f'⟩ := Flip.perm pe.symm fl
    have bt05 := bt4.trans bt5
    exact q _ pt ds (bt05.at (bt05.free nptg npt) _) ((g5.same (Same.upd npt)).mono (by omega)) nptg ⟨ts', SqT.of upd_same, hl', fun d r e x y => SqT.of (Same.upd npt _ _ (pr' d r e x y))⟩ (((tr.nv pL).perm p').tree f')
end
end K5

namespace K5
open PySem PySem.Spec PyProof.Rows L2
theorem catA_of {K : PySem.W.Frag} {H : Hp} {a b : Addr} {xs ys : List V} {Q : VK} (h1 : SqT K H a xs) (h2 : SqT K H b ys) (hl : xs.length + ys.length ≤ sizeLine) (q : ∀ (H' : Hp) (p : Addr), Same H H' → SqT K H' p (xs ++ ys) → Q (.ref p) H') :
    rCatA K (.ref a) (.ref b) H Q := by
  refine ⟨a, b, xs, ys, rfl, rfl, h1, h2, hl, fun e => ?_, fun _ e => ?_, fun _ _ p np => q _ p (Same.upd np) (SqT.of upd_same)⟩
  · refine q H b (Same.refl _) ?_
    rw [e, List.nil_append]
    exact h2
  · refine q H a (Same.refl _) ?_
    rw [e, List.append_nil]
    exact h1
theorem nv_app (a b : List Nat) : nv a ++ nv b = nv (a ++ b) := by
  unfold nv
  rw [List.map_append]
theorem set_cut {α : Type} : ∀ (l : List α) (k : Nat) (x : α), k < l.length → l.take k ++ [x] ++ l.drop (k + 1) = l.set k x
  | [], k, x, h => by simp at h
  | a :: r, 0, x, h => rfl
  | a :: r, k + 1, x, h => by
    have := set_cut r k x (by simpa using h)
    show a :: (r.take k ++ [x] ++ r.drop (k + 1)) = a :: r.set k x
    rw [this]
theorem nv_cut (L : List Nat) (k x : Nat) (h : k < L.length) : nv (L.take k) ++ [V.int (x : Int)] ++ nv (L.drop (k + 1)) = nv (L.set k x) := by
  rw [← set_cut L k x h, ← nv_app, ← nv_app]
  rfl
theorem cut_to {L : List Nat} {k : Nat} (h : k < L.length) : cutV (nv L) none (some (k : Int)) = nv (L.take k) ∧ ¬ (HT.sIx (nv L).length 0 none = 0 ∧ HT.sIx (nv L).length (nv L).length (some (k : Int)) = (nv L).length) := by
  unfold cutV
  rw [HT.sIx_none, HT.sIx_nat, nv_len, Nat.min_eq_left (Nat.le_of_lt h)]
  refine ⟨?_, fun z => by omega⟩
  unfold nv
  rw [List.drop_zero, Nat.sub_zero, List.map_take]
theorem cut_from {L : List Nat} {k : Nat} (h : k < L.length) : cutV (nv L) (some ((k : Int) + 1)) none = nv (L.drop (k + 1)) ∧ ¬ (HT.sIx (nv L).length 0 (some ((k : Int) + 1)) = 0 ∧ HT.sIx (nv L).length (nv L).length none = (nv L).length) := by
  unfold cutV
  rw [show (k : Int) + 1 = ((k + 1 : Nat) : Int) by omega, HT.sIx_none, HT.sIx_nat, nv_len, Nat.min_eq_left h]
  refine ⟨?_, fun z => by omega⟩
  unfold nv
  rw [← List.map_drop, List.take_of_length_le]
  rw [List.length_map, List.length_drop]
  exact Nat.le_refl _
abbrev Q4 := Nat × Nat × Nat × Nat
def tQ (m : Q4) : List V := [.int (m.1 : Int), .int (m.2.1 : Int), .int (m.2.2.1 : Int), .int (m.2.2.2 : Int)]
def stepS (S : S2) (m : Q4) : S2 := (S.1.set m.1 m.2.2.1, S.2.set m.2.2.2 m.1)
def spAfter (K : PySem.W.Frag) : Sp := fun vs H Q _ => ∃ (s t : Addr) (S : S2) (m : Q4), vs = [.ref s, .ref t] ∧ StateAt K H s S ∧ H t = some (.tup (tQ m)) ∧ m.1 < S.1.length ∧ m.2.2.2 < S.2.length ∧ S.1.length ≤ 1000 ∧ S.2.length ≤ 1000 ∧
  ∀ (H' : Hp) (q : Addr), Same H H' → StateAt K H' q (stepS S m) → Q (.ref q) H'
section
variable {P : Program} {w : World} {K : PySem.W.Frag}
      {mg : Str → Option Value} {base : Heap}
theorem ok_after_move (T : Bl mg) (D : Def K mg "_law_after_move" s_l_after_move) : Cal P w K mg base "_law_after_move" ["_law_situation", "_law_move"] 1 (spAfter K) := by
  refine D.ok sc_l_after_move (fun _ _ _ _ _ _ us hl => match us, hl with | [_, _], _ => rfl) (fun vs H Q E h => ?_) (fun f cdv A outer s0 H vs Q E hr h => ?_)
  · obtain ⟨s, t, S, m, rfl, _⟩ := h
    rfl
  obtain ⟨s, t, S, m, rfl, st, ht, v1, hd, few, bl, qn⟩ := h
  obtain ⟨r, b, h1, h2, h3⟩ := id st
  refine ⟨_, (pss_cons (ps_asg (pv 0) (pg_tup (n := 2) rfl (pgs_cons (pg_name (i := 2) sc_l_after_move.nd rfl (.inl rfl)) (pgs_cons (pg_name (i := 3) sc_l_after_move.nd rfl (.inl rfl)) pgs_nil))))
    (pss_cons (ps_asg (pv 1) (pg_tup (n := 4) rfl (pgs_cons (pg_name (i := 4) sc_l_after_move.nd rfl (.inl rfl)) (pgs_cons (pg_name (i := 5) sc_l_after_move.nd rfl (.inl rfl)) (pgs_cons (pg_name (i := 6) sc_l_after_move.nd rfl (.inl rfl)) (pgs_cons (pg_name (i := 7) sc_l_after_move.nd rfl (.inl rfl)) pgs_nil))))))
    (pss_cons (ps_set (i := 2) sc_l_after_move.nd rfl (.inl rfl) (pe_op op_catA (pe_op op_catA (pe_slice sl_tup (pv 2) po_none (po_some (pv 4))) (pe_tup (pa_cons (pv 6) pa_nil))) (pe_slice sl_tup (pv 2) (po_some (pe_op op_add (pv 4) pe_int)) po_none)))
    (pss_one (ps_ret (pe_tup (pa_cons (pv 2) (pa_cons (pe_op op_catA (pe_op op_catA (pe_slice sl_tup (pv 3) po_none (po_some (pv 7))) (pe_tup (pa_cons (pv 4) pa_nil))) (pe_slice sl_tup (pv 3) (po_some (pe_op op_add (pv 7) pe_int)) po_none)) pa_nil)))))))), ?_⟩
  refine ⟨_, rfl, _, _, rfl, h1, rfl, _, _, rfl, _, _, rfl, rfl, ?_⟩
  refine ⟨_, rfl, _, _, rfl, SqT.of ht, rfl, _, _, rfl, _, _, rfl, _, _, rfl, _, _, rfl, rfl, ?_⟩
  have sz4 : (4 : Nat) + 1000 ≤ sizeLine := Nat.le_of_lt (small3k (by decide))
  obtain ⟨c1, c2⟩ := cut_to v1
  obtain ⟨c3, c4⟩ := cut_from v1
  refine ⟨_, rfl, _, rfl, _, rfl, r, _, rfl, h2, c2, fun p1 np1 => ?_⟩
  rw [c1]
  have sa := Same.upd (o := .tup (nv (S.1.take m.1))) np1
  refine ⟨_, rfl, by show 1 ≤ sizeLine; decide, fun p2 np2 => ?_⟩
  have sb := sa.trans (Same.upd (o := .tup [.int (m.2.2.1 : Int)]) np2)
  have hp1 : (upd (upd H p1 (.tup (nv (S.1.take m.1)))) p2 (.tup [.int (m.2.2.1 : Int)])) p1 = some (.tup (nv (S.1.take m.1))) := by rw [upd_ne (ne_of_none upd_same np2), upd_same]
  refine catA_of (SqT.of hp1) (SqT.of upd_same) (by rw [nv_len, List.length_take, List.length_singleton]; omega) fun H4 p3 s4 h4 => ?_
  have sc := sb.trans s4
  refine ⟨_, rfl, _, rfl, _, _, rfl, rfl, _, rfl, r, _, rfl, sc.tup h2, c4, fun p4 np4 => ?_⟩
  rw [c3]
  have s5 := Same.upd (o := .tup (nv (S.1.drop (m.1 + 1)))) np4
  refine catA_of (s5.tup h4) (SqT.of upd_same) (by rw [List.length_append, nv_len, List.length_take, List.length_singleton, nv_len, List.length_drop]; omega) fun H6 p5 s6 h6 => ?_
  rw [nv_cut _ _ _ v1] at h6
  have sd := (sc.trans s5).trans s6
  obtain ⟨c5, c6⟩ := cut_to hd
  obtain ⟨c7, c8⟩ := cut_from hd
  refine ⟨_, rfl, _, rfl, _, rfl, _, rfl, b, _, rfl, sd.tup h3, c6, fun p6 np6 => ?_⟩
  rw [c5]
  have se := sd.trans (Same.upd (o := .tup (nv (S.2.take m.2.2.2))) np6)
  have h6e := (Same.upd (o := .tup (nv (S.2.take m.2.2.2))) np6).tup h6
  refine ⟨_, rfl, by show 1 ≤ sizeLine; decide, fun p7 np7 => ?_⟩
  have sf := se.trans (Same.upd (o := .tup [.int (m.1 : Int)]) np7)
  have h6f := (Same.upd (o := .tup [.int (m.1 : Int)]) np7).tup h6e
  have hp6 : (upd (upd H6 p6 (.tup (nv (S.2.take m.2.2.2)))) p7 (.tup [.int (m.1 : Int)])) p6 = some (.tup (nv (S.2.take m.2.2.2))) := by rw [upd_ne (ne_of_none upd_same np7), upd_same]
  refine catA_of (SqT.of hp6) (SqT.of upd_same) (by rw [nv_len, List.length_take, List.length_singleton]; omega) fun H8 p8 s8 h8 => ?_
  have sg := sf.trans s8
  have h6g := s8.tup h6f
  refine ⟨_, rfl, _, rfl, _, _, rfl, rfl, _, rfl, b, _, rfl, sg.tup h3, c8, fun p9 np9 => ?_⟩
  rw [c7]
  have s9 := Same.upd (o := .tup (nv (S.2.drop (m.2.2.2 + 1)))) np9
  refine catA_of (s9.tup h8) (SqT.of upd_same) (by rw [List.length_append, nv_len, List.length_take, List.length_singleton, nv_len, List.length_drop]; omega) fun H10 p10 s10 h10 => ?_
  rw [nv_cut _ _ _ hd] at h10
  have sh := (sg.trans s9).trans s10
  have h6h := s10.tup (s9.tup h6g)
  refine ⟨by show 2 ≤ sizeLine; decide, fun p11 np11 => ?_⟩
  have s11 := Same.upd (o := .tup [.ref p5, .ref p10]) np11
  exact qn _ p11 (sh.trans s11) ⟨p5, p10, SqT.of upd_same, s11.tup h6h, s11.tup h10⟩
end
end K5

namespace K5
open PySem PySem.Spec PyProof.Rows L2
theorem inV_nv (x : Nat) (l : List Nat) : inV (.int (x : Int)) (nv l) = decide (x ∈ l) := by
  induction l with
  | nil => rfl
  | cons a r ih =>
    show (((a : Int) == (x : Int)) || inV (.int (x : Int)) (nv r)) = _
    rw [ih]
    by_cases h : x = a
    · subst h
      simp
    · have e1 : ((a : Int) == (x : Int)) = false := beq_eq_false_iff_ne.mpr (by omega)
      rw [e1]
      simp [h]
theorem flat_nv (l : List Nat) : (nv l).all flatV = true := by
  induction l with
  | nil => rfl
  | cons a r ih => exact ih
/-- a move that the situation allows -/
def QOk (ds : List (Nat × Nat)) (S : S2) (m : Q4) : Prop := S.1[m.1]? = some m.2.1 ∧ Joins ds m.2.2.2 m.2.1 m.2.2.1 ∧ S.2[m.2.2.2]? ≠ some m.1
def QL (H : Hp) (ts : List Addr) (qs : List Q4) : Prop := ts.length = qs.length ∧ ∀ (i : Nat) (t : Addr) (m : Q4), ts[i]? = some t → qs[i]? = some m → H t = some (.tup (tQ m))
theorem QL.same {H H' ts qs} (h : QL H ts qs) (s : Same H H') : QL H' ts qs := ⟨h.1, fun i t m x y => s _ _ (h.2 i t m x y)⟩
theorem QL.push {H : Hp} {ts : List Addr} {qs : List Q4} {p t : Addr} {m : Q4} {xs ys : List V} (h : QL H ts qs) (hp : H p = some (.lst xs)) (nt : H t = none) :
    QL (upd (upd H t (.tup (tQ m))) p (.lst ys)) (ts ++ [t]) (qs ++ [m]) := by
  have ntp : t ≠ p := (ne_of_none hp nt).symm
  refine ⟨by rw [List.length_append, List.length_append, h.1]; rfl, fun i a b x y => ?_⟩
  by_cases hi : i < ts.length
  · rw [List.getElem?_append_left hi] at x
    rw [List.getElem?_append_left (by rw [← h.1]; exact hi)] at y
    have q := h.2 i a b x y
    rw [upd_ne (ne_lt hp q), upd_ne (ne_of_none q nt)]
    exact q
  · rw [List.getElem?_append_right (by omega)] at x
    rw [List.getElem?_append_right (by rw [← h.1]; omega), ← h.1] at y
    generalize i - ts.length = j at x y
    match j with
    | 0 => cases x; cases y; rw [upd_ne ntp, upd_same]
    | j + 1 => simp at x
theorem q_skip0 {ds : List (Nat × Nat)} {S : S2} {qs : List Q4} {k i : Nat} (h : ∀ m, m ∈ qs ↔ (m.2.2.2 < k ∨ m.2.2.2 = k ∧ m.1 < i) ∧ QOk ds S m) (no : ∀ m : Q4, m.1 = i → m.2.2.2 = k → ¬ QOk ds S m) :
    ∀ m, m ∈ qs ↔ (m.2.2.2 < k ∨ m.2.2.2 = k ∧ m.1 < i + 1) ∧ QOk ds S m := by
  intro m
  rw [h m]
  constructor
  · rintro ⟨h1, h2⟩
    exact ⟨by omega, h2⟩
  · rintro ⟨h1, h2⟩
    refine ⟨?_, h2⟩
    by_cases c : m.2.2.2 = k ∧ m.1 = i
    · exact absurd h2 (no m c.2 c.1)
    · omega
theorem q_add0 {ds : List (Nat × Nat)} {S : S2} {qs : List Q4} {k i : Nat} {m0 : Q4} (h : ∀ m, m ∈ qs ↔ (m.2.2.2 < k ∨ m.2.2.2 = k ∧ m.1 < i) ∧ QOk ds S m) (e1 : m0.1 = i) (e2 : m0.2.2.2 = k) (ok : QOk ds S m0) (un : ∀ m : Q4, m.1 = i → m.2.2.2 = k → QOk ds S m → m = m0) :
    ∀ m, m ∈ qs ++ [m0] ↔ (m.2.2.2 < k ∨ m.2.2.2 = k ∧ m.1 < i + 1) ∧ QOk ds S m := by
  intro m
  rw [List.mem_append, h m, List.mem_singleton]
  constructor
  · rintro (⟨h1, h2⟩ | rfl)
    · exact ⟨by omega, h2⟩
    · exact ⟨by omega, ok⟩
  · rintro ⟨h1, h2⟩
    by_cases c : m.2.2.2 = k ∧ m.1 = i
    · exact .inr (un m c.2 c.1 h2)
    · exact .inl ⟨by omega, h2⟩
abbrev QAll (qs : List Q4) (p : Q4 → Prop) : Prop := qs.Nodup ∧ ∀ m, m ∈ qs ↔ p m
theorem q_skip {ds : List (Nat × Nat)} {S : S2} {qs : List Q4} {k i : Nat} (h : QAll qs fun m => (m.2.2.2 < k ∨ m.2.2.2 = k ∧ m.1 < i) ∧ QOk ds S m) (no : ∀ m : Q4, m.1 = i → m.2.2.2 = k → ¬ QOk ds S m) :
    QAll qs fun m => (m.2.2.2 < k ∨ m.2.2.2 = k ∧ m.1 < i + 1) ∧ QOk ds S m := ⟨h.1, q_skip0 h.2 no⟩
theorem q_add {ds : List (Nat × Nat)} {S : S2} {qs : List Q4} {k i : Nat} {m0 : Q4} (h : QAll qs fun m => (m.2.2.2 < k ∨ m.2.2.2 = k ∧ m.1 < i) ∧ QOk ds S m) (e1 : m0.1 = i) (e2 : m0.2.2.2 = k) (ok : QOk ds S m0) (un : ∀ m : Q4, m.1 = i → m.2.2.2 = k → QOk ds S m → m = m0) :
    QAll (qs ++ [m0]) fun m => (m.2.2.2 < k ∨ m.2.2.2 = k ∧ m.1 < i + 1) ∧ QOk ds S m := by
  refine ⟨List.nodup_append.mpr ⟨h.1, by simp, fun a ha b hb z => ?_⟩, q_add0 h.2 e1 e2 ok un⟩
  rw [List.mem_singleton] at hb
  subst z
  subst hb
  have := (h.2 a).mp ha
  omega
theorem joins_at {ds : List (Nat × Nat)} {k : Nat} {e : Nat × Nat} (he : ds[k]? = some e) (x y : Nat) : Joins ds k x y ↔ (x = e.1 ∧ y = e.2) ∨ (x = e.2 ∧ y = e.1) := by
  unfold Joins
  rw [he]
  constructor
  · rintro (h | h)
    · have h := Option.some.inj h
      exact .inl ⟨by rw [h], by rw [h]⟩
    · have h := Option.some.inj h
      exact .inr ⟨by rw [h], by rw [h]⟩
  · rintro (⟨rfl, rfl⟩ | ⟨rfl, rfl⟩)
    · exact .inl rfl
    · exact .inr rfl
def spMoves (K : PySem.W.Frag) : Sp := fun vs H Q _ => ∃ (a s : Addr) (n : Nat) (ds : List (Nat × Nat)) (S : S2), vs = [.ref a, .ref s] ∧ HouseAt K H a ds ∧ Tree n ds ∧ n ≤ 60 ∧ StateAt K H s S ∧ StOk n ds S ∧
  ∀ (H' : Hp) (q : Addr) (ts : List Addr) (qs : List Q4), Same H H' → H q = none → H' q = some (.lst (ts.map V.ref)) → QL H' ts qs → QAll qs (fun m => QOk ds S m) → qs.length ≤ 1000 → Q (.ref q) H'
section
variable {P : Program} {w : World} {K : PySem.W.Frag}
      {mg : Str → Option Value} {base : Heap}
theorem ok_moves (T : Bl mg) (D : Def K mg "_law_moves" s_l_moves) : Cal P w K mg base "_law_moves" ["_law_layout", "_law_situation"] 1 (spMoves K) := by
  refine D.ok sc_l_moves (fun _ _ _ _ _ _ us hl => match us, hl with | [_, _], _ => rfl) (fun vs H Q E h => ?_) (fun f cdv A outer s0 H vs Q E hr h => ?_)
  · obtain ⟨a, s, n, ds, S, rfl, _⟩ := h
    rfl
  obtain ⟨a, s, n, ds, S, rfl, hH, tree, hn, st, ok, qn⟩ := h
  obtain ⟨r, b, h1, h2, h3⟩ := id st
  obtain ⟨rs, hrs, hlen, hds⟩ := id hH
  have hdn := tree.len
  have few := ok.few
  refine ⟨_, (pss_cons (ps_asg (pv 1) (pg_tup (n := 2) rfl (pgs_cons (pg_name (i := 2) sc_l_moves.nd rfl (.inl rfl)) (pgs_cons (pg_name (i := 3) sc_l_moves.nd rfl (.inl rfl)) pgs_nil))))
    (pss_cons (ps_set (i := 4) sc_l_moves.nd rfl (.inl rfl) (pe_lst pa_nil))
    (pss_cons (ps_for PassesOwn.never rfl (pi_enumT (by rfl) T.enumerate (pa_cons (pv 0) pa_nil)) (pg_tup (n := 2) rfl (pgs_cons (pg_name (i := 5) sc_l_moves.nd rfl (.inl rfl)) (pgs_cons (pg_tup (n := 2) rfl (pgs_cons (pg_name (i := 6) sc_l_moves.nd rfl (.inl rfl)) (pgs_cons (pg_name (i := 7) sc_l_moves.nd rfl (.inl rfl)) pgs_nil))) pgs_nil)))
    (pss_one (ps_for PassesOwn.never rfl (pi_enumT (by rfl) T.enumerate (pa_cons (pv 2) pa_nil)) (pg_tup (n := 2) rfl (pgs_cons (pg_name (i := 8) sc_l_moves.nd rfl (.inl rfl)) (pgs_cons (pg_name (i := 9) sc_l_moves.nd rfl (.inl rfl)) pgs_nil)))
    (pss_one (ps_if (PW.pt (pw_and (pt_cmpR op_ne (pe_ix ix_tup (pv 3) (pv 5) (fun _ _ => rfl)) (pv 8) (nomark _)) (pw_and1 (pt_cmpR op_in_seq (pv 9) (pe_tup (pa_cons (pv 6) (pa_cons (pv 7) pa_nil))) (by rfl))))) (pss_one (ps_expr (pe_bm PySem.F.plainAttrs_list PySem.F.slot_list_append PySem.F.type_list_append mt_append (pv 4) (pa_cons (pe_tup (pa_cons (pv 8) (pa_cons (pv 9) (pa_cons (pe_ix ix_list (pe_lst (pa_cons (pv 6) (pa_cons (pv 7) pa_nil))) (pe_callTy call_int1 (by rfl) T.int (by decide +kernel) (pa_cons (pe_cmpR op_eq (pv 9) (pv 6) (nomark _)) pa_nil)) (fun _ _ => rfl)) (pa_cons (pv 5) pa_nil))))) pa_nil)))) pss_nil)))))
    (pss_one (ps_ret (pv 4)))))), ?_⟩
  refine ⟨_, rfl, _, _, rfl, h1, rfl, _, _, rfl, _, _, rfl, rfl, ?_⟩
  refine ⟨Nat.zero_le _, fun p np => ?_⟩
  have sp := Same.upd (o := .lst []) np
  refine ⟨_, rfl, a, _, rfl, sp.tup hrs, ?_⟩
  refine for_it (walk_enumT (K := K) (a := a) (xs := rs.map V.ref)) (fun k σ H2 => ∃ (ts : List Addr) (qs : List Q4) (y5 y6 y7 y8 y9 : Option V), σ = [some (.ref a), some (.ref s), some (.ref r), some (.ref b), some (.ref p), y5, y6, y7, y8, y9] ∧ Same H H2 ∧ H2 p = some (.lst (ts.map V.ref)) ∧ QL H2 ts qs ∧
      qs.length ≤ 10 * k ∧ QAll qs fun m => m.2.2.2 < k ∧ QOk ds S m)
    ⟨[], [], _, _, _, _, _, rfl, sp, upd_same, ⟨rfl, fun i t m x y => by simp at x⟩, Nat.zero_le _, List.nodup_nil, fun m => by simp⟩
    (fun i σ H1 _ ⟨_, _, _, _, _, _, _, _, sm, _⟩ => sm.tup hrs) ?_ ?_
  · rintro k x σ H2 H3 hk ⟨ts, qs, y5, y6, y7, y8, y9, rfl, sm, hp, ql, len, mem⟩ ⟨t, x1, x2, rfl, nt, rfl, ex1, ex2⟩
    cases ex1
    have hk' : k < ds.length := by
      rw [List.length_map, hlen] at hk
      exact hk
    obtain ⟨e, he⟩ : ∃ e, ds[k]? = some e := get_of rfl hk'
    obtain ⟨rr, hr0⟩ : ∃ r, rs[k]? = some r := get_of hlen hk'
    have ex2' : V.ref rr = x2 := by
      have ex2 : (rs.map V.ref)[k]? = some x2 := ex2
      rw [List.getElem?_map, hr0] at ex2
      exact Option.some.inj ex2
    subst ex2'
    obtain ⟨bk, hbk⟩ : ∃ bk, S.2[k]? = some bk := get_of ok.doors hk'
    have JA := joins_at he
    have ene : e.1 ≠ e.2 := fun z => by
      obtain ⟨side, s1, s2⟩ := tree.side
      exact s1 k e he (by rw [z])
    have smt : Same H2 (upd H2 t (.tup [.int (k : Nat), .ref rr])) := Same.upd nt
    have sm3 := sm.trans smt
    refine ⟨t, _, rfl, SqT.of upd_same, rfl, _, _, rfl, _, _, rfl, ⟨rr, _, rfl, sm3.tup (hds k rr e hr0 he), rfl, _, _, rfl, _, _, rfl, rfl, rfl, ?_⟩⟩
    have hp3 := smt _ _ hp
    have ql3 := ql.same smt
    generalize upd H2 t (.tup [.int (k : Nat), .ref rr]) = H4 at sm3 hp3 ql3 smt
    refine ⟨_, rfl, r, _, rfl, sm3.tup h2, ?_⟩
    refine for_it (walk_enumT (K := K) (a := r) (xs := nv S.1)) (fun i σ H2 => ∃ (ts : List Addr) (qs : List Q4) (y8 y9 : Option V), σ = [some (.ref a), some (.ref s), some (.ref r), some (.ref b), some (.ref p), some (.int (k : Int)), some (.int (e.1 : Int)), some (.int (e.2 : Int)), y8, y9] ∧ Same H H2 ∧ H2 p = some (.lst (ts.map V.ref)) ∧ QL H2 ts qs ∧
        qs.length ≤ 10 * k + i ∧ QAll qs fun m => (m.2.2.2 < k ∨ m.2.2.2 = k ∧ m.1 < i) ∧ QOk ds S m)
      ⟨ts, qs, _, _, rfl, sm3, hp3, ql3, by omega, mem.1, fun m => by rw [mem.2 m]; exact ⟨fun h => ⟨.inl h.1, h.2⟩, fun h => ⟨by omega, h.2⟩⟩⟩
      (fun i σ H1 _ ⟨_, _, _, _, _, sm, _⟩ => sm.tup h2) ?_ ?_
    · rintro i x σ H5 H6 hi ⟨ts, qs, y8, y9, rfl, sm5, hp5, ql5, len5, mem5⟩ ⟨t2, x1, x2, rfl, nt2, rfl, ex1, ex2⟩
      cases ex1
      obtain ⟨v, hv, rfl⟩ := nv_some ex2
      rw [nv_len] at hi
      have sm6 := sm5.trans (Same.upd (o := .tup [.int (i : Nat), .int (v : Int)]) nt2)
      refine ⟨t2, _, rfl, SqT.of upd_same, rfl, _, _, rfl, _, _, rfl, rfl, ?_⟩
      have hp6 := (Same.upd (o := .tup [.int (i : Nat), .int (v : Int)]) nt2) _ _ hp5
      have ql6 := ql5.same (Same.upd (o := .tup [.int (i : Nat), .int (v : Int)]) nt2)
      generalize upd H5 t2 (.tup [.int (i : Nat), .int (v : Int)]) = H7 at sm6 hp6 ql6
      refine ⟨_, rfl, _, rfl, b, _, _, _, rfl, rfl, sm6.tup h3, nv_at hbk, _, rfl, rfl, _, rfl, ?_⟩
      by_cases cb : bk = i
      · rw [decide_eq_true (show V.int (bk : Int) = V.int (i : Int) by rw [cb])]
        refine iteF (iteF ⟨ts, qs, _, _, rfl, sm6, hp6, ql6, by omega, q_skip mem5 fun m e1 e2 o => o.2.2 (by rw [e2, hbk, e1, cb])⟩)
      rw [decide_eq_false (show ¬ V.int (bk : Int) = V.int (i : Int) from fun z => cb (by have := V.int.inj z; omega))]
      refine iteT ?_
      refine ⟨_, rfl, _, rfl, _, rfl, by show 2 ≤ sizeLine; decide, fun p2 np2 => ?_⟩
      have s7 := Same.upd (o := .tup [.int (e.1 : Int), .int (e.2 : Int)]) np2
      refine ⟨p2, _, rfl, .inr (SqT.of upd_same), rfl, rfl, _, rfl, ?_⟩
      have s67 := sm6.trans s7
      have hp7 := s7 _ _ hp6
      have ql7 := ql6.same s7
      generalize upd H7 p2 (.tup [.int (e.1 : Int), .int (e.2 : Int)]) = H8 at s67 hp7 ql7 s7
      have hin : inV (V.int (v : Int)) [V.int (e.1 : Int), V.int (e.2 : Int)] = decide (v ∈ [e.1, e.2]) := inV_nv v [e.1, e.2]
      show if inV (V.int (v : Int)) [V.int (e.1 : Int), V.int (e.2 : Int)] = true then _ else _
      rw [hin]
      by_cases cv : v ∈ [e.1, e.2]
      case neg =>
        rw [decide_eq_false cv]
        refine iteF ⟨ts, qs, _, _, rfl, s67, hp7, ql7, by omega, q_skip mem5 fun m e1 e2 o => cv ?_⟩
        obtain ⟨o1, o2, o3⟩ := o
        rw [e1, hv] at o1
        rw [e2] at o2
        rw [Option.some.inj o1]
        rcases (JA _ _).mp o2 with h | h
        · rw [h.1]; simp
        · rw [h.1]; simp
      rw [decide_eq_true cv]
      refine iteT ⟨_, rfl, .inl ⟨rfl, _, SqL.of hp7⟩, ?_⟩
      refine ⟨_, rfl, _, rfl, _, rfl, _, rfl, by show 2 ≤ sizeLine; decide, fun pl npl => ?_⟩
      have s8 := Same.upd (o := .lst [.int (e.1 : Int), .int (e.2 : Int)]) npl
      have hp8 := s8 _ _ hp7
      have ql8 := ql7.same s8
      have s68 := s67.trans s8
      have hl8 : (upd H8 pl (.lst [.int (e.1 : Int), .int (e.2 : Int)])) pl = some (.lst (nv [e.1, e.2])) := upd_same
      generalize upd H8 pl (.lst [.int (e.1 : Int), .int (e.2 : Int)]) = H9 at hp8 ql8 s68 s8 hl8
      refine ⟨_, rfl, _, rfl, rfl, .inr ⟨_, rfl, ?_⟩⟩
      have fin : ∀ y : Nat, QOk ds S (i, v, y, k) → (∀ m : Q4, m.1 = i → m.2.2.2 = k → QOk ds S m → m = (i, v, y, k)) → ∀ (j : Nat) (kk : Int), kk = (j : Int) → [e.1, e.2][j]? = some y →
          rIxL K (.ref pl) (.int kk) H9 fun x H1 => tCons (tVar 5) tNil [some (.ref a), some (.ref s), some (.ref r), some (.ref b), some (.ref p), some (.int (k : Int)), some (.int (e.1 : Int)), some (.int (e.2 : Int)), some (.int (i : Int)), some (.int (v : Int))] H1 fun xs H2 =>
            (V.int (i : Int) :: V.int (v : Int) :: x :: xs).length ≤ sizeLine ∧ ∀ q, H2 q = none → rAppend (.ref p) [.ref q] (upd H2 q (.tup (V.int (i : Int) :: V.int (v : Int) :: x :: xs))) fun _ H' => 
              ∃ (ts : List Addr) (qs : List Q4) (y8 y9 : Option V), [some (V.ref a), some (.ref s), some (.ref r), some (.ref b), some (.ref p), some (.int (k : Int)), some (.int (e.1 : Int)), some (.int (e.2 : Int)), some (.int (i : Int)), some (.int (v : Int))] = [some (.ref a), some (.ref s), some (.ref r), some (.ref b), some (.ref p), some (.int (k : Int)), some (.int (e.1 : Int)), some (.int (e.2 : Int)), y8, y9] ∧ Same H H' ∧ H' p = some (.lst (ts.map V.ref)) ∧ QL H' ts qs ∧
        qs.length ≤ 10 * k + (i + 1) ∧ QAll qs fun m => (m.2.2.2 < k ∨ m.2.2.2 = k ∧ m.1 < i + 1) ∧ QOk ds S m := by
        intro y oy un j kk ek hj
        subst ek
        refine ⟨pl, _, _, _, rfl, rfl, SqL.of hl8, nv_at hj, ?_⟩
        refine ⟨_, rfl, by show 4 ≤ sizeLine; decide, fun t3 nt3 => ?_⟩
        have hp9 := (Same.upd (o := .tup (tQ (i, v, y, k))) nt3) _ _ hp8
        refine ⟨p, _, _, rfl, rfl, hp9, by rw [List.length_map, ql8.1]; exact small1000 (by omega), ?_⟩
        refine ⟨ts ++ [t3], qs ++ [(i, v, y, k)], _, _, rfl, (s68.trans (Same.upd nt3)).at np, by rw [upd_same, List.map_append]; rfl, ql8.push hp8 nt3, by rw [List.length_append, List.length_singleton]; omega, q_add mem5 rfl rfl oy un⟩
      by_cases c1 : v = e.1
      · have ok0 : QOk ds S (i, v, e.2, k) := ⟨hv, (JA _ _).mpr (.inl ⟨c1, rfl⟩), fun z => cb (Option.some.inj (hbk.symm.trans z))⟩
        rw [decide_eq_true (show V.int (v : Int) = V.int (e.1 : Int) by rw [c1])]
        refine fin e.2 ok0 (fun m e1 e2 o => ?_) 1 _ rfl rfl
        obtain ⟨m1, m2, m3, m4⟩ := m
        obtain ⟨o1, o2, o3⟩ := o
        dsimp only at e1 e2 o1 o2 o3
        subst e1
        subst e2
        rw [hv] at o1
        cases Option.some.inj o1
        rcases (JA _ _).mp o2 with h | h
        · rw [h.2]
        · exact absurd (c1.symm.trans h.1) ene
      · have c2 : v = e.2 := by
          rcases List.mem_cons.mp cv with h | h
          · exact absurd h c1
          · exact List.mem_singleton.mp h
        have ok0 : QOk ds S (i, v, e.1, k) := ⟨hv, (JA _ _).mpr (.inr ⟨c2, rfl⟩), fun z => cb (Option.some.inj (hbk.symm.trans z))⟩
        rw [decide_eq_false (show ¬ V.int (v : Int) = V.int (e.1 : Int) from fun z => c1 (by have := V.int.inj z; omega))]
        refine fin e.1 ok0 (fun m e1 e2 o => ?_) 0 _ rfl rfl
        obtain ⟨m1, m2, m3, m4⟩ := m
        obtain ⟨o1, o2, o3⟩ := o
        dsimp only at e1 e2 o1 o2 o3
        subst e1
        subst e2
        rw [hv] at o1
        cases Option.some.inj o1
        rcases (JA _ _).mp o2 with h | h
        · exact absurd h.1 c1
        · rw [h.2]
    · rintro σ H5 ⟨ts, qs, y8, y9, rfl, sm5, hp5, ql5, len5, mem5⟩
      rw [nv_len] at len5 mem5
      refine ⟨ts, qs, _, _, _, _, _, rfl, sm5, hp5, ql5, by omega, mem5.1, fun m => ?_⟩
      rw [mem5.2 m]
      exact ⟨fun h => ⟨by omega, h.2⟩, fun h => ⟨by have := get_lt h.2.1; omega, h.2⟩⟩
  · rintro σ H2 ⟨ts, qs, y5, y6, y7, y8, y9, rfl, sm, hp, ql, len, mem⟩
    refine ⟨_, rfl, qn H2 p ts qs sm np hp ql ⟨mem.1, fun m => ?_⟩ (by rw [List.length_map, hlen] at len; omega)⟩
    rw [mem.2 m]
    refine ⟨fun h => h.2, fun h => ⟨?_, h⟩⟩
    rw [List.length_map, hlen]
    exact joins_lt h.2.1
end
end K5

namespace K5
open PySem PySem.Spec PyProof.Rows L2
def tri (m : Q4) : Mv := (m.1, m.2.1, m.2.2.1)
def dQ (m : Q4) : PyData := .tuple [.int (m.1 : Int), .int (m.2.1 : Int), .int (m.2.2.1 : Int), .int (m.2.2.2 : Int)]
def dQs (l : List Q4) : PyData := .list (l.map dQ)
theorem dQ_lay (z : Q4) : (dQ z).canLay0 = true := by simp [dQ, PyData.canLay0, PyData.canLayAll0]
theorem dQ_depth (z : Q4) : (dQ z).depth ≤ 2 := by simp [dQ, PyData.depth, PyData.depthAll]
theorem dQs_lay : ∀ zs : List Q4, PyData.canLayAll0 (zs.map dQ) = true
  | [] => by simp [PyData.canLayAll0]
  | z :: zs => by simp [PyData.canLayAll0, dQ_lay z, dQs_lay zs]
theorem dQs_depth : ∀ zs : List Q4, PyData.depthAll (zs.map dQ) ≤ 2
  | [] => by simp [PyData.depthAll]
  | z :: zs => by
    have h1 := dQs_depth zs
    have h2 := dQ_depth z
    simp only [List.map_cons, PyData.depthAll]
    omega
theorem dQs_shaped (l : List Q4) : SeqAt.shaped (dQs l) = true := by
  have h := dQs_depth l
  refine shaped_mk ?_ ?_
  · simp only [dQs, PyData.canLay0]
    exact dQs_lay l
  · simp only [dQs, PyData.depth]
    omega
theorem dM_shaped (m : Mv) : SeqAt.shaped (dM m) = true := shaped_mk (dM_lay m) (by have := dM_depth m; omega)
theorem dQs_nil (l : List Q4) : PyData.eqv (dQs l) (dQs []) = decide (l = []) := by
  cases l with
  | nil => exact d_refl (dQs_shaped [])
  | cons m r =>
    rw [decide_eq_false (by simp)]
    simp only [dQs, List.map_cons, List.map_nil, PyData.eqv, PyData.eqvAll]
theorem dM_eqv (a b : Mv) : PyData.eqv (dM a) (dM b) = decide (a = b) := by
  obtain ⟨a1, a2, a3⟩ := a
  obtain ⟨b1, b2, b3⟩ := b
  by_cases h : (a1, a2, a3) = (b1, b2, b3)
  · rw [h, decide_eq_true rfl]
    exact d_refl (dM_shaped _)
  · rw [decide_eq_false h]
    simp only [dM, PyData.eqv, PyData.eqvAll]
    simp only [Prod.mk.injEq] at h
    rw [Bool.eq_false_iff]
    intro z
    simp at z
    exact h (by omega)
theorem dp_Q {K : PySem.W.Frag} {H : Hp} : ∀ (ts : List Addr) (l : List Q4), QL H ts l → DpAll K H (ts.map V.ref) (l.map dQ)
  | [], [], _ => .nil
  | [], m :: l, h => by have := h.1; simp at this
  | t :: ts, [], h => by have := h.1; simp at this
  | t :: ts, m :: l, h => .cons (.tup (SqT.of (h.2 0 t m rfl rfl)) (.cons (.int _) (.cons (.int _) (.cons (.int _) (.cons (.int _) .nil))))) (dp_Q ts l ⟨by have := h.1; simpa using this, fun i t' m' x y => h.2 (i + 1) t' m' x y⟩)
theorem QL.app {H : Hp} {ts : List Addr} {qs : List Q4} {t : Addr} {m : Q4} (h : QL H ts qs) (ht : H t = some (.tup (tQ m))) : QL H (ts ++ [t]) (qs ++ [m]) := by
  refine ⟨by rw [List.length_append, List.length_append, h.1]; rfl, fun i a b x y => ?_⟩
  by_cases hi : i < ts.length
  · rw [List.getElem?_append_left hi] at x
    rw [List.getElem?_append_left (by rw [← h.1]; exact hi)] at y
    exact h.2 i a b x y
  · rw [List.getElem?_append_right (by omega)] at x
    rw [List.getElem?_append_right (by rw [← h.1]; omega), ← h.1] at y
    generalize i - ts.length = j at x y
    match j with
    | 0 => cases x; cases y; exact ht
    | j + 1 => simp at x
theorem QL.but {g : Addr} {H H' : Hp} {ts : List Addr} {qs : List Q4} {xs : List V} (h : QL H ts qs) (hg : H g = some (.lst xs)) (s : But g H H') : QL H' ts qs := ⟨h.1, fun i t m x y => s _ _ (ne_lt hg (h.2 i t m x y)) (h.2 i t m x y)⟩
/-- the moves, one after the other, and where they lead -/
def Run (ds : List (Nat × Nat)) : S2 → List Mv → S2 → Prop
  | S, [], S' => S = S'
  | S, m :: r, S' => ∃ d, QOk ds S (m.1, m.2.1, m.2.2, d) ∧ Run ds (stepS S (m.1, m.2.1, m.2.2, d)) r S'
theorem stepS_ok {n : Nat} {ds : List (Nat × Nat)} {S : S2} {m : Q4} (T : Tree n ds) (h : StOk n ds S) (o : QOk ds S m) : StOk n ds (stepS S m) := by
  obtain ⟨o1, o2, o3⟩ := o
  have lt := get_lt o1
  have l2 := (o2.lt T).2.1
  refine ⟨?_, ?_, ?_, ?_, ?_⟩
  · show 1 ≤ (S.1.set _ _).length
    rw [List.length_set]; exact h.one
  · show (S.1.set _ _).length ≤ _
    rw [List.length_set]; exact h.few
  · intro x hx
    rcases List.mem_or_eq_of_mem_set hx with hx | rfl
    · exact h.rooms x hx
    · exact l2
  · show (S.2.set _ _).length = _
    rw [List.length_set]; exact h.doors
  · intro y hy
    show y < (S.1.set _ _).length
    rw [List.length_set]
    rcases List.mem_or_eq_of_mem_set hy with hy | rfl
    · exact h.bars y hy
    · exact lt
theorem set_ne' {α : Type} {l : List α} {i j : Nat} {x : α} (h : i ≠ j) : (l.set i x)[j]? = l[j]? := List.getElem?_set_ne h
/-- a door that a move uses is explained behind it, and so are those explained before -/
theorem Ex.used {ds : List (Nat × Nat)} {S : S2} {m : Q4} (o : QOk ds S m) (h2 : m.2.2.2 < S.2.length) : Ex ds (stepS S m) m.2.2.2 := by
  obtain ⟨o1, o2, o3⟩ := o
  have l1 := get_lt o1
  refine .mk (p := m.1) (r := m.2.2.1) (u := []) ?_ ?_ o2.symm (.nil _) (fun _ h => nomatch h)
  · show (S.2.set m.2.2.2 m.1)[m.2.2.2]? = _
    rw [List.getElem?_set_self h2]
  · show (S.1.set m.1 m.2.2.1)[m.1]? = _
    rw [List.getElem?_set_self l1]
theorem Ex.kept {ds : List (Nat × Nat)} {S : S2} {m : Q4} (o : QOk ds S m) (h2 : m.2.2.2 < S.2.length) {e : Nat} (h : Ex ds S e) : Ex ds (stepS S m) e := by
  have hd := Ex.used o h2
  obtain ⟨o1, o2, o3⟩ := o
  have l1 := get_lt o1
  induction h with
  | @mk e q r x y u hq hr j w hu ih =>
    by_cases ce : e = m.2.2.2
    · rw [ce]
      exact hd
    · have hq' : (stepS S m).2[e]? = some q := by
        show (S.2.set m.2.2.2 m.1)[e]? = _
        rw [List.getElem?_set_ne (Ne.symm ce)]
        exact hq
      by_cases cq : q = m.1
      · subst cq
        rw [o1] at hr
        cases hr
        refine .mk hq' (r := m.2.2.1) ?_ j (.cons o2.symm w) fun f hf => ?_
        · show (S.1.set m.1 m.2.2.1)[m.1]? = _
          rw [List.getElem?_set_self l1]
        · rcases List.mem_cons.mp hf with rfl | hf
          · exact hd
          · exact ih f hf
      · refine .mk hq' (r := r) ?_ j w fun f hf => ih f hf
        show (S.1.set m.1 m.2.2.1)[q]? = _
        rw [List.getElem?_set_ne (Ne.symm cq)]
        exact hr
end K5

namespace L2
open PySem PySem.Spec PyProof.Rows
/-! own rule: list(o.values()), values of any kind -/
theorem vals_by_at : ∀ (xs : List V) (us : List Value), us.length = xs.length → (∀ (i : Nat) (x : V) (u : Value), xs[i]? = some x → us[i]? = some u → RelV x u) → Vals xs us
  | [], [], _, _ => .nil
  | [], _ :: _, h, _ => by simp at h
  | _ :: _, [], h, _ => by simp at h
  | x :: xs, u :: us, h, hr => .cons (hr 0 x u rfl rfl) (vals_by_at xs us (by simpa using h) fun i x' u' a b => hr (i + 1) x' u' a b)
def tListVals (td : TE) : TE := fun σ H Q => td σ H fun x H1 => ∃ a kvs, x = V.ref a ∧ H1 a = some (.dK kvs) ∧ ∀ p, H1 p = none → Q (.ref p) (upd H1 p (.lst (kvs.map fun kv => kv.2)))
section
variable {X : Cx} {o : Expr} {p pos apos mpos : Pos} {td : TE}
theorem pe_listVals (hc : X.calm = true) (hg : Gl X "list") (hm : X.mg "list" = none) (hd : PE X o td) (hbase : attributeBase o "values" X.env (eval o X.env) = eval o X.env := by rfl) (hline : (apos.endLine == mpos.line) = true := by rfl)
    (hse : starEach [Expr.Call (.Attribute o "values" apos) [] [] mpos] X.env = [(false,
          eval (Expr.Call (.Attribute o "values" apos) [] [] mpos) X.env)] := by rfl) :
    PE X (.Call (.Name "list" p) [.Call (.Attribute o "values" apos) [] [] mpos] [] pos) (tListVals td) := by
  refine ⟨fun pins s σ H Q I h => ?_⟩
  refine wpAny_Call_Name_kw (ld_blt I hg hm (u := .type "list") (by first | rfl | decide +kernel) ?_ (by first | decide +kernel | decide) (by first | decide +kernel | decide))
  rw [hse]
  refine PySem.callWith_type1 (wpAny_Call_method0_late hbase hline (thn (hd.run pins s σ H _ I h) fun v s1 ⟨x, H1, I1, r1, a, kvs, ex, ha, q⟩ => ?_))
  subst ex
  obtain rfl : v = Value.ref a := r1
  obtain ⟨z, hsys, vs, rel, dof⟩ := dk_of I1.hok ha
  obtain ⟨ep, dat⟩ := dof.dictAt
  have dat' := dat
  obtain ⟨ob, es, ho, ex, hdat,
        hko, hpr, hnd⟩ := dat'
  refine ⟨"dict", "dict.values", PySem.F.plainAttrs_dict, PySem.F.slot_dict_values, PySem.F.type_dict_values, ⟨ob, ho, ex.1⟩, fun b e => ?_, Calls.callWith_builtin rfl (PySem.evalArgs_none ?_)⟩
  · cases e
    exact ⟨ob, ho, ex.2.1⟩
  refine call_meetsIn PySem.F.slot_dict_values ⟨ob, ho, ex.1⟩ PySem.F.entry_dict_values (PySem.F.args_dict_values_1 _) (meets_dict_values (mixKind X.prog X.w) a hsys) ⟨⟨vs, dof⟩, ?_⟩
  have k1 : ∀ b u, s1.heap.get? b = some u →
      (s1.heap.push { cls := .type "dict_values", data := .fields #[.ref a] }).get? b = some u :=
    fun b u e => Heap.get?_push_of_some _ e
  have dat1 :
      (s1.heap.push { cls := .type "dict_values", data := .fields #[.ref a] }).DictAt (mixKind X.prog X.w) a vs ep :=
    dat.keep k1
  have hlv : vs.length = kvs.length := (KV.length rel).symm
  refine PySem.W.kdl_call (PySem.W.kdl_values (knd := mixKind X.prog X.w) (d := a) (r := s1.heap.objs.size) (kvs := vs) (ep := ep)) (I.ok.hd hc) ⟨⟨_, Heap.get?_push_size _ rfl, rfl, rfl⟩, dat1⟩ (by rw [hlv]; exact z) fun h' tk acc c' hk hD hacc => ?_
  have I2 := I1.kept (t' := s1.toks) k1
  have hv : Vals (kvs.map fun kv => kv.2) acc.toList := vals_by_at _ _ (by rw [Array.length_toList, List.length_map, ← hlv]; exact hacc.1) fun i x u e1 e2 => by
    obtain ⟨k, hk2⟩ := hacc.2 i u (by rw [← Array.getElem?_toList]; exact e2)
    obtain ⟨y, h1, h2⟩ := KV.at' rel hk2
    rw [List.getElem?_map, h1] at e1
    cases e1
    exact h2
  refine ⟨.ref _, upd H1 _ (.lst (kvs.map fun kv => kv.2)), I2.laid (t' := tk) hk (Nat.le_refl _) ⟨by rw [List.length_map]; exact z, acc.toList, c', hv, by rw [Array.toArray_toList]; exact hD⟩, rfl, q _ (I2.hok.fresh (Nat.le_refl _))⟩
end
end L2

namespace L2
open PySem PySem.Spec PyProof.Rows
/-! own rules: min(t) of a tuple of whole numbers; sorted(set(l)) of a list of whole numbers -/
def rMinT (K : PySem.W.Frag) : List V → Hp → VK → Prop := fun vs H Q => ∃ (a : Addr) (ns : List Int), vs = [V.ref a] ∧ SqT K H a (ns.map V.int) ∧ 0 < ns.length ∧ ∀ m, m ∈ ns → (∀ y, y ∈ ns → m ≤ y) → Q (.int m) H
section
variable {P : Program} {w : World} {A : Around}
      {E : Value → Shared → Prop} {s : Shared}
theorem least_tup {Q : Value → Shared → Prop} {l : Addr} {its : List Value} {ns : List Int} (hh : A.handled = none) (hl : s.heap.IsTuple l its.toArray) (hi : IntsAre its ns) (hne : 0 < ns.length)
    (h : ∀ h' tk M t', (∀ b o, s.heap.get? b = some o → h'.get? b = some o) → M ∈ ns → (∀ a, a ∈ ns → M ≤ a) → Q (.int M t') { s with heap := h', toks := tk }) : wpAny (model P w) A (call (.builtin "min") [.ref l]) Q E s := by
  have lt : l < s.heap.objs.size := by
    obtain ⟨o, e, _⟩ := hl
    exact Heap.lt_size e
  obtain ⟨xs, e⟩ := hi.allInts.items
  have nn : (xs.toList.map (·.1)) = ns := by
    have h1 : numsOf (intItems xs).toList = ns := by
      rw [← e]
      exact hi.numsOf
    rw [nums_intItems] at h1
    exact h1
  rw [e] at hl
  have pos : 0 < xs.size := by rw [← nn] at hne; simpa using hne
  refine call_min_walk (wpAny_pyIter_tuple hl ⟨_, _, _, _, _, _, _, rfl, Walks.tuple (A := A.in1) hh _ l (Nat.ne_of_lt lt) (intItems xs), ⟨⟨_, Heap.get?_push_size _ rfl, rfl, rfl⟩, hl.push _⟩, fun b hb => ?_, by simpa [intItems] using pos,
    CmpOf.ints_lt (numAt xs) (fun _ _ => intItems_at), fun v h' tk hP hk => ?_⟩)
  · show b < (s.heap.push _).objs.size
    rw [Heap.size_push]
    rcases List.mem_cons.mp hb with rfl | hb
    · exact Nat.lt_succ_self _
    · rw [List.mem_singleton.mp hb]
      exact Nat.lt_succ_of_lt lt
  · have hv : (intItems xs)[argBest (fun i j => decide (numAt xs i < numAt xs j)) (xs.size - 1)]? = some v := by simpa [intItems] using hP
    obtain ⟨t, rfl⟩ := intItems_at hv
    obtain ⟨b1, b2⟩ := argBest_lt (numAt xs) (xs.size - 1)
    refine h h' tk _ t (fun b o eo => hk b o (fun hm => ?_) (Heap.get?_push_of_some _ eo)) ?_ fun a ha => ?_
    · rw [List.mem_singleton] at hm
      exact absurd (hm ▸ Heap.lt_size eo) (Nat.lt_irrefl _)
    · rw [numAt_eq, ← nn]
      exact PySem.getD_mem (by rw [List.length_map, Array.length_toList]; omega)
    · rw [← nn] at ha
      obtain ⟨j, hj, rfl⟩ := mem_getD ha
      rw [List.length_map, Array.length_toList]
            at hj
      rw [← numAt_eq]
      exact b2 j (by omega)
end
theorem cr_minT {X : Cx} (hc : X.calm = true) : CallR X (.builtin "min") (rMinT X.K) := by
  rintro pins s σ H vs us Q I r ⟨a, ns, rfl, hs, hne, q⟩
  obtain ⟨its, rv, hl, _⟩ := I.tuple hs
  rw [Vals.ref1 r]
  exact least_tup (I.ok.hd hc) hl rv.ints hne fun h' tk m t' hk h1 h2 => ⟨.int _, H, I.kept hk, ⟨_, rfl⟩, q m h1 h2⟩
end L2

namespace L2
open PySem PySem.Spec PyProof.Rows
/-- an empty set as the model lays it -/
abbrev eset (w : World) : Obj := { cls := .type "set", dict := none, data := .set #[] 0 (.fresh 0 0 (!w.params.followText "set-order")) }
section
variable {P : Program} {w : World} {A : Around}
      {E : Value → Shared → Prop} {s : Shared}
set_option maxHeartbeats 8000000 in
/-- set(l), the order of its table known -/
theorem set_of_ints {l : Addr} {items : Array Value} (ns : List Int) {Q : Value → Shared → Prop} (hh : A.handled = none) (hl : s.heap.IsList l items) (hit : IntsAre items.toList ns) (hb : ns.length + 1 < scanBound)
    (h : ∀ (h' : Heap) (tk c : Nat), SetR w h' s.heap.objs.size (fun j => decide (j ∈ ns)) c → c ≤ ns.length → (∀ b o,
          s.heap.get? b = some o → h'.get? b = some o) → Q (.ref s.heap.objs.size) { s with heap := h', toks := tk }) :
    wpAny (model P w) A (call (.type
          "set") [.ref l]) Q E s := by
  have size : items.size = ns.length := by rw [← Array.length_toList]; exact IntsAre.length hit
  obtain ⟨c0, tl0, mro⟩ := F.called_set.mro
  have made := F.called_set.made
  have subs := F.called_set.sub
  refine wpAny_call (codeAny_of_tree ?_)
  show wpAny _ _ (callAny
        (.type "set") _) _ _ _
  refine wpAny_pure ⟨Code.quiet_builtin _ (by decide +kernel),
    codeAny_builtin F.entry_type_call ?_⟩
  rw [Around.under_plain (weight_type_call_type
        "set" [.ref l] []) rfl]
  have nt := F.called_set.notType
  have cc := F.called_set.canCreate
  have tc := F.typeCall_set_1 (.ref l)
  repeat (any_goals (first
        | assumption | wp_step))

  refine codeAny_mono (code_set_led1 (.ref l) (E := E) (Q₁ := fun obj s₁ => obj = .ref s.heap.objs.size ∧ s₁ = { s with heap := s.heap.push (eset w) }) ⟨rfl, rfl⟩) fun r s₁ hr => ?_
  rcases r with e | fl
  · exact hr
  cases fl
  case ret obj =>
    obtain ⟨rfl, rfl⟩ := hr
    have at0 : (s.heap.push (eset w)).get? s.heap.objs.size = some (eset w) := Heap.get?_push_size _ rfl
    have ty0 : Shared.TypeIs { s with heap := s.heap.push (eset w) } (.ref s.heap.objs.size) "set" := ⟨_, at0, rfl⟩
    have li := F.called_set.init.lookup
    have bi := F.called_set.init.bind (.ref s.heap.objs.size)
    repeat (any_goals (first
          | assumption | wp_step))

    refine codeAny_mono (codeAny_call_builtin (R := wants (fun r s₂ => r = .none ∧ ∃ h' tk c, s₂ = { s with heap := h', toks := tk } ∧ SetR w h' s.heap.objs.size (fun j => decide (j ∈ ns)) c ∧ c ≤ ns.length ∧ (∀ b o, s.heap.get? b = some o → h'.get? b = some o)) E)
      F.called_set.init.plain F.entry_set_init (check_set_init_1 ty0 ?_)) fun r₂ s₂ hr₂ => ?_
    · have lS : l < s.heap.objs.size := by
        obtain ⟨o, e, _⟩ := hl
        exact Heap.lt_size e
      obtain ⟨⟨lc, ld, lda, lsl⟩, hol, q1, nl, q2⟩ := hl
      simp only at q1 q2
      subst q1
      subst q2
      have hol1 : (s.heap.push (eset w)).get? l = some { cls := .type "list", dict := ld, data := .seq items nl, slots := lsl } := Heap.get?_push_of_some _ hol
      have lists : (s.heap.push (eset w)).IsList l items := ⟨_, hol1, rfl, nl, rfl⟩
      have sub1 := F.sub_list_set
      have sub2 := F.sub_list_frozenset
      have nodict : (Value.type "list" == Value.type "dict") = false := by decide
      unfold Builtin.«set.__init__» noKeywords
            Builtin.Frozenset.updateFrom
      generalize hPI : pyIter = PI
      wp_walk
      subst hPI
      refine wpAny_pyIter_list lists ?_
      refine wpAny_bind (wpAny_runValue ?_)
      have none3 : A.in1.in1.in1.handled = none := by simp [hh]
      have sz1 : (s.heap.push (eset w)).objs.size = s.heap.objs.size + 1 := Heap.size_push ..
      have apart1 : l ≠ (s.heap.push (eset w)).objs.size := by
        rw [sz1]
        exact Nat.ne_of_lt (Nat.lt_succ_of_lt lS)
      have apart2 : s.heap.objs.size ∉ [(s.heap.push (eset w)).objs.size, l] := by
        rw [sz1]
        intro z
        rcases List.mem_cons.mp z with z | z
        · exact Nat.ne_of_lt (Nat.lt_succ_self _) z
        · exact Nat.ne_of_gt lS (List.mem_singleton.mp z)
      have itv : ∀ (i : Nat) (v : Value), items[i]? = some v → ∃ k t, ns[i]? = some k ∧ v = .int k t := fun i v hv => by
        have hi : i < ns.length := by
          rw [← size]
          exact (Array.getElem?_eq_some_iff.mp hv).1
        have hv2 : items.toList[i]? = some v := by
          rw [Array.getElem?_toList]
          exact hv
        obtain ⟨t, e⟩ := PyProof.Rows.IntsAre.int_at hit i v hv2
        have en : ns.getD i 0 = ns[i] := by rw [List.getD_eq_getElem?_getD, List.getElem?_eq_getElem hi]; rfl
        exact ⟨ns[i], t, List.getElem?_eq_getElem hi, by rw [e, en]⟩
      refine set_update_ints ((Walks.list none3 _ l apart1 items).toS) s.heap.objs.size apart2 ns size hb itv (items.size - 0) 0 _ (by omega) (Nat.zero_le _)
        ⟨⟨_, Heap.get?_push_size _ rfl, rfl, rfl⟩, (lists.push _)⟩ ⟨0, Nat.le_refl 0, setR_new_at (Heap.get?_push_of_some _ at0)⟩ ?_
      intro s' c' mv hc' hS'
      obtain ⟨h', g2, d', tk', os'⟩ := s'
      obtain rfl : g2 = s.gens := mv.gens
      obtain rfl : d' = s.drawn := mv.drawn
      obtain rfl : os' = s.os := mv.os
      show wpAny _ _ _ _ _ _
      refine wpAny_pure ?_
      show wpAny _ _ (ret Value.none) _ _ _
      rw [size] at hc'
      refine wpAny_pure ⟨rfl, h', tk', c',
            rfl, hS', hc', fun b o e => ?_⟩
      have lb : b < s.heap.objs.size := Heap.lt_size e
      refine mv.heap b o (fun z => ?_) (Heap.get?_push_of_some _ (Heap.get?_push_of_some _ e))
      rcases List.mem_cons.mp z with z | z
      · exact Nat.ne_of_lt lb z
      · rw [List.mem_singleton, sz1] at z
        exact Nat.ne_of_lt (Nat.lt_succ_of_lt lb) z
    · rcases r₂ with e | fl₂
      · exact hr₂
      cases fl₂
      case ret r =>
        obtain ⟨rfl, h', tk, c, rfl, k1, k2, k3⟩ := hr₂
        repeat (any_goals (first
              | assumption | wp_step))
        exact h _ _ _ k1 k2 k3
      all_goals exact hr₂.elim
  all_goals exact hr.elim
end
/-- sorted(set(l)), l whole numbers -/
def tSortedSet (K : PySem.W.Frag) (ta : TE) : TE := fun σ H Q => ta σ H fun x H1 => ∃ (l : Addr) (ns : List Int), x = V.ref l ∧ SqL K H1 l (ns.map V.int) ∧ ns.length < 64 ∧ ∀ (ms : List Int) (p : Addr), ms.Pairwise (· < ·) → (∀ k, k ∈ ms ↔ k ∈ ns) → H1 p = none → Q (.ref p) (upd H1 p (.lst (ms.map V.int)))
theorem pe_sortedSet {X : Cx} {a : Expr} {ta : TE} {p p2 q pos : Pos} (hc : X.calm = true) (gl : Gl X "sorted") (ml : X.mg "sorted" = none) (gs : Gl X "set") (ms : X.mg "set" = none) (ha : PE X a ta)
    (one : starEach [a] X.env = (false, eval a X.env) :: starEach [] X.env := by rfl) : PE X (.Call (.Name "sorted" p) [.Call (.Name "set" p2) [a] [] q] [] pos) (tSortedSet X.K ta) := by
  constructor
  intro pins s σ H Q I h
  refine Call_ (ld_blt I gl ml (u := .builtin "sorted") (by decide +kernel) (PyProof.Rows.callWith_builtin1 (PyProof.Rows.args_cons ?_ rfl) rfl rfl))
  refine Call_ (ld_blt I gs ms PyProof.Rows.boot_set (PyProof.Rows.callWith_type1 (PyProof.Rows.args_cons (thn (ha.run pins s σ H _ I h) ?_) one) one rfl))
  rintro v s1 ⟨x, H1, I1, rx, l, ns, rfl, seq, few, z⟩
  obtain rfl : v = Value.ref l := rx
  refine PyProof.Rows.args_nil ?_
  obtain ⟨its, rv, at_l, _⟩ := I1.list seq
  refine set_of_ints ns (I1.ok.hd hc) at_l.isList (intsAre_of rv) (by unfold scanBound; omega) fun h' tk c R hc' keep => ?_
  refine PyProof.Rows.args_nil ?_
  have I2 : Inv X pins σ H1 { s1 with heap := h', toks := tk } := I1.kept fun b o e => keep b o e
  refine sorted_set R (I1.ok.hd hc) (by omega) fun s' p out c2 ms2 k1 k2 k3 hp hL hi lt mem len => ?_
  have short : (ms2.map V.int).length ≤ sizeLine := by
    rw [List.length_map, len, sizeLine_eq]
    omega
  have J : Inv X pins σ (upd H1 p (.lst (ms2.map V.int))) { s1 with heap := s'.heap, gens := s'.gens, drawn := s'.drawn, toks := s'.toks } :=
    Inv.call (s := { s1 with heap := h', toks := tk }) I2 (ch := []) (Un.laid k1 hp (I2.hok.fresh hp)) (I2.hok.laid k1 hp ⟨short, out.toList, c2, vals_of_ints hi, hL⟩) (by rw [k2]; exact I2.bare) (fun _ e => nomatch e)
  have same : s' = { s1 with heap := s'.heap, gens := s'.gens, drawn := s'.drawn, toks := s'.toks } := by
    obtain ⟨_, _, _, _, _⟩ := s'
    obtain ⟨_, _, _, _, _⟩ := s1
    cases k3
    rfl
  rw [same]
  exact ⟨.ref p, _, J, rfl, z ms2 p lt (fun k => by rw [mem k, decide_eq_true_eq]) (I2.hok.fresh hp)⟩
end L2

namespace L2
open PySem PySem.Spec PyProof.Rows
/-! own rule: sorted(t) of a tuple of whole numbers -/
section
variable {P : Program} {w : World} {A : Around}
      {E : Value → Shared → Prop} {s : Shared}
theorem sorted_of_tup {l : Addr} {vs : List Value} {ns : List Int} {Q : Value → Shared → Prop} (hl : s.heap.IsTuple l vs.toArray) (hi : IntsAre vs ns) (few : ns.length < 64)
    (hQ : ∀ h' p (out : Array Value) (c : Nat) (ms : List Int), (∀ b o, s.heap.get? b = some o → h'.get? b = some o) → s.heap.get? p = none → h'.get? p = some (seqObj "list" out c) → IntsAre out.toList ms → ms.Perm ns → ms.Pairwise (· ≤ ·) → Q (.ref p) { s with heap := h' }) :
    wpAny (model P w) A (call (.builtin "sorted") [.ref l]) Q E s := by
  have len : vs.length = ns.length := IntsAre.length hi
  have f64 : vs.length < 64 := by omega
  obtain ⟨o, ho, hc, n, hd⟩ := hl
  refine Calls.call_function_entry kind_sorted plain_sorted
        entry_sorted (args_sorted1 _) ?_
  unfold Builtin.«sorted»
  refine wpAny_bind (m := checkCount
        "sorted" 1 1 _) (wpAny_pure ?_)
  refine wpAny_bind (wpAny_collect_seq l (.inr rfl) ho hc hd (fun h1 k1 => ?_) (by rw [List.size_toArray, sizeLine_eq]; omega))
  refine wpAny_bind (wpAny_newList ?_ (by rw [sizeLine_eq]; show vs.length ≤ _; omega))
  have at1 : (h1.push (seqObj "list" vs.toArray 0)).get? h1.objs.size = some (seqObj "list" vs.toArray 0) := Heap.get?_push_size _ rfl
  refine wpAny_bind (wpAny_holding (wpAny_call_entry slot_list_sort ⟨_, at1, rfl⟩ entry_list_sort (list_sort_tree at1 hi f64 fun out ms a1 a2 a3 => ⟨_, rfl, ?_⟩) (args_list_sort _)))
  obtain ⟨c, hp⟩ := sortedHeap_at (vs := vs) (out := out) at1
  have above : s.heap.get? h1.objs.size = none := by
    cases e : s.heap.get? h1.objs.size with
    | none => rfl
    | some u => exact absurd (Heap.lt_size (k1 _ _ e)) (Nat.lt_irrefl _)
  refine wpAny_pure ⟨_, rfl, hQ _ h1.objs.size out c ms (fun b u e => ?_) above hp a1 a2 a3⟩
  have e1 := k1 b u e
  have lb := Heap.lt_size e1
  rw [sortedHeap_old (Nat.ne_of_lt lb) (by rw [size_push']; exact Nat.lt_succ_of_lt lb)]
  exact Heap.get?_push_of_some _ e1
end
def rSortTup (K : PySem.W.Frag) : List V → Hp → VK → Prop := fun vs H Q => ∃ (a : Addr) (ns : List Int), vs = [V.ref a] ∧ SqT K H a (ns.map V.int) ∧ ns.length < 64 ∧ ∀ (ms : List Int) (p : Addr), ms.Perm ns → ms.Pairwise (· ≤ ·) → H p = none → Q (.ref p) (upd H p (.lst (ms.map V.int)))
theorem cr_sortTup {X : Cx} (hc : X.calm = true) : CallR X (.builtin "sorted") (rSortTup X.K) := by
  rintro pins s σ H vs us Q I r ⟨a, ns, rfl, hs, few, q⟩
  obtain ⟨its, rv, hl, _⟩ := I.tuple hs
  rw [Vals.ref1 r]
  refine sorted_of_tup hl rv.ints few fun h' p out c ms k up hp hi pm pw => ?_
  have short : (ms.map V.int).length ≤ sizeLine := by
    rw [List.length_map, pm.length_eq, sizeLine_eq]
    omega
  exact ⟨.ref p, _, I.laidN (t' := s.toks) (o := .lst (ms.map V.int)) k up (I.hok.gone up) ⟨short, out.toList, c, vals_of_ints hi, hp⟩, rfl, q ms p pm pw (I.hok.gone up)⟩
end L2

namespace L2
open PySem PySem.Spec PyProof.Rows PySem.W
/-! own rule: sorted(l) of a list of tuples of any data -/
def rSortedD (K : PySem.W.Frag) : List V → Hp → VK → Prop := fun vs H Q => ∃ (a : Addr) (xs : List V) (ds : List PyData), vs = [V.ref a] ∧ SqL K H a xs ∧ DpAll K H xs ds ∧ AllAlike ds ∧ Sortable ds ∧ (∀ d ∈ ds, d.depth ≤ 60) ∧
  ∀ p, H p = none → Q (.ref p) (upd H p (.lst (((xs.zip ds).mergeSort (dataLe false Prod.snd)).map Prod.fst)))
theorem each_zip {X : Cx} {pins : List (Addr × Obj)} {σ : St} {H : Hp} {s : Shared} (I : Inv X pins σ H s) : ∀ (xs : List V) (ds : List PyData) (us : List Value), Vals xs us → DpAll X.K H xs ds →
    EachIs (fun (v : Value) (b : V × PyData) => RelV b.1 v) us (xs.zip ds) ∧ EachIs (fun (v : Value) (b : V × PyData) => ∃ as, Reads s.heap v b.2 as) us (xs.zip ds)
  | _, _, _, .nil, .nil => ⟨.nil, .nil⟩
  | _, _, _, .cons r rs, .cons d ds => by
    obtain ⟨h1, h2⟩ := each_zip I _ _ _ rs ds
    exact ⟨.cons r h1, .cons (Dp.reads I _ _ _ d r) h2⟩
theorem vals_of_each : ∀ {us : List Value} {bs : List (V × PyData)}, EachIs (fun (v : Value) (b : V × PyData) => RelV b.1 v) us bs → Vals (bs.map Prod.fst) us
  | _, _, .nil => .nil
  | _, _, .cons h t => .cons h (vals_of_each t)
theorem DpAll.len {K : PySem.W.Frag} {H : Hp} : ∀ {xs : List V} {ds : List PyData}, DpAll K H xs ds → xs.length = ds.length
  | _, _, .nil => rfl
  | _, _, .cons _ t => by rw [List.length_cons, List.length_cons, DpAll.len t]
theorem cr_sortedD {X : Cx} (hu : X.A.units + 64 < cLine) : CallR X (.builtin "sorted") (rSortedD X.K) := by
  rintro pins s σ H vs us Q I r ⟨a, xs, ds, rfl, hs, hd, al, so, dep, q⟩
  obtain ⟨its, rv, hl, few⟩ := I.list hs
  rw [Vals.ref1 r]
  obtain ⟨e1, e2⟩ := each_zip I xs ds its rv hd
  have ms : (xs.zip ds).map Prod.snd = ds := List.map_snd_zip (by rw [hd.len]; exact Nat.le_refl _)
  have zl : (xs.zip ds).length = xs.length := by rw [List.length_zip, hd.len, Nat.min_self]
  refine sorted_data (enc := Prod.snd) hl.isList e1 e2 (by rw [ms]; exact al) (by rw [ms]; exact so) (by rw [zl]; exact few) (fun b hb => ?_) fun out lo eo => ?_
  · have := dep b.2 (by rw [← ms]; exact List.mem_map.mpr ⟨b, hb, rfl⟩)
    omega
  · obtain ⟨c, at'⟩ := PyProof.Rows.sortedAll_at s.heap its (List.toArray out)
    have v := vals_of_each eo
    have short : ((((xs.zip ds).mergeSort (dataLe false Prod.snd)).map Prod.fst)).length ≤ sizeLine := by
      rw [List.length_map, List.length_mergeSort, zl]
      exact few
    exact ⟨.ref _, _, I.laid (t' := s.toks) (o := .lst (((xs.zip ds).mergeSort (dataLe false Prod.snd)).map Prod.fst)) (fun _ _ => PyProof.Rows.sortedAll_old) (Nat.le_succ _) ⟨short, out, c, v, at'⟩, rfl, q _ (I.hok.fresh (Nat.le_succ _))⟩
end L2

namespace K5
open PySem PySem.Spec PyProof.Rows L2
def spRepl (K : PySem.W.Frag) : Sp := fun vs H Q _ => ∃ (a : Addr) (L : List Nat) (k v : Nat), vs = [.ref a, .int (k : Int), .int (v : Int)] ∧ SqT K H a (nv L) ∧ k < L.length ∧ L.length ≤ 1000 ∧ ∀ (H' : Hp) (q : Addr), Same H H' → SqT K H' q (nv (L.set k v)) → Q (.ref q) H'
section
variable {P : Program} {w : World} {K : PySem.W.Frag}
      {mg : Str → Option Value} {base : Heap}
theorem ok_replaced (T : Bl mg) (D : Def K mg "replaced" s_replaced) : Cal P w K mg base "replaced" ["values", "index", "value"] 1 (spRepl K) := by
  refine D.ok sc_replaced (fun _ _ _ _ _ _ us hl => match us, hl with | [_, _, _], _ => rfl) (fun vs H Q E h => ?_) (fun f cdv A outer s0 H vs Q E hr h => ?_)
  · obtain ⟨a, L, k, v, rfl, _⟩ := h
    rfl
  obtain ⟨a, L, k, v, rfl, h2, v1, few, qn⟩ := h
  refine ⟨_, (pss_one (ps_ret (pe_op op_catA (pe_op op_catA (pe_slice sl_tup (pv 0) po_none (po_some (pv 1))) (pe_tup (pa_cons (pv 2) pa_nil))) (pe_slice sl_tup (pv 0) (po_some (pe_op op_add (pv 1) pe_int)) po_none)))), ?_⟩
  have sz4 : (4 : Nat) + 1000 ≤ sizeLine := Nat.le_of_lt (small3k (by decide))
  obtain ⟨c1, c2⟩ := cut_to v1
  obtain ⟨c3, c4⟩ := cut_from v1
  refine ⟨_, rfl, _, rfl, _, rfl, a, _, rfl, h2, c2, fun p1 np1 => ?_⟩
  rw [c1]
  have sa := Same.upd (o := .tup (nv (L.take k))) np1
  refine ⟨_, rfl, by show 1 ≤ sizeLine; decide, fun p2 np2 => ?_⟩
  have sb := sa.trans (Same.upd (o := .tup [.int (v : Int)]) np2)
  have hp1 : (upd (upd H p1 (.tup (nv (L.take k)))) p2 (.tup [.int (v : Int)])) p1 = some (.tup (nv (L.take k))) := by rw [upd_ne (ne_of_none upd_same np2), upd_same]
  refine catA_of (SqT.of hp1) (SqT.of upd_same) (by rw [nv_len, List.length_take, List.length_singleton]; omega) fun H4 p3 s4 h4 => ?_
  have sc := sb.trans s4
  refine ⟨_, rfl, _, rfl, _, _, rfl, rfl, _, rfl, a, _, rfl, sc.tup h2, c4, fun p4 np4 => ?_⟩
  rw [c3]
  have s5 := Same.upd (o := .tup (nv (L.drop (k + 1)))) np4
  refine catA_of (s5.tup h4) (SqT.of upd_same) (by rw [List.length_append, nv_len, List.length_take, List.length_singleton, nv_len, List.length_drop]; omega) fun H6 p5 s6 h6 => ?_
  rw [nv_cut _ _ _ v1] at h6
  exact qn _ p5 ((sc.trans s5).trans s6) h6
end
end K5

namespace K5
open PySem PySem.Spec PyProof.Rows L2 PySem.W
theorem in_pair (x a b : Int) : inV (.int x) [.int a, .int b] = (decide (x = a) || decide (x = b)) := by
  show ((a == x) || ((b == x) || false)) = _
  by_cases h1 : x = a
  · subst h1
    simp
  · by_cases h2 : x = b
    · subst h2
      simp
    · have e1 : (a == x) = false := by simpa using fun z => h1 z.symm
      have e2 : (b == x) = false := by simpa using fun z => h2 z.symm
      rw [e1, e2, decide_eq_false h1, decide_eq_false h2]
      rfl
theorem ite_var {σ : L2.St} {H : Hp} {Q : VK} {i j : Nat} {c : Bool} {v : V} (h1 : c = true → σ[i]? = some (some v)) (h2 : c = false → σ[j]? = some (some v)) (q : Q v H) : if c = true then tVar i σ H Q else tVar j σ H Q := by
  cases c with
  | true => exact iteT ⟨v, h1 rfl, q⟩
  | false => exact iteF ⟨v, h2 rfl, q⟩
/-- rooms before, door, person -/
abbrev Lm := List Nat × Nat × Nat
def oth (e : Nat × Nat) (r : Nat) : Nat := if r = e.1 then e.2 else e.1
/-- the move through door d, where it can have been the last one -/
def lmOf (e : Nat × Nat) (S : S2) (d p : Nat) : List Lm := if S.1.getD p 0 = e.1 ∨ S.1.getD p 0 = e.2 then [(S.1.set p (oth e (S.1.getD p 0)), d, p)] else []
def lms (ds : List (Nat × Nat)) (S : S2) : Nat → List Lm
  | 0 => []
  | k + 1 => lms ds S k ++ lmOf (ds.getD k (0, 0)) S k (S.2.getD k 0)
theorem lms_len (ds : List (Nat × Nat)) (S : S2) : ∀ k, (lms ds S k).length ≤ k
  | 0 => Nat.le_refl _
  | k + 1 => by
    have h := lms_len ds S k
    have h2 : (lmOf (ds.getD k (0, 0)) S k (S.2.getD k 0)).length ≤ 1 := by
      unfold lmOf
      split
      · exact Nat.le_refl _
      · exact Nat.zero_le _
    show (lms ds S k ++ lmOf (ds.getD k (0, 0)) S k (S.2.getD k 0)).length ≤ k + 1
    rw [List.length_append]
    omega
def dLm (x : Lm) : PyData := .tuple [.tuple (dIs x.1), .int (x.2.1 : Int), .int (x.2.2 : Int)]
def LmAt (K : PySem.W.Frag) (H : Hp) (ts : List Addr) (l : List Lm) : Prop := ts.length = l.length ∧ ∀ (i : Nat) (t : Addr) (x : Lm), ts[i]? = some t → l[i]? = some x → ∃ r : Addr, H t = some (.tup [.ref r, .int (x.2.1 : Int), .int (x.2.2 : Int)]) ∧ SqT K H r (nv x.1)
theorem LmAt.same {K H H' ts l} (h : LmAt K H ts l) (s : Same H H') : LmAt K H' ts l := ⟨h.1, fun i t x a b => by
  obtain ⟨r, h1, h2⟩ := h.2 i t x a b
  exact ⟨r, s _ _ h1, s.tup h2⟩⟩
theorem LmAt.app {K : PySem.W.Frag} {H : Hp} {ts : List Addr} {l : List Lm} {t r : Addr} {x : Lm} (h : LmAt K H ts l) (ht : H t = some (.tup [.ref r, .int (x.2.1 : Int), .int (x.2.2 : Int)])) (hr : SqT K H r (nv x.1)) : LmAt K H (ts ++ [t]) (l ++ [x]) := by
  refine ⟨by rw [List.length_append, List.length_append, h.1]; rfl, fun i a b e1 e2 => ?_⟩
  by_cases hi : i < ts.length
  · rw [List.getElem?_append_left hi] at e1
    rw [List.getElem?_append_left (by rw [← h.1]; exact hi)] at e2
    exact h.2 i a b e1 e2
  · rw [List.getElem?_append_right (by omega)] at e1
    rw [List.getElem?_append_right (by rw [← h.1]; omega), ← h.1] at e2
    generalize i - ts.length = j at e1 e2
    match j with
    | 0 =>
      cases e1
      cases e2
      exact ⟨r, ht, hr⟩
    | j + 1 => simp at e1
theorem LmAt.but {K H H' p xs ts l} (h : LmAt K H ts l) (hp : H p = some (.lst xs)) (s : But p H H') : LmAt K H' ts l := ⟨h.1, fun i t x a b => by
  obtain ⟨r, h1, h2⟩ := h.2 i t x a b
  exact ⟨r, s _ _ (ne_lt hp h1) h1, s.tup hp h2⟩⟩
/-- in order -/
def Srt (l : List Lm) : Prop := l.Pairwise fun x y => dataLe false dLm x y = true
def spLast (K : PySem.W.Frag) : Sp := fun vs H Q _ => ∃ (a s : Addr) (ds : List (Nat × Nat)) (n : Nat) (S : S2), vs = [.ref a, .ref s] ∧ HouseAt K H a ds ∧ Tree n ds ∧ n ≤ 1000 ∧ StateAt K H s S ∧ StOk n ds S ∧
  ∀ (H' : Hp) (q : Addr) (ts : List Addr) (l : List Lm), Same H H' → H q = none → H' q = some (.lst (ts.map V.ref)) → LmAt K H' ts l → l.Perm (lms ds S ds.length) → Srt l → Q (.ref q) H'
section
variable {P : Program} {w : World} {K : PySem.W.Frag}
      {mg : Str → Option Value} {base : Heap}
theorem dLm_depth (x : Lm) : (dLm x).depth ≤ 60 := by
  have := dIs_depth x.1
  simp only [dLm, PyData.depth, PyData.depthAll]
  omega
theorem dp_lms {H : Hp} : ∀ (ts : List Addr) (l : List Lm), LmAt K H ts l → DpAll K H (ts.map V.ref) (l.map dLm)
  | [], [], _ => .nil
  | [], _ :: _, h => by have := h.1; simp at this
  | _ :: _, [], h => by have := h.1; simp at this
  | t :: ts, x :: l, h => by
    obtain ⟨r, h1, h2⟩ := h.2 0 t x rfl rfl
    exact .cons (.tup (SqT.of h1) (.cons (.tup h2 (dp_is _)) (.cons (.int _) (.cons (.int _) .nil)))) (dp_lms ts l ⟨by have := h.1; simpa using this, fun i t' x' a b => h.2 (i + 1) t' x' a b⟩)
theorem alike_is : ∀ l m : List Nat, alikeAll (dIs l) (dIs m) = true
  | [], _ => by simp [dIs, alikeAll]
  | _ :: _, [] => by simp [dIs, alikeAll]
  | x :: l, y :: m => by
    have ih := alike_is l m
    unfold dIs at ih ⊢
    simp only [List.map_cons, alikeAll, alike, ih, Bool.and_self]
theorem alike_lm (x y : Lm) : alike (dLm x) (dLm y) = true := by
  simp only [dLm, alike, alikeAll, alike_is, Bool.and_self]
theorem ok_last_moves (T : Bl mg) (D : Def K mg "last_moves" s_last_moves) (C_replaced : Cal P w K mg base "replaced" ["values", "index", "value"] 1 (spRepl K)) : Cal P w K mg base "last_moves" ["house", "state"] 2 (spLast K) := by
  refine D.ok sc_last_moves (fun _ _ _ _ _ _ us hl => match us, hl with | [_, _], _ => rfl) (fun vs H Q E h => ?_) (fun f cdv A outer s0 H vs Q E hr h => ?_)
  · obtain ⟨a, s, ds, n, S, rfl, _⟩ := h
    rfl
  obtain ⟨a, s, ds, n, S, rfl, hH, tree, hn, st, ok, q⟩ := h
  obtain ⟨rs, hrs, hlen, hds⟩ := id hH
  obtain ⟨r, b, h1, h2, h3⟩ := id st
  have hdn := tree.len
  have few := ok.few
  obtain ⟨f_replaced, fd_replaced, g_replaced, k_replaced, b_replaced, G_replaced⟩ := C_replaced
  refine ⟨_, (pss_cons (ps_asg (pv 1) (pg_tup (n := 2) rfl (pgs_cons (pg_name (i := 2) sc_last_moves.nd rfl (.inl rfl)) (pgs_cons (pg_name (i := 3) sc_last_moves.nd rfl (.inl rfl)) pgs_nil))))
    (pss_cons (ps_set (i := 4) sc_last_moves.nd rfl (.inl rfl) (pe_lst pa_nil))
    (pss_cons (ps_for PassesOwn.never rfl (pi_enumT (by rfl) T.enumerate (pa_cons (pv 0) pa_nil)) (pg_tup (n := 2) rfl (pgs_cons (pg_name (i := 5) sc_last_moves.nd rfl (.inl rfl)) (pgs_cons (pg_tup (n := 2) rfl (pgs_cons (pg_name (i := 6) sc_last_moves.nd rfl (.inl rfl)) (pgs_cons (pg_name (i := 7) sc_last_moves.nd rfl (.inl rfl)) pgs_nil))) pgs_nil)))
    (pss_cons (ps_set (i := 8) sc_last_moves.nd rfl (.inl rfl) (pe_ix ix_tup (pv 3) (pv 5) (fun _ _ => rfl)))
    (pss_one (ps_if (pt_cmpR op_in_seq (pe_ix ix_tup (pv 2) (pv 8) (fun _ _ => rfl)) (pe_tup (pa_cons (pv 6) (pa_cons (pv 7) pa_nil))) (by rfl)) (pss_cons (ps_set (i := 9) sc_last_moves.nd rfl (.inl rfl) (pe_ifExp (pt_cmpR op_eq (pe_ix ix_tup (pv 2) (pv 8) (fun _ _ => rfl)) (pv 6) (nomark _)) (pv 7) (pv 6)))
    (pss_one (ps_expr (pe_bm PySem.F.plainAttrs_list PySem.F.slot_list_append PySem.F.type_list_append mt_append (pv 4) (pa_cons (pe_tup (pa_cons (pe_call G_replaced (hr.mono (by decide)) (by rfl) g_replaced k_replaced b_replaced .nil pass0 (pa_cons (pv 2) (pa_cons (pv 8) (pa_cons (pv 9) pa_nil)))) (pa_cons (pv 5) (pa_cons (pv 8) pa_nil)))) pa_nil))))) pss_nil))))
    (pss_one (ps_ret (pe_callB (cr_sortedD hr.units) (by rfl) T.sorted (by decide +kernel) (pa_cons (pv 4) pa_nil))))))), ?_⟩
  refine ⟨_, rfl, _, _, rfl, h1, rfl, _, _, rfl, _, _, rfl, rfl, ?_⟩
  refine ⟨Nat.zero_le _, fun pm npm => ?_⟩
  refine ⟨_, rfl, a, _, rfl, (Same.upd npm).tup hrs, ?_⟩
  refine for_it (walk_enumT (K := K) (a := a) (xs := rs.map V.ref)) (fun k σ H2 => ∃ (ts : List Addr) (y5 y6 y7 y8 y9 : Option V), σ = [some (.ref a), some (.ref s), some (.ref r), some (.ref b), some (.ref pm), y5, y6, y7, y8, y9] ∧ Same H H2 ∧ H2 pm = some (.lst (ts.map V.ref)) ∧ LmAt K H2 ts (lms ds S k))
    ⟨[], _, _, _, _, _, rfl, Same.upd npm, upd_same, rfl, fun i t x e => by simp at e⟩ (fun i σ H1 _ ⟨_, _, _, _, _, _, _, sm, _⟩ => sm.tup hrs) ?_ ?_
  · rintro k x σ H2 H3 hk ⟨ts, y5, y6, y7, y8, y9, rfl, s2, hpm, la⟩ ⟨t, x1, x2, rfl, nt, rfl, ex1, ex2⟩
    cases ex1
    have hk' : k < ds.length := by
      rw [List.length_map, hlen] at hk
      exact hk
    obtain ⟨e, he⟩ : ∃ e, ds[k]? = some e := get_of rfl hk'
    obtain ⟨r1, hr0⟩ : ∃ r, rs[k]? = some r := get_of hlen hk'
    have ex2' : V.ref r1 = x2 := by
      have ex2 : (rs.map V.ref)[k]? = some x2 := ex2
      rw [List.getElem?_map, hr0] at ex2
      exact Option.some.inj ex2
    subst ex2'
    obtain ⟨p, hp⟩ : ∃ p, S.2[k]? = some p := get_of ok.doors hk'
    have lp := ok.bars p (List.mem_of_getElem? hp)
    obtain ⟨rm, hrm⟩ : ∃ x, S.1[p]? = some x := get_of rfl lp
    have eg : ds.getD k (0, 0) = e := by rw [List.getD_eq_getElem?_getD, he]; rfl
    have ep : S.2.getD k 0 = p := by rw [List.getD_eq_getElem?_getD, hp]; rfl
    have er : S.1.getD p 0 = rm := by rw [List.getD_eq_getElem?_getD, hrm]; rfl
    have smt : Same H2 (upd H2 t (.tup [.int (k : Nat), .ref r1])) := Same.upd nt
    have s3 := s2.trans smt
    have hpm3 := smt _ _ hpm
    have la3 := la.same smt
    have nx : lms ds S (k + 1) = lms ds S k ++ lmOf e S k p := by
      show lms ds S k ++ lmOf (ds.getD k (0, 0)) S k (S.2.getD k 0) = _
      rw [eg, ep]
    refine ⟨t, _, rfl, SqT.of upd_same, rfl, _, _, rfl, _, _, rfl, ⟨r1, _, rfl, s3.tup (hds k r1 e hr0 he), rfl, _, _, rfl, _, _, rfl, rfl, rfl, ?_⟩⟩
    generalize upd H2 t (.tup [.int (k : Nat), .ref r1]) = H4 at s3 hpm3 la3
    refine ⟨_, rfl, _, rfl, b, _, _, _, rfl, rfl, s3.tup h3, nv_at hp, ?_⟩
    refine ⟨_, rfl, _, rfl, r, _, _, _, rfl, rfl, s3.tup h2, nv_at hrm, _, rfl, _, rfl, by show 2 ≤ sizeLine; decide, fun t2 nt2 => ?_⟩
    have st2 := Same.upd (o := .tup [.int (e.1 : Int), .int (e.2 : Int)]) nt2
    have s5 := s3.trans st2
    have hpm5 := st2 _ _ hpm3
    have la5 := la3.same st2
    refine ⟨t2, _, rfl, .inr (SqT.of upd_same), rfl, rfl, _, rfl, ?_⟩
    generalize upd H4 t2 (.tup [.int (e.1 : Int), .int (e.2 : Int)]) = H5 at s5 hpm5 la5
    show if inV (V.int (rm : Int)) [.int (e.1 : Int), .int (e.2 : Int)] = true then _ else _
    have din : inV (V.int (rm : Int)) [.int (e.1 : Int), .int (e.2 : Int)] = decide (rm = e.1 ∨ rm = e.2) := by
      rw [in_pair, ← Bool.decide_or, decide_eq_decide]
      omega
    rw [din]
    by_cases near : rm = e.1 ∨ rm = e.2
    case neg =>
      rw [decide_eq_false near]
      refine iteF ⟨ts, _, _, _, _, _, rfl, s5, hpm5, ?_⟩
      have : lmOf e S k p = [] := by
        unfold lmOf
        rw [er, if_neg near]
      rw [nx, this, List.append_nil]
      exact la5
    rw [decide_eq_true near]
    have lm1 : lmOf e S k p = [(S.1.set p (oth e rm), k, p)] := by
      unfold lmOf
      rw [er, if_pos near]
    refine iteT ⟨_, rfl, _, rfl, r, _, _, _, rfl, rfl, s5.tup h2, nv_at hrm, _, rfl, rfl, _, rfl, ?_⟩
    refine ite_var (v := V.int ((oth e rm : Nat) : Int)) (fun c => ?_) (fun c => ?_) ?_
    · have c : rm = e.1 := by
        have := V.int.inj (of_decide_eq_true c)
        omega
      show some (some (V.int (e.2 : Int))) = _
      unfold oth
      rw [if_pos c]
    · have c : ¬ rm = e.1 := fun z => by
        have := of_decide_eq_false c
        exact this (by rw [z])
      show some (some (V.int (e.1 : Int))) = _
      unfold oth
      rw [if_neg c]
    refine ⟨_, rfl, .inl ⟨rfl, _, SqL.of hpm5⟩, _, rfl, _, rfl, _, rfl, r, S.1, p, oth e rm, rfl, s5.tup h2, lp, by omega, fun H6 q6 s6 h6 => ⟨_, rfl, _, rfl, by show 3 ≤ sizeLine; decide, fun t4 nt4 => ?_⟩⟩
    have st4 := Same.upd (o := .tup [.ref q6, .int (k : Int), .int (p : Int)]) nt4
    have s7 := (s5.trans s6).trans st4
    have hpm7 := st4 _ _ (s6 _ _ hpm5)
    have la7 := ((la5.same s6).same st4).app (x := (S.1.set p (oth e rm), k, p)) upd_same (st4.tup h6)
    generalize upd H6 t4 (.tup [.ref q6, .int (k : Int), .int (p : Int)]) = H7 at s7 hpm7 la7
    have ll := lms_len ds S k
    have lal := la.1
    refine ⟨pm, _, _, rfl, rfl, hpm7, by rw [List.length_map]; exact small1000 (by omega), ?_⟩
    have btp : But pm H7 (upd H7 pm (.lst (ts.map V.ref ++ [.ref t4]))) := But.upd (But.refl _ _) _
    refine ⟨ts ++ [t4], _, _, _, _, _, rfl, s7.at npm, by rw [upd_same, List.map_append]; rfl, ?_⟩
    rw [nx, lm1]
    exact la7.but hpm7 btp
  · rintro σ H2 ⟨ts, y5, y6, y7, y8, y9, rfl, s2, hpm, la⟩
    rw [List.length_map, hlen] at la
    refine ⟨_, rfl, pm, ts.map V.ref, (lms ds S ds.length).map dLm, rfl, SqL.of hpm, dp_lms ts _ la, ?_, .inl ?_, ?_, fun p np => ?_⟩
    · intro d hd d' hd'
      obtain ⟨x, _, rfl⟩ := List.mem_map.mp hd
      obtain ⟨y, _, rfl⟩ := List.mem_map.mp hd'
      exact alike_lm x y
    · intro d hd
      obtain ⟨x, _, rfl⟩ := List.mem_map.mp hd
      exact ⟨_, _, rfl⟩
    · intro d hd
      obtain ⟨x, _, rfl⟩ := List.mem_map.mp hd
      exact dLm_depth x
    · rw [List.zip_map]
      obtain ⟨zl, ez, pz⟩ := perm_of_map _ _ _ (List.mergeSort_perm (List.map (Prod.map V.ref dLm) (ts.zip (lms ds S ds.length))) (dataLe false Prod.snd))
      have pw := sort_pairwise (sortLe_total (listOrd itemOrd) false fun b : V × PyData => keyToks b.2) (List.map (Prod.map V.ref dLm) (ts.zip (lms ds S ds.length)))
      have pw2 : ((List.map (Prod.map V.ref dLm) (ts.zip (lms ds S ds.length))).mergeSort (dataLe false Prod.snd)).Pairwise fun a b => dataLe false Prod.snd a b = true := pw
      rw [ez] at pw2 ⊢
      rw [List.pairwise_map] at pw2
      have sp := Same.upd (o := .lst ((zl.map (Prod.map V.ref dLm)).map Prod.fst)) np
      have lz := la.1
      refine q _ p (zl.map Prod.fst) (zl.map Prod.snd) (s2.trans sp) (s2.free np) ?_ ⟨by rw [List.length_map, List.length_map], fun i t x e1 e2 => ?_⟩ ?_ ?_
      · rw [upd_same, List.map_map, List.map_map]
        rfl
      · rw [List.getElem?_map] at e1 e2
        cases ei : zl[i]? with
        | none => rw [ei] at e1; cases e1
        | some z =>
          rw [ei] at e1 e2
          cases e1
          cases e2
          obtain ⟨j, hj⟩ := List.mem_iff_getElem?.mp (pz.mem_iff.mp (List.mem_of_getElem? ei))
          obtain ⟨j1, j2⟩ := List.getElem?_zip_eq_some.mp hj
          obtain ⟨r2, a1, a2⟩ := la.2 j z.1 z.2 j1 j2
          exact ⟨r2, sp _ _ a1, sp.tup a2⟩
      · have := pz.map Prod.snd
        rwa [List.map_snd_zip (by rw [lz]; exact Nat.le_refl _)] at this
      · unfold Srt
        rw [List.pairwise_map]
        exact pw2
end
end K5

namespace L2
open PySem PySem.Spec PyProof.Rows
/-- how many have been met: all, where none is met twice -/
theorem met_len (f : Nat → Int) : ∀ i, (((List.range i).map f).Nodup → (firstMet f i).length = i) ∧ (¬ ((List.range i).map f).Nodup → (firstMet f i).length < i)
  | 0 => ⟨fun _ => rfl, fun h => absurd (by simp) h⟩
  | i + 1 => by
    obtain ⟨h1, h2⟩ := met_len f i
    have le := firstMet_length_le f i
    have key : (firstMet f i).any (· == f i) = ((List.range i).map f).any (· == f i) := firstMet_any f i (f i)
    rw [firstMet_succ, List.range_succ, List.map_append]
    unfold step_dedup
    rw [key]
    by_cases c : ((List.range i).map f).any (· == f i) = true
    · rw [if_pos c]
      obtain ⟨x, hx, e⟩ := List.any_eq_true.mp c
      have e : x = f i := eq_of_beq e
      subst e
      refine ⟨fun nd => ?_, fun _ => by omega⟩
      obtain ⟨_, _, z⟩ := List.nodup_append.mp nd
      exact absurd rfl (z _ hx _ (by simp))
    · rw [if_neg c, List.length_append, List.length_singleton]
      have nm : f i ∉ (List.range i).map f := fun hx => c (List.any_eq_true.mpr ⟨f i, hx, beq_self_eq_true _⟩)
      refine ⟨fun nd => ?_, fun nd => ?_⟩
      · rw [h1 (List.nodup_append.mp nd).1]
      · have := h2 fun y => nd (List.nodup_append.mpr ⟨y, by simp, fun a ha b hb => by
          simp only [List.map_cons, List.map_nil,
                List.mem_singleton] at hb
          rintro rfl
          exact nm (hb ▸ ha)⟩)
        omega
/-- len(set(xs)), xs whole numbers -/
def tLenSetA (K : PySem.W.Frag) (ta : TE) : TE := fun σ H Q => ta σ H fun x H1 => ∃ (l : Addr) (ns : List Int), x = V.ref l ∧ SqL K H1 l (ns.map V.int) ∧ ns.length + 1 < scanBound ∧ ∀ n : Nat, (ns.Nodup → n = ns.length) → (¬ ns.Nodup → n < ns.length) → Q (.int (n : Int)) H1
theorem pe_lenSetA {X : Cx} {a : Expr} {ta : TE} {p p2 q pos : Pos} (hc : X.calm = true) (gl : Gl X "len") (ml : X.mg "len" = none) (gs : Gl X "set") (ms : X.mg "set" = none) (ha : PE X a ta)
    (one : starEach [a] X.env = (false, eval a X.env) :: starEach [] X.env := by rfl) : PE X (.Call (.Name "len" p) [.Call (.Name "set" p2) [a] [] q] [] pos) (tLenSetA X.K ta) := by
  constructor
  intro pins s σ H Q I h
  refine Call_ (ld_blt I gl ml PySem.boot_len (PyProof.Rows.callWith_builtin1 (PyProof.Rows.args_cons ?_ rfl) rfl rfl))
  refine Call_ (ld_blt I gs ms PyProof.Rows.boot_set (PyProof.Rows.callWith_type1 (PyProof.Rows.args_cons (thn (ha.run pins s σ H _ I h) ?_) one) one rfl))
  rintro v s1 ⟨x, H1, I1, rx, l, ns, rfl, seq, few, z⟩
  obtain rfl : v = Value.ref l := rx
  refine PyProof.Rows.args_nil ?_
  obtain ⟨its, rv, at_l, _⟩ := I1.list seq
  have len : its.length = ns.length := by rw [← rv.length, List.length_map]
  refine call_set_list (I1.ok.hd hc) at_l.isList (intsAre_of rv) (by rw [List.size_toArray, len]; exact few) fun h' tk made keep => ?_
  have sz : its.toArray.size = ns.length := by rw [List.size_toArray, len]
  rw [sz] at made
  have all : (List.range ns.length).map (fun i => ns.getD i 0) = ns := by
    apply List.ext_getElem?
    intro i
    rw [List.getElem?_map]
    by_cases y : i < ns.length
    · rw [List.getElem?_range y, List.getElem?_eq_getElem y]
      simp [List.getD_eq_getElem?_getD, List.getElem?_eq_getElem y]
    · rw [List.getElem?_eq_none (by simpa using Nat.le_of_not_lt y), List.getElem?_eq_none (Nat.le_of_not_lt y)]
      rfl
  obtain ⟨m1, m2⟩ := met_len (fun i => ns.getD i 0) ns.length
  rw [all] at m1 m2
  have bound := firstMet_length_le (fun i => ns.getD i 0) ns.length
  have small : scanBound ≤ 2 ^ 62 := by decide
  refine PyProof.Rows.args_nil ?_
  obtain ⟨o, es, ep, t, ho, ex, hd, _, _, _, hf, hn⟩ := made
  have I2 : Inv X pins σ H1 { s1 with heap := h', toks := tk } := I1.kept fun b o e => keep b o (Heap.lt_size e) e
  exact call_len_set ho ex hd hf (by rw [hn]; omega) ⟨.int _, H1, I2.tok _, ⟨_, by rw [hn]⟩, z _ m1 m2⟩
end L2

namespace L2
open PySem PySem.Spec PyProof.Rows
/-- f(c = .., b = .., a = ..): all by name, in the reverse order -/
def rev3 {α : Type} : List α → List α → List α
  | [], [c, b, a] => [a, b, c]
  | _, _ => []
theorem rev3_vals {vs zs : List V} {us ws : List Value} (r : Vals vs us) (q : Vals zs ws) : Vals (rev3 vs zs) (rev3 us ws) := by
  cases r with
  | nil =>
    cases q with
    | nil => exact .nil
    | cons h1 q =>
      cases q with
      | nil => exact .nil
      | cons h2 q =>
        cases q with
        | nil => exact .nil
        | cons h3 q =>
          cases q with
          | nil => exact .cons h3 (.cons h2 (.cons h1 .nil))
          | cons h4 q => exact .nil
  | cons h r => exact .nil
def rev4 {α : Type} : List α → List α → List α
  | [], [d, c, b, a] => [a, b, c, d]
  | _, _ => []
theorem rev4_vals {vs zs : List V} {us ws : List Value} (r : Vals vs us) (q : Vals zs ws) : Vals (rev4 vs zs) (rev4 us ws) := by
  cases r with
  | nil =>
    cases q with
    | nil => exact .nil
    | cons h1 q =>
      cases q with
      | nil => exact .nil
      | cons h2 q =>
        cases q with
        | nil => exact .nil
        | cons h3 q =>
          cases q with
          | nil => exact .nil
          | cons h4 q =>
            cases q with
            | nil => exact .cons h4 (.cons h3 (.cons h2 (.cons h1 .nil)))
            | cons h5 q => exact .nil
  | cons h r => exact .nil
/-- as Cal, and how a call by names binds -/
def CalK (P : Program) (w : World) (K : PySem.W.Frag) (mg : Str → Option Value) (base : Heap) (x : Str) (ps : List Str) (k : Nat) (sp : Sp) (ks : List Str) (g : List Value → List Value → List Value) (gV : List V → List V → List V) : Prop :=
  ∃ (f : Addr) (fd : FuncData), mg x = some (.ref f) ∧ PySem.W.keepIn K (.ref f) = true ∧ Binds K fd ps [] ∧ FnOk P w K mg base CX0 k f fd ps sp ∧ KBinds K fd ps ks g gV
theorem CalK.cal {P w K mg base x ps k sp ks g gV} (C : CalK P w K mg base x ps k sp ks g gV) : Cal P w K mg base x ps k sp := by
  obtain ⟨f, fd, a, b, c, d, _⟩ := C
  exact ⟨f, fd, a, b, c, d⟩
theorem Def.okK {P : Program} {w : World} {K : PySem.W.Frag} {mg : Str → Option Value} {base : Heap} {x : Str} {st : Stmt} {N ps ks : List Str} {k : Nat} {sp : Sp} {g : List Value → List Value → List Value} {gV : List V → List V → List V} (D : Def K mg x st) (S : FnScope N ps (defScope st))
    (hkb : ∀ (kV doc pm : Value) (an : Option Addr) (cdv ct : Value) (us ws : List Value), (g us ws).length = ps.length → bindArgs (PySem.W.fnOf x x (defArgs st) (defBody st) (defScope st) .none kV doc pm an cdv ct) ⟨us, ks.zip ws⟩ = pure (ps.zip (g us ws)))
    (hrel : ∀ {vs : List V} {us : List Value} {zs : List V} {ws : List Value}, Vals vs us → Vals zs ws → Vals (gV vs zs) (g us ws))
    (hb : ∀ (kV doc pm : Value) (an : Option Addr) (cdv ct : Value) (us : List Value), us.length = ps.length → bindArgs (PySem.W.fnOf x x (defArgs st) (defBody st) (defScope st) .none kV doc pm an cdv ct) ⟨us, []⟩ = pure (ps.zip us))
    (ar : ∀ vs H Q E, sp vs H Q E → vs.length = ps.length)
    (hbody : ∀ (f : Addr) (cdv : Value) (A : Around) (outer : List Env) (s : Shared) (H : Hp) (vs : List V) (Q : VK) (E : XK), Room k (A.deeper (envOfC x (defScope st) s.heap.objs.size f cdv)) → sp vs H Q E →
      ∃ t, PSs (cxOf CX0 P w K mg base N x (defScope st) f cdv A outer s H E).nox (defBody st) t ∧ t { nx := fun _ H' => Q .non H', rt := Q } (start N vs) H) : CalK P w K mg base x ps (k + 1) sp ks g gV := by
  obtain ⟨f, fd, F, m⟩ := D
  refine ⟨f, fd, m, F.kp, F.binds hb, F.ok S ar fun cdv A outer s H vs Q E hr h => hbody f cdv A outer s H vs Q E hr h, ?_, hrel⟩
  obtain ⟨oc, od, kV, doc, pm, an, cdv,
        ct, osl, rfl, lk, hcd⟩ := F.ex
  intro s us ws _ hl
  exact BindsTo.of_eq (hkb kV doc pm an cdv ct us ws hl)
section
variable {X : Cx} {CX : CXT} {k : Nat} {f : Addr} {fd : FuncData} {ps ks : List Str} {sp : Sp} {E : XK} {x : Str} {p pos : Pos} {kws : List Keyword} {tk : TA} {g : List Value → List Value → List Value} {gV : List V → List V → List V}
/-- f(k = v, ..), nothing by position -/
theorem pe_callK0 (F : FnOk X.prog X.w X.K X.mg X.base CX k f fd ps sp) (hr : Room k X.A) (hg : Gl X x) (hm : X.mg x = some (.ref f)) (hk : PySem.W.keepIn X.K (.ref f) = true) (hb : KBinds X.K fd ps ks g gV) (hx : Passes CX X E)
    (hkw : PK X kws tk) (hall : (backToKw pos (keywordEach kws X.env)).all (·.1.isSome) = true := by rfl) (hks : (backToKw pos (keywordEach kws X.env)).filterMap (·.1) = ks := by rfl)
    (hdb : (x == ("__debug__" : Str)) = false := by decide)
    (hpl : ((backTo pos (starEach [] X.env)).any (·.1) || (backToKw pos
          (keywordEach kws X.env)).any (·.1.isNone)) = false := by rfl) :
    PE X (.Call (.Name x p) [] kws pos) (tCallK sp gV E tNil tk) := by
  refine ⟨fun pins s σ H Q I h => ?_⟩
  refine wpAny_Call_Name_kw
        (ld_glob I hg hm ?_ hdb)
  have h : tk σ H (fun zs H2 => sp (gV [] zs) H2 Q E) := h
  refine PySem.W.callWith_KW0 (h₀ := X.base) I.ok.mod.kin hk hall (thn (hkw.run pos pins s σ H _ I h) fun ws s2 ⟨zs, H2, I2, rz, q2⟩ => ⟨I2.kIn, ?_⟩) hpl
  rw [hks]
  exact run_fnk (us := []) (vs := []) F hr hb hx I2 .nil rz q2
end
end L2

namespace L2
open PySem PySem.Spec PyProof.Rows
def rev2 {α : Type} : List α → List α → List α
  | [], [b, a] => [a, b]
  | _, _ => []
theorem rev2_vals {vs zs : List V} {us ws : List Value} (r : Vals vs us) (q : Vals zs ws) : Vals (rev2 vs zs) (rev2 us ws) := by
  cases r with
  | nil =>
    cases q with
    | nil => exact .nil
    | cons h1 q =>
      cases q with
      | nil => exact .nil
      | cons h2 q =>
        cases q with
        | nil => exact .cons h2 (.cons h1 .nil)
        | cons h3 q => exact .nil
  | cons h r => exact .nil
end L2

namespace K5
open PySem PySem.Spec PyProof.Rows L2 PySem.W
theorem toks_is : ∀ (l m : List Nat) (s t : List (Int ⊕ List Nat)), keyToksAll (dIs l) ++ s = keyToksAll (dIs m) ++ t → l = m ∧ s = t
  | [], [], s, t, h => by
    simp only [dIs, List.map_nil, keyToksAll, List.cons_append, List.nil_append, List.cons.injEq, true_and] at h
    exact ⟨rfl, h⟩
  | [], y :: m, s, t, h => by
    simp only [dIs, List.map_nil, List.map_cons, keyToksAll, List.cons_append, List.cons.injEq, Sum.inl.injEq] at h
    exact absurd h.1 (by decide)
  | x :: l, [], s, t, h => by
    simp only [dIs, List.map_nil, List.map_cons, keyToksAll, List.cons_append, List.cons.injEq, Sum.inl.injEq] at h
    exact absurd h.1 (by decide)
  | x :: l, y :: m, s, t, h => by
    have h2 : ((x : Int) = (y : Int)) ∧ keyToksAll (dIs l) ++ s = keyToksAll (dIs m) ++ t := by
      simp only [dIs, List.map_cons, keyToksAll, keyToks, List.cons_append, List.nil_append, List.cons.injEq, Sum.inl.injEq, true_and] at h
      exact h
    obtain ⟨a, b⟩ := toks_is l m s t h2.2
    exact ⟨by rw [a, show x = y by omega], b⟩
theorem toks_lm {x y : Lm} (h : keyToks (dLm x) = keyToks (dLm y)) : x = y := by
  obtain ⟨L, d, p⟩ := x
  obtain ⟨M, e, q⟩ := y
  simp only [dLm, keyToks, keyToksAll, List.cons.injEq, true_and] at h
  obtain ⟨a, b⟩ := toks_is L M _ _ h
  simp only [List.cons_append, List.nil_append, List.cons.injEq, Sum.inl.injEq, true_and, and_true] at b
  rw [a, show d = e by omega, show p = q by omega]
theorem le_anti {x y : Lm} (h1 : dataLe false dLm x y = true) (h2 : dataLe false dLm y x = true) : x = y := by
  refine toks_lm ((listOrd itemOrd).total _ _ ?_ ?_)
  · have h2 : (!(listOrd itemOrd).blt (keyToks (dLm x)) (keyToks (dLm y))) = true := h2
    simpa using h2
  · have h1 : (!(listOrd itemOrd).blt (keyToks (dLm y)) (keyToks (dLm x))) = true := h1
    simpa using h1
/-- one order only -/
theorem Srt.unique : ∀ {l m : List Lm}, l.Perm m → Srt l → Srt m → l = m
  | [], m, p, _, _ => p.symm.eq_nil.symm
  | a :: r, [], p, _, _ => by have := p.eq_nil; cases this
  | a :: r, b :: s, p, h1, h2 => by
    obtain ⟨h1a, h1b⟩ := List.pairwise_cons.mp h1
    obtain ⟨h2a, h2b⟩ := List.pairwise_cons.mp h2
    have e : a = b := by
      rcases List.mem_cons.mp (p.mem_iff.mp List.mem_cons_self) with e | q
      · exact e
      · rcases List.mem_cons.mp (p.symm.mem_iff.mp List.mem_cons_self) with e | q2
        · exact e.symm
        · exact le_anti (h1a b q2) (h2a a q)
    subst e
    rw [Srt.unique ((List.perm_cons a).mp p) h1b h2b]
/-- the last moves, in order -/
noncomputable def srtd (ds : List (Nat × Nat)) (S : S2) : List Lm := (lms ds S ds.length).mergeSort (dataLe false dLm)
theorem srtd_is {ds : List (Nat × Nat)} {S : S2} {l : List Lm} (p : l.Perm (lms ds S ds.length)) (h : Srt l) : l = srtd ds S :=
  Srt.unique (p.trans (List.mergeSort_perm _ _).symm) h (sort_pairwise (sortLe_total (listOrd itemOrd) false fun x : Lm => keyToks (dLm x)) _)
theorem srtd_len (ds : List (Nat × Nat)) (S : S2) : (srtd ds S).length ≤ ds.length := by
  unfold srtd
  rw [List.length_mergeSort]
  exact lms_len ds S _
def spCount (K : PySem.W.Frag) : Sp := fun vs H Q _ => ∃ (a s : Addr) (ds : List (Nat × Nat)) (n : Nat) (S : S2), vs = [.ref a, .ref s] ∧ HouseAt K H a ds ∧ Tree n ds ∧ n ≤ 1000 ∧ StateAt K H s S ∧ StOk n ds S ∧
  ∀ H', Same H H' → Q (.int (((srtd ds S).length * (S.1.length - 1) : Nat) : Int)) H'
def spBefore (K : PySem.W.Frag) : Sp := fun vs H Q _ => ∃ (s r : Addr) (S : S2) (L : List Nat) (d p : Nat), vs = [.ref s, .ref r, .int (d : Int), .int (p : Int)] ∧ StateAt K H s S ∧ SqT K H r (nv L) ∧ d < S.2.length ∧ S.2.length ≤ 1000 ∧
  ∀ (H' : Hp) (q : Addr), Same H H' → StateAt K H' q (L, S.2.set d p) → Q (.ref q) H'
section
variable {P : Program} {w : World} {K : PySem.W.Frag}
      {mg : Str → Option Value} {base : Heap}
theorem ok_state_before (T : Bl mg) (D : Def K mg "state_before" s_state_before) (C_replaced : Cal P w K mg base "replaced" ["values", "index", "value"] 1 (spRepl K)) : Cal P w K mg base "state_before" ["state", "rooms", "door", "before"] 2 (spBefore K) := by
  refine D.ok sc_state_before (fun _ _ _ _ _ _ us hl => match us, hl with | [_, _, _, _], _ => rfl) (fun vs H Q E h => ?_) (fun f cdv A outer s0 H vs Q E hr h => ?_)
  · obtain ⟨s, r, S, L, d, p, rfl, _⟩ := h
    rfl
  obtain ⟨s, r, S, L, d, p, rfl, ⟨ra, b, h1, h2, h3⟩, hr2, hd, few, q⟩ := h
  obtain ⟨f_replaced, fd_replaced, g_replaced, k_replaced, b_replaced, G_replaced⟩ := C_replaced
  refine ⟨_, (pss_one (ps_ret (pe_tup (pa_cons (pv 1) (pa_cons (pe_call G_replaced (hr.mono (by decide)) (by rfl) g_replaced k_replaced b_replaced .nil pass0 (pa_cons (pe_ix ix_tup (pv 0) pe_int (fun _ _ => rfl)) (pa_cons (pv 2) (pa_cons (pv 3) pa_nil)))) pa_nil))))), ?_⟩
  refine ⟨_, rfl, _, rfl, s, _, _, _, rfl, rfl, h1, atI_nat (j := 1) rfl, _, rfl, _, rfl, b, S.2, d, p, rfl, h3, hd, few, fun H1 q1 s1 hq1 => ⟨by show 2 ≤ sizeLine; decide, fun t nt => ?_⟩⟩
  have st := Same.upd (o := .tup [.ref r, .ref q1]) nt
  exact q _ t (s1.trans st) ⟨r, q1, SqT.of upd_same, st.tup (s1.tup hr2), st.tup hq1⟩
theorem ok_count_previous (T : Bl mg) (D : Def K mg "count_previous" s_count_previous) (C_need_state : Cal P w K mg base "need_state" ["house", "state"] 7 (spSt K)) (C_last_moves : Cal P w K mg base "last_moves" ["house", "state"] 2 (spLast K)) : CalK P w K mg base "count_previous" ["house", "state"] 8 (spCount K) ["state", "house"] rev2 rev2 := by
  refine D.okK sc_count_previous (fun _ _ _ _ _ _ us ws hl => match us, ws, hl with | [], [_, _], _ => rfl) rev2_vals (fun _ _ _ _ _ _ us hl => match us, hl with | [_, _], _ => rfl) (fun vs H Q E h => ?_) (fun f cdv A outer s0 H vs Q E hr h => ?_)
  · obtain ⟨a, s, ds, n, S, rfl, _⟩ := h
    rfl
  obtain ⟨a, s, ds, n, S, rfl, hH, tree, hn, st, ok, q⟩ := h
  obtain ⟨r, b, h1, h2, h3⟩ := id st
  have one := ok.one
  obtain ⟨f_need_state, fd_need_state, g_need_state, k_need_state, b_need_state, G_need_state⟩ := C_need_state
  obtain ⟨f_last_moves, fd_last_moves, g_last_moves, k_last_moves, b_last_moves, G_last_moves⟩ := C_last_moves
  refine ⟨_, (pss_cons (ps_expr (pe_call G_need_state (hr.mono (by decide)) (by rfl) g_need_state k_need_state b_need_state .nil pass0 (pa_cons (pv 0) (pa_cons (pv 1) pa_nil))))
    (pss_one (ps_ret (pe_op op_mul (pe_callB call_len_seq (by rfl) T.len PySem.boot_len (pa_cons (pe_call G_last_moves (hr.mono (by decide)) (by rfl) g_last_moves k_last_moves b_last_moves .nil pass0 (pa_cons (pv 0) (pa_cons (pv 1) pa_nil))) pa_nil)) (pe_op op_sub (pe_callB call_len_seq (by rfl) T.len PySem.boot_len (pa_cons (pe_ix ix_tup (pv 1) pe_int (fun _ _ => rfl)) pa_nil)) pe_int))))), ?_⟩
  refine ⟨_, rfl, _, rfl, a, s, ds, n, S, rfl, hH, tree, hn, st, ok, fun H1 s1 => ?_⟩
  refine ⟨_, rfl, _, rfl, a, s, ds, n, S, rfl, hH.same s1, tree, hn, st.same s1, ok, fun H2 q2 ts l s2 nq2 hq2 la pl so => ?_⟩
  have el := srtd_is pl so
  subst el
  have s12 := s1.trans s2
  refine ⟨q2, _, rfl, .inl (SqL.of hq2), _, rfl, s, _, _, _, rfl, rfl, s12.tup h1, atI_nat (j := 0) rfl, r, _, rfl, .inr (s12.tup h2), _, _, rfl, rfl, ?_⟩
  have sl := srtd_len ds S
  have hdn := tree.len
  have e : (((ts.map V.ref).length : Nat) : Int) * (((nv S.1).length : Int) - 1) = (((srtd ds S).length * (S.1.length - 1) : Nat) : Int) := by
    rw [List.length_map, la.1, nv_len, Int.natCast_mul, Int.natCast_sub one]
    rfl
  have lt : (ts.map V.ref).length ≤ 1000 := by
    rw [List.length_map, la.1]
    omega
  refine ⟨_, _, rfl, rfl, .inl ⟨by omega, by omega⟩, ?_⟩
  exact (congrArg (fun z => Q (V.int z) H2) e).mpr (q _ s12)
end
end K5

namespace K5
open PySem PySem.Spec PyProof.Rows L2 PySem.W
theorem mem_lms {ds : List (Nat × Nat)} {S : S2} {x : Lm} : ∀ {k : Nat}, x ∈ lms ds S k → x.2.1 < k ∧ x.2.2 = S.2.getD x.2.1 0 ∧ x ∈ lmOf (ds.getD x.2.1 (0, 0)) S x.2.1 x.2.2
  | 0, h => nomatch h
  | k + 1, h => by
    have h : x ∈ lms ds S k ++ lmOf (ds.getD k (0, 0)) S k (S.2.getD k 0) := h
    rcases List.mem_append.mp h with h | h
    · obtain ⟨a, b, c⟩ := mem_lms h
      exact ⟨by omega, b, c⟩
    · have h0 := h
      unfold lmOf at h
      split at h
      · rw [List.mem_singleton] at h
        subst h
        exact ⟨Nat.lt_succ_self _, rfl, h0⟩
      · cases h
/-- the person whom the door barred before -/
def bef (o p : Nat) : Nat := if o < p then o else o + 1
def spPrevAt (K : PySem.W.Frag) : Sp := fun vs H Q _ => ∃ (a s : Addr) (ds : List (Nat × Nat)) (n i : Nat) (S : S2) (x : Lm), vs = [.ref a, .ref s, .int (i : Int)] ∧ HouseAt K H a ds ∧ Tree n ds ∧ n ≤ 1000 ∧ StateAt K H s S ∧ StOk n ds S ∧ i < (srtd ds S).length * (S.1.length - 1) ∧
  (srtd ds S)[i / (S.1.length - 1)]? = some x ∧ ∀ (H' : Hp) (q : Addr), Same H H' → StateAt K H' q (x.1, S.2.set x.2.1 (bef (i % (S.1.length - 1)) x.2.2)) → Q (.ref q) H'
section
variable {P : Program} {w : World} {K : PySem.W.Frag}
      {mg : Str → Option Value} {base : Heap}
theorem ok_previous_at (T : Bl mg) (D : Def K mg "previous_at" s_previous_at) (C_count_previous : Cal P w K mg base "count_previous" ["house", "state"] 8 (spCount K)) (C_is_index : Cal P w K mg base "is_index" ["value", "count"] 2 spIndex) (C_last_moves : Cal P w K mg base "last_moves" ["house", "state"] 2 (spLast K))
    (C_state_before : Cal P w K mg base "state_before" ["state", "rooms", "door", "before"] 2 (spBefore K)) : CalK P w K mg base "previous_at" ["house", "state", "index"] 9 (spPrevAt K) ["index", "state", "house"] rev3 rev3 := by
  refine D.okK sc_previous_at (fun _ _ _ _ _ _ us ws hl => match us, ws, hl with | [], [_, _, _], _ => rfl) rev3_vals (fun _ _ _ _ _ _ us hl => match us, hl with | [_, _, _], _ => rfl) (fun vs H Q E h => ?_) (fun f cdv A outer s0 H vs Q E hr h => ?_)
  · obtain ⟨a, s, ds, n, i, S, x, rfl, _⟩ := h
    rfl
  obtain ⟨a, s, ds, n, i, S, x, rfl, hH, tree, hn, st, ok, hi, hx, q⟩ := h
  obtain ⟨r, b, h1, h2, h3⟩ := id st
  have one := ok.one
  have few := ok.few
  have hdn := tree.len
  have drs := ok.doors
  obtain ⟨f_count_previous, fd_count_previous, g_count_previous, k_count_previous, b_count_previous, G_count_previous⟩ := C_count_previous
  obtain ⟨f_is_index, fd_is_index, g_is_index, k_is_index, b_is_index, G_is_index⟩ := C_is_index
  obtain ⟨f_last_moves, fd_last_moves, g_last_moves, k_last_moves, b_last_moves, G_last_moves⟩ := C_last_moves
  obtain ⟨f_state_before, fd_state_before, g_state_before, k_state_before, b_state_before, G_state_before⟩ := C_state_before
  refine ⟨_, (pss_cons (ps_set (i := 3) sc_previous_at.nd rfl (.inl rfl) (pe_call G_count_previous (hr.mono (by decide)) (by rfl) g_count_previous k_count_previous b_count_previous .nil pass0 (pa_cons (pv 0) (pa_cons (pv 1) pa_nil))))
    (pss_cons (ps_if (pt_not (pt_val (pe_call G_is_index (hr.mono (by decide)) (by rfl) g_is_index k_is_index b_is_index .nil pass0 (pa_cons (pv 2) (pa_cons (pv 3) pa_nil))))) pss_never pss_nil)
    (pss_cons (ps_asg (pe_callB call_divmod (by rfl) T.divmod (by decide +kernel) (pa_cons (pv 2) (pa_cons (pe_op op_sub (pe_callB call_len_seq (by rfl) T.len PySem.boot_len (pa_cons (pe_ix ix_tup (pv 1) pe_int (fun _ _ => rfl)) pa_nil)) pe_int) pa_nil))) (pg_tup (n := 2) rfl (pgs_cons (pg_name (i := 4) sc_previous_at.nd rfl (.inl rfl)) (pgs_cons (pg_name (i := 5) sc_previous_at.nd rfl (.inl rfl)) pgs_nil))))
    (pss_cons (ps_asg (pe_ix ix_list (pe_call G_last_moves (hr.mono (by decide)) (by rfl) g_last_moves k_last_moves b_last_moves .nil pass0 (pa_cons (pv 0) (pa_cons (pv 1) pa_nil))) (pv 4) (fun _ _ => rfl)) (pg_tup (n := 3) rfl (pgs_cons (pg_name (i := 6) sc_previous_at.nd rfl (.inl rfl)) (pgs_cons (pg_name (i := 7) sc_previous_at.nd rfl (.inl rfl)) (pgs_cons (pg_name (i := 8) sc_previous_at.nd rfl (.inl rfl)) pgs_nil)))))
    (pss_cons (ps_set (i := 9) sc_previous_at.nd rfl (.inl rfl) (pe_ifExp (pt_cmpR op_lt (pv 5) (pv 8) (nomark _)) (pv 5) (pe_op op_add (pv 5) pe_int)))
    (pss_one (ps_ret (pe_call G_state_before (hr.mono (by decide)) (by rfl) g_state_before k_state_before b_state_before .nil pass0 (pa_cons (pv 1) (pa_cons (pv 6) (pa_cons (pv 7) (pa_cons (pv 9) pa_nil)))))))))))), ?_⟩
  refine ⟨_, rfl, _, rfl, a, s, ds, n, S, rfl, hH, tree, hn, st, ok, fun H1 s1 => ?_⟩
  refine ⟨_, rfl, _, rfl, (i : Int), _, rfl, ?_⟩
  refine ⟨_, rfl, ?_⟩
  rw [decide_eq_true (show (0 : Int) ≤ (i : Int) ∧ (i : Int) < (((srtd ds S).length * (S.1.length - 1) : Nat) : Int) by omega)]
  refine iteF ?_
  have pos : 0 < S.1.length - 1 := by
    refine Nat.pos_of_ne_zero fun z => ?_
    rw [z, Nat.mul_zero] at hi
    omega
  generalize hP : S.1.length - 1 = m at pos hi hx q
  have eP : ((nv S.1).length : Int) - 1 = (m : Int) := by
    rw [nv_len]
    omega
  refine ⟨_, rfl, _, rfl, s, _, _, _, rfl, rfl, s1.tup h1, atI_nat (j := 0) rfl, r, _, rfl, .inr (s1.tup h2), _, _, rfl, rfl, (i : Int), (m : Int), congrArg (fun z => [V.int (i : Int), V.int z]) eP, ⟨by omega, by omega⟩, fun pt npt => ?_⟩
  have ed : (i : Int) / (m : Int) = ((i / m : Nat) : Int) := rfl
  have em : (i : Int) % (m : Int) = ((i % m : Nat) : Int) := rfl
  rw [ed, em]
  have s2 := s1.trans (Same.upd (o := .tup [.int ((i / m : Nat) : Int), .int ((i % m : Nat) : Int)]) npt)
  refine ⟨pt, _, rfl, SqT.of upd_same, rfl, _, _, rfl, _, _, rfl, rfl, ?_⟩
  generalize upd H1 pt (.tup [.int ((i / m : Nat) : Int), .int ((i % m : Nat) : Int)]) = H2 at s2
  refine ⟨_, rfl, _, rfl, a, s, ds, n, S, rfl, hH.same s2, tree, hn, st.same s2, ok, fun H3 q3 ts l s3 nq3 hq3 la pl so => ?_⟩
  have el := srtd_is pl so
  subst el
  obtain ⟨tx, htx⟩ : ∃ t, ts[i / m]? = some t := get_of la.1 (get_lt hx)
  obtain ⟨rx, hx1, hx2⟩ := la.2 _ tx x htx hx
  have s4 := s2.trans s3
  refine ⟨_, rfl, q3, _, _, V.ref tx, rfl, rfl, SqL.of hq3, atI_nat (by rw [List.getElem?_map, htx]; rfl), ?_⟩
  refine ⟨tx, _, rfl, SqT.of hx1, rfl, _, _, rfl, _, _, rfl, _, _, rfl, rfl, ?_⟩
  obtain ⟨dl, _, _⟩ := mem_lms (pl.mem_iff.mp (List.mem_of_getElem? hx))
  have fin : ∀ (H' : Hp) (q' : Addr), Same H3 H' → StateAt K H' q' (x.1, S.2.set x.2.1 (bef (i % m) x.2.2)) → Q (.ref q') H' := fun H' q' s' st' => q H' q' (s4.trans s') st'
  refine ⟨_, rfl, _, rfl, _, _, rfl, rfl, _, rfl, ?_⟩
  by_cases c : i % m < x.2.2
  · rw [decide_eq_true (show ((i % m : Nat) : Int) < (x.2.2 : Int) by omega)]
    have eb : bef (i % m) x.2.2 = i % m := by
      unfold bef
      rw [if_pos c]
    rw [eb] at fin
    exact iteT ⟨_, rfl, _, rfl, _, rfl, _, rfl, _, rfl, s, rx, S, x.1, x.2.1, i % m, rfl, st.same s4, hx2, by omega, by omega, fin⟩
  · rw [decide_eq_false (show ¬ ((i % m : Nat) : Int) < (x.2.2 : Int) by omega)]
    have eb : bef (i % m) x.2.2 = i % m + 1 := by
      unfold bef
      rw [if_neg c]
    rw [eb] at fin
    exact iteF ⟨_, rfl, _, _, rfl, rfl, _, rfl, _, rfl, _, rfl, _, rfl, s, rx, S, x.1, x.2.1, i % m + 1, rfl, st.same s4, hx2, by omega, by omega, fin⟩
end
end K5

namespace K5
open PySem PySem.Spec PyProof.Rows L2 PySem.W
theorem eqvAll_is : ∀ l m : List Nat, PyData.eqvAll (dIs l) (dIs m) = decide (l = m)
  | [], [] => by simp [dIs, PyData.eqvAll]
  | [], _ :: _ => by simp [dIs, PyData.eqvAll]
  | _ :: _, [] => by simp [dIs, PyData.eqvAll]
  | x :: l, y :: m => by
    have ih := eqvAll_is l m
    have hx : (((x : Int) == (y : Int)) : Bool) = decide (x = y) := by
      by_cases c : x = y
      · subst c; simp
      · rw [decide_eq_false c]
        simp
        omega
    unfold dIs at ih ⊢
    simp only [List.map_cons, PyData.eqvAll, PyData.eqv, ih, hx]
    by_cases c : x = y <;> by_cases d : l = m <;> simp [c, d]
theorem dS_eqv (A B : S2) : PyData.eqv (dS A) (dS B) = decide (A = B) := by
  obtain ⟨a, b⟩ := A
  obtain ⟨c, d⟩ := B
  simp only [dS, PyData.eqv, PyData.eqvAll, eqvAll_is, Bool.and_true, Prod.mk.injEq, Bool.decide_and]
/-- the state is one move before, by the last move x -/
def Bfr (S S' : S2) (x : Lm) : Prop := S'.2.getD x.2.1 0 ≠ x.2.2 ∧ S' = (x.1, S.2.set x.2.1 (S'.2.getD x.2.1 0))
/-- its number among the persons whom the door can have barred -/
def unbef (b p : Nat) : Nat := if b < p then b else b - 1
end K5

namespace K5
open PySem PySem.Spec PyProof.Rows L2 PySem.W
/-- one order only, of alike data whose signs tell them apart -/
theorem sorted_unique {β : Type} (k : β → PyData) (inj : ∀ x y, keyToks (k x) = keyToks (k y) → x = y) : ∀ {l m : List β}, l.Perm m → (l.Pairwise fun x y => dataLe false k x y = true) → (m.Pairwise fun x y => dataLe false k x y = true) → l = m
  | [], m, p, _, _ => p.symm.eq_nil.symm
  | a :: r, [], p, _, _ => by have := p.eq_nil; cases this
  | a :: r, b :: s, p, h1, h2 => by
    obtain ⟨h1a, h1b⟩ := List.pairwise_cons.mp h1
    obtain ⟨h2a, h2b⟩ := List.pairwise_cons.mp h2
    have anti : ∀ {x y : β}, dataLe false k x y = true → dataLe false k y x = true → x = y := fun {x y} h1 h2 => by
      refine inj _ _ ((listOrd itemOrd).total _ _ ?_ ?_)
      · have h2 : (!(listOrd itemOrd).blt (keyToks (k x)) (keyToks (k y))) = true := h2
        simpa using h2
      · have h1 : (!(listOrd itemOrd).blt (keyToks (k y)) (keyToks (k x))) = true := h1
        simpa using h1
    have e : a = b := by
      rcases List.mem_cons.mp (p.mem_iff.mp List.mem_cons_self) with e | q
      · exact e
      · rcases List.mem_cons.mp (p.symm.mem_iff.mp List.mem_cons_self) with e | q2
        · exact e.symm
        · exact anti (h1a b q2) (h2a a q)
    subst e
    rw [sorted_unique k inj ((List.perm_cons a).mp p) h1b h2b]
theorem toks_S {A B : S2} (h : keyToks (dS A) = keyToks (dS B)) : A = B := by
  obtain ⟨L, M⟩ := A
  obtain ⟨L', M'⟩ := B
  simp only [dS, keyToks, keyToksAll, List.cons.injEq, true_and] at h
  obtain ⟨a, b⟩ := toks_is L L' _ _ h
  simp only [List.cons.injEq, true_and] at b
  obtain ⟨c, _⟩ := toks_is M M' _ _ b
  rw [a, c]
theorem eqv_is (l m : List Nat) : PyData.eqv (.tuple (dIs l)) (.tuple (dIs m)) = decide (l = m) := by
  simp only [PyData.eqv, eqvAll_is]
theorem al_is (l m : List Nat) : alike (.tuple (dIs l)) (.tuple (dIs m)) = true := by
  simp only [alike, alike_is]
/-- other rooms decide -/
theorem le_rooms {x y : Lm} {A B : S2} (ne : x.1 ≠ y.1) (ea : A.1 = x.1) (eb : B.1 = y.1) (h : dataLe false dLm x y = true) : dataLe false dS A B = true := by
  have h : (!dataLt (dLm y) (dLm x)) = true := h
  show (!dataLt (dS B) (dS A)) = true
  have e1 : dataLt (dLm y) (dLm x) = dataLt (.tuple (dIs y.1)) (.tuple (dIs x.1)) :=
    dataLt_all_no (al_is _ _) (by rw [eqv_is, decide_eq_false (Ne.symm ne)])
  have e2 : dataLt (dS B) (dS A) = dataLt (.tuple (dIs B.1)) (.tuple (dIs A.1)) :=
    dataLt_all_no (al_is _ _) (by rw [eqv_is, ea, eb, decide_eq_false (Ne.symm ne)])
  rw [e2, ea, eb, ← e1]
  exact h
theorem lt_set : ∀ (L : List Nat) (d b b' : Nat), d < L.length → b < b' → dataLt (.tuple (dIs (L.set d b'))) (.tuple (dIs (L.set d b))) = false
  | [], d, b, b', h, _ => by simp at h
  | x :: L, 0, b, b', _, h => by
    have e : dataLt (.tuple (dIs ((x :: L).set 0 b'))) (.tuple (dIs ((x :: L).set 0 b))) = dataLt (.int (b' : Int)) (.int (b : Int)) :=
      dataLt_all_no rfl (by
        simp only [PyData.eqv]
        have : ¬ (b' : Int) = (b : Int) := by omega
        simpa using this)
    rw [e]
    have lt : ¬ ((b' : Int) < (b : Int)) := by omega
    simp [dataLt, keyToks, PyProof.Rows.lexLt, itemLt]
    omega
  | x :: L, d + 1, b, b', hd, h => by
    have ih := lt_set L d b b' (by simpa using hd) h
    have e : dataLt (.tuple (dIs ((x :: L).set (d + 1) b'))) (.tuple (dIs ((x :: L).set (d + 1) b))) = dataLt (.tuple (dIs (L.set d b'))) (.tuple (dIs (L.set d b))) :=
      dataLt_all_yes rfl (by simp only [PyData.eqv]; simp)
    rw [e, ih]
theorem le_same {r L : List Nat} {d b b' : Nat} (hd : d < L.length) (h : b < b') : dataLe false dS (r, L.set d b) (r, L.set d b') = true := by
  show (!dataLt (dS (r, L.set d b')) (dS (r, L.set d b))) = true
  have e : dataLt (dS (r, L.set d b')) (dS (r, L.set d b)) = PyProof.Rows.lexLt itemOrd (keyToksAll [.tuple (dIs (L.set d b'))]) (keyToksAll [.tuple (dIs (L.set d b))]) :=
    dataLt_all_yes (al_is _ _) (by rw [eqv_is, decide_eq_true rfl])
  have ne : L.set d b' ≠ L.set d b := fun z => by
    have h1 : (L.set d b')[d]? = some b' := List.getElem?_set_self hd
    rw [z, List.getElem?_set_self hd] at h1
    have := Option.some.inj h1
    omega
  have e2 : PyProof.Rows.lexLt itemOrd (keyToksAll [.tuple (dIs (L.set d b'))]) (keyToksAll [.tuple (dIs (L.set d b))]) = dataLt (.tuple (dIs (L.set d b'))) (.tuple (dIs (L.set d b))) :=
    dataLt_all_no (al_is _ _) (by rw [eqv_is, decide_eq_false ne])
  rw [e, e2, lt_set L d b b' hd h]
  rfl
end K5

namespace K5
open PySem PySem.Spec PyProof.Rows L2 PySem.W
/-- the states before, by one last move: the door barred any other -/
def befs (S : S2) (x : Lm) : List S2 := ((List.range S.1.length).filter fun b => decide (b ≠ x.2.2)).map fun b => (x.1, S.2.set x.2.1 b)
/-- all states one move before, in their order -/
noncomputable def prevs (ds : List (Nat × Nat)) (S : S2) : List S2 := (srtd ds S).flatMap (befs S)
theorem range_but : ∀ {P p : Nat}, p < P → (List.range P).filter (fun b => decide (b ≠ p)) = (List.range (P - 1)).map fun o => bef o p := by
  intro P p hp
  have h : ∀ k, k ≤ P - 1 → (List.range (if k ≤ p then k else k + 1)).filter (fun b => decide (b ≠ p)) = (List.range k).map fun o => bef o p := by
    intro k
    induction k with
    | zero => intro _; simp
    | succ k ih =>
      intro hk
      have ih := ih (by omega)
      rw [List.range_succ, List.map_append, ← ih]
      by_cases c : k + 1 ≤ p
      · rw [if_pos c, if_pos (by omega), List.range_succ, List.filter_append]
        have e : bef k p = k := by unfold bef; rw [if_pos (by omega)]
        have : k ≠ p := by omega
        simp [e, this]
      · by_cases c2 : k ≤ p
        · have ek : k = p := by omega
          subst ek
          rw [if_neg c, if_pos c2, List.range_succ, List.range_succ, List.filter_append, List.filter_append]
          have e : bef k k = k + 1 := by unfold bef; rw [if_neg (by omega)]
          simp [e]
        · rw [if_neg c, if_neg c2, List.range_succ (n := k + 1), List.filter_append]
          have e : bef k p = k + 1 := by unfold bef; rw [if_neg (by omega)]
          have : k + 1 ≠ p := by omega
          simp [e, this]
  by_cases z : P - 1 ≤ p
  · have e : P - 1 = p := by omega
    have := h p (by omega)
    rw [if_pos (Nat.le_refl _)] at this
    have hP : P = p + 1 := by omega
    rw [e, ← this, hP, List.range_succ, List.filter_append]
    simp
  · have := h (P - 1) (Nat.le_refl _)
    rw [if_neg z, show P - 1 + 1 = P by omega] at this
    exact this
/-- two last moves with the same rooms are one -/
theorem lms_rooms {n : Nat} {ds : List (Nat × Nat)} {S : S2} (T : Tree n ds) (ok : StOk n ds S) {x y : Lm} (hx : x ∈ lms ds S ds.length) (hy : y ∈ lms ds S ds.length) (h : x.1 = y.1) : x = y := by
  have one : ∀ {z : Lm}, z ∈ lms ds S ds.length → ∃ (v w : Nat), z.2.1 < ds.length ∧ z.2.2 = S.2.getD z.2.1 0 ∧ S.1[z.2.2]? = some v ∧ Joins ds z.2.1 v w ∧ z.1 = S.1.set z.2.2 w ∧ z.2.2 < S.1.length := fun {z} hz => by
    obtain ⟨a, b, c⟩ := mem_lms hz
    obtain ⟨e, he⟩ : ∃ e, ds[z.2.1]? = some e := get_of rfl a
    obtain ⟨p, hp⟩ : ∃ p, S.2[z.2.1]? = some p := get_of ok.doors a
    have ep : z.2.2 = p := by rw [b, List.getD_eq_getElem?_getD, hp]; rfl
    have lp := ok.bars p (List.mem_of_getElem? hp)
    obtain ⟨v, hv⟩ : ∃ v, S.1[p]? = some v := get_of rfl lp
    have ev : S.1.getD p 0 = v := by rw [List.getD_eq_getElem?_getD, hv]; rfl
    have ee : ds.getD z.2.1 (0, 0) = e := by rw [List.getD_eq_getElem?_getD, he]; rfl
    unfold lmOf at c
    rw [ee, ep, ev] at c
    split at c
    · rename_i hc
      rw [List.mem_singleton] at c
      refine ⟨v, oth e v, a, b, by rw [ep]; exact hv, ?_, by rw [ep]; exact congrArg Prod.fst c, by rw [ep]; exact lp⟩
      unfold oth
      by_cases q : v = e.1
      · rw [if_pos q, q]
        exact .inl he
      · rw [if_neg q]
        rcases hc with hc | hc
        · exact absurd hc q
        · rw [hc]
          exact .inr he
    · cases c
  obtain ⟨v, w, a1, a2, a3, a4, a5, a6⟩ := one hx
  obtain ⟨v', w', b1, b2, b3, b4, b5, b6⟩ := one hy
  have nvw := (a4.lt T).2.2.2
  have nvw' := (b4.lt T).2.2.2
  have e0 : S.1.set x.2.2 w = S.1.set y.2.2 w' := by rw [← a5, ← b5, h]
  have ep : x.2.2 = y.2.2 := Classical.byContradiction fun z => by
    have h1 : (S.1.set x.2.2 w)[x.2.2]? = some w := List.getElem?_set_self a6
    rw [e0, List.getElem?_set_ne (Ne.symm z), a3] at h1
    exact nvw (Option.some.inj h1)
  have ew : w = w' := by
    have h1 : (S.1.set x.2.2 w)[x.2.2]? = some w := List.getElem?_set_self a6
    rw [e0, ep, List.getElem?_set_self b6] at h1
    exact (Option.some.inj h1).symm
  rw [ep, b3] at a3
  have ev := Option.some.inj a3
  rw [← ev, ew] at a4
  have ed := T.one_door a4 b4
  obtain ⟨x1, x2, x3⟩ := x
  obtain ⟨y1, y2, y3⟩ := y
  simp only at h ep ed
  rw [h, ep, ed]
theorem nodup_lms (ds : List (Nat × Nat)) (S : S2) : ∀ k, (lms ds S k).Nodup
  | 0 => List.nodup_nil
  | k + 1 => by
    show (lms ds S k ++ lmOf (ds.getD k (0, 0)) S k (S.2.getD k 0)).Nodup
    rw [List.nodup_append]
    refine ⟨nodup_lms ds S k, ?_, fun a ha b hb z => ?_⟩
    · unfold lmOf
      split
      · simp
      · exact List.nodup_nil
    · subst z
      have h1 := (mem_lms ha).1
      unfold lmOf at hb
      split at hb
      · rw [List.mem_singleton] at hb
        rw [hb] at h1
        exact absurd h1 (Nat.lt_irrefl _)
      · cases hb
theorem prevs_sorted {n : Nat} {ds : List (Nat × Nat)} {S : S2} (T : Tree n ds) (ok : StOk n ds S) : (prevs ds S).Pairwise fun A B => dataLe false dS A B = true := by
  unfold prevs
  have pm : (srtd ds S).Perm (lms ds S ds.length) := List.mergeSort_perm _ _
  have so : Srt (srtd ds S) := sort_pairwise (sortLe_total (listOrd itemOrd) false fun x : Lm => keyToks (dLm x)) _
  have nd : (srtd ds S).Nodup := pm.nodup_iff.mpr (nodup_lms ds S _)
  rw [List.pairwise_flatMap]
  refine ⟨fun x hx => ?_, ?_⟩
  · unfold befs
    rw [List.pairwise_map]
    have hd : x.2.1 < S.2.length := by
      rw [ok.doors]
      exact (mem_lms (pm.mem_iff.mp hx)).1
    exact (List.pairwise_lt_range.filter _).imp fun h => le_same hd h
  · have both := so.and nd
    have := List.Pairwise.imp_of_mem (R := fun x y : Lm => dataLe false dLm x y = true ∧ x ≠ y) (S := fun x y => ∀ A ∈ befs S x, ∀ B ∈ befs S y, dataLe false dS A B = true) (fun {x y} hx hy h A hA B hB => ?_) both
    · exact this
    · unfold befs at hA hB
      obtain ⟨b, _, rfl⟩ := List.mem_map.mp hA
      obtain ⟨b', _, rfl⟩ := List.mem_map.mp hB
      exact le_rooms (fun z => h.2 (lms_rooms T ok (pm.mem_iff.mp hx) (pm.mem_iff.mp hy) z)) rfl rfl h.1
/-- as the law makes them, out of order -/
def rawP (ds : List (Nat × Nat)) (S : S2) (k : Nat) : List S2 := (lms ds S k).flatMap (befs S)
theorem prevs_is {n : Nat} {ds : List (Nat × Nat)} {S : S2} (T : Tree n ds) (ok : StOk n ds S) {l : List S2} (p : l.Perm (rawP ds S ds.length)) (so : l.Pairwise fun A B => dataLe false dS A B = true) : l = prevs ds S := by
  refine sorted_unique dS (fun _ _ h => toks_S h) (p.trans ?_) so (prevs_sorted T ok)
  unfold rawP prevs
  exact (List.mergeSort_perm (lms ds S ds.length) _).symm.flatMap_right _
end K5

namespace K5
open PySem PySem.Spec PyProof.Rows L2 PySem.W
/-- t[:d] + (v,) + t[d + 1:] -/
theorem cut3 {K : PySem.W.Frag} {σ : L2.St} {H : Hp} {Q : VK} {i j k : Nat} {a : Addr} {L : List Nat} {d v : Nat} (hi : σ[i]? = some (some (.ref a))) (hj : σ[j]? = some (some (.int (d : Int)))) (hk : σ[k]? = some (some (.int (v : Int)))) (h2 : SqT K H a (nv L)) (lt : d < L.length) (few : L.length ≤ 1000)
    (q : ∀ (H' : Hp) (p : Addr), Same H H' → SqT K H' p (nv (L.set d v)) → Q (.ref p) H') :
    tOp (rCatA K) (tOp (rCatA K) (tSl (rSlT K) (tVar i) tNoPart (tPart (tVar j))) (tTup (tCons (tVar k) tNil))) (tSl (rSlT K) (tVar i) (tPart (tOp (rI0 fun i j => .int (i + j)) (tVar j) (tC (.int 1)))) tNoPart) σ H Q := by
  have sz4 : (4 : Nat) + 1000 ≤ sizeLine := Nat.le_of_lt (small3k (by decide))
  obtain ⟨c1, c2⟩ := cut_to lt
  obtain ⟨c3, c4⟩ := cut_from lt
  refine ⟨_, hi, _, hj, _, rfl, a, _, rfl, h2, c2, fun p1 np1 => ?_⟩
  rw [c1]
  have sa := Same.upd (o := .tup (nv (L.take d))) np1
  refine ⟨_, hk, by show 1 ≤ sizeLine; decide, fun p2 np2 => ?_⟩
  have sb := sa.trans (Same.upd (o := .tup [.int (v : Int)]) np2)
  have hp1 : (upd (upd H p1 (.tup (nv (L.take d)))) p2 (.tup [.int (v : Int)])) p1 = some (.tup (nv (L.take d))) := by rw [upd_ne (ne_of_none upd_same np2), upd_same]
  refine catA_of (SqT.of hp1) (SqT.of upd_same) (by rw [nv_len, List.length_take, List.length_singleton]; omega) fun H4 p3 s4 h4 => ?_
  have sc := sb.trans s4
  refine ⟨_, hi, _, hj, _, _, rfl, rfl, _, rfl, a, _, rfl, sc.tup h2, c4, fun p4 np4 => ?_⟩
  rw [c3]
  have s5 := Same.upd (o := .tup (nv (L.drop (d + 1)))) np4
  refine catA_of (s5.tup h4) (SqT.of upd_same) (by rw [List.length_append, nv_len, List.length_take, List.length_singleton, nv_len, List.length_drop]; omega) fun H6 p5 s6 h6 => ?_
  rw [nv_cut _ _ _ lt] at h6
  exact q _ p5 ((sc.trans s5).trans s6) h6
/-- states at their places -/
def StsAt (K : PySem.W.Frag) (H : Hp) (ts : List Addr) (l : List S2) : Prop := ts.length = l.length ∧ ∀ (i : Nat) (t : Addr) (X : S2), ts[i]? = some t → l[i]? = some X → StateAt K H t X
theorem StsAt.same {K H H' ts l} (h : StsAt K H ts l) (s : Same H H') : StsAt K H' ts l := ⟨h.1, fun i t X a b => (h.2 i t X a b).same s⟩
theorem StateAt.put {K H s S p xs o} (h : StateAt K H s S) (hp : H p = some (.lst xs)) : StateAt K (upd H p o) s S := by
  obtain ⟨r, b, h1, h2, h3⟩ := h
  exact ⟨r, b, (But.upd (But.refl _ _) o).tup hp h1, (But.upd (But.refl _ _) o).tup hp h2, (But.upd (But.refl _ _) o).tup hp h3⟩
theorem StsAt.put {K H ts l p xs o} (h : StsAt K H ts l) (hp : H p = some (.lst xs)) : StsAt K (upd H p o) ts l := ⟨h.1, fun i t X a b => (h.2 i t X a b).put hp⟩
theorem StsAt.app {K : PySem.W.Frag} {H : Hp} {ts : List Addr} {l : List S2} {t : Addr} {X : S2} (h : StsAt K H ts l) (ht : StateAt K H t X) : StsAt K H (ts ++ [t]) (l ++ [X]) := by
  refine ⟨by rw [List.length_append, List.length_append, h.1]; rfl, fun i a b e1 e2 => ?_⟩
  by_cases hi : i < ts.length
  · rw [List.getElem?_append_left hi] at e1
    rw [List.getElem?_append_left (by rw [← h.1]; exact hi)] at e2
    exact h.2 i a b e1 e2
  · rw [List.getElem?_append_right (by omega)] at e1
    rw [List.getElem?_append_right (by rw [← h.1]; omega), ← h.1] at e2
    generalize i - ts.length = j at e1 e2
    match j with
    | 0 =>
      cases e1
      cases e2
      exact ht
    | j + 1 => simp at e1
theorem dp_sts {K : PySem.W.Frag} {H : Hp} : ∀ (ts : List Addr) (l : List S2), StsAt K H ts l → DpAll K H (ts.map V.ref) (l.map dS)
  | [], [], _ => .nil
  | [], _ :: _, h => by have := h.1; simp at this
  | _ :: _, [], h => by have := h.1; simp at this
  | t :: ts, x :: l, h => .cons (dp_S (h.2 0 t x rfl rfl)) (dp_sts ts l ⟨by have := h.1; simpa using this, fun i t' x' a b => h.2 (i + 1) t' x' a b⟩)
theorem alike_S (A B : S2) : alike (dS A) (dS B) = true := by
  simp only [dS, alike, alikeAll, alike_is, Bool.and_self]
theorem dS_depth (A : S2) : (dS A).depth ≤ 60 := by
  have h1 := dIs_depth A.1
  have h2 := dIs_depth A.2
  simp only [dS, PyData.depth, PyData.depthAll]
  omega
end K5

namespace K5
open PySem PySem.Spec PyProof.Rows L2
theorem unit65 {k : Nat} {A : Around} (r : Room k A) : A.units + 65 < cLine := by have := r.un; omega
theorem set_back {L : List Nat} {k v w : Nat} (h : L[k]? = some v) : (L.set k w).set k v = L := by
  apply List.ext_getElem?
  intro i
  by_cases c : k = i
  · subst c
    rw [List.getElem?_set_self (by rw [List.length_set]; exact get_lt h), h]
  · rw [List.getElem?_set_ne c, List.getElem?_set_ne c]
theorem lms_mem {ds : List (Nat × Nat)} {S : S2} {x : Lm} {d : Nat} (h : x ∈ lmOf (ds.getD d (0, 0)) S d (S.2.getD d 0)) : ∀ {k : Nat}, d < k → x ∈ lms ds S k
  | 0, hk => absurd hk (Nat.not_lt_zero _)
  | k + 1, hk => by
    show x ∈ lms ds S k ++ lmOf (ds.getD k (0, 0)) S k (S.2.getD k 0)
    rcases Nat.lt_succ_iff_lt_or_eq.mp hk with c | c
    · exact List.mem_append.mpr (.inl (lms_mem h c))
    · subst c
      exact List.mem_append.mpr (.inr h)
/-- the state before a move is among the previous ones -/
theorem bfr_step {n : Nat} {ds : List (Nat × Nat)} {S : S2} {m : Mv} (T : Tree n ds) (o : StOk n ds S) (c : Can ds S m) : ∃ x, x ∈ srtd ds (nxt ds S m) ∧ Bfr (nxt ds S m) S x := by
  obtain ⟨h1, h2, d, j, h3⟩ := c
  have hd : d < S.2.length := by rw [o.doors]; exact joins_lt j
  have ed := dix_is T j
  have dl := joins_lt j
  obtain ⟨e, he⟩ : ∃ e, ds[d]? = some e := get_of rfl dl
  have eg : ds.getD d (0, 0) = e := by rw [List.getD_eq_getElem?_getD, he]; rfl
  obtain ⟨b, hb⟩ : ∃ b, S.2[d]? = some b := get_of rfl hd
  have eb : S.2.getD d 0 = b := by rw [List.getD_eq_getElem?_getD, hb]; rfl
  have n1 : (nxt ds S m).1.getD m.1 0 = m.2.2 := by
    show (S.1.set m.1 m.2.2).getD m.1 0 = _
    rw [List.getD_eq_getElem?_getD, List.getElem?_set_self h1]
    rfl
  have n2 : (nxt ds S m).2.getD d 0 = m.1 := by
    show (S.2.set (dix ds m.2.1 m.2.2) m.1).getD d 0 = _
    rw [ed, List.getD_eq_getElem?_getD, List.getElem?_set_self hd]
    rfl
  obtain ⟨_, _, _, ne⟩ := j.lt T
  have near : m.2.2 = e.1 ∨ m.2.2 = e.2 := by
    rcases j with q | q <;> rw [he] at q <;> cases q
    · exact .inr rfl
    · exact .inl rfl
  have oth1 : oth e m.2.2 = m.2.1 := by
    unfold oth
    rcases j with q | q <;> rw [he] at q <;> cases q
    · rw [if_neg (fun z => ne z.symm)]
    · rw [if_pos rfl]
  refine ⟨(S.1, d, m.1), ?_, ?_, ?_⟩
  · unfold srtd
    rw [List.mem_mergeSort]
    refine lms_mem (d := d) ?_ dl
    rw [eg, n2]
    unfold lmOf
    rw [n1, if_pos near, oth1, List.mem_singleton]
    show (S.1, d, m.1) = ((S.1.set m.1 m.2.2).set m.1 m.2.1, d, m.1)
    rw [set_back h2]
  · show S.2.getD d 0 ≠ m.1
    rw [eb]
    exact fun z => h3 (by rw [hb, z])
  · show S = (S.1, (S.2.set (dix ds m.2.1 m.2.2) m.1).set d (S.2.getD d 0))
    rw [ed, eb, set_back hb]
/-- from each previous state a move leads to the state -/
theorem step_bfr {n : Nat} {ds : List (Nat × Nat)} {S : S2} {x : Lm} {b : Nat} (T : Tree n ds) (o : StOk n ds S) (hx : x ∈ srtd ds S) (hb : b < S.1.length) (ne : b ≠ x.2.2) :
    StOk n ds (x.1, S.2.set x.2.1 b) ∧ ∃ m, Can ds (x.1, S.2.set x.2.1 b) m ∧ nxt ds (x.1, S.2.set x.2.1 b) m = S ∧ x.1.getD m.1 0 ≠ S.1.getD m.1 0 := by
  unfold srtd at hx
  rw [List.mem_mergeSort] at hx
  obtain ⟨dl, ep, hl⟩ := mem_lms hx
  obtain ⟨L, d, p⟩ := x
  obtain ⟨e, he⟩ : ∃ e, ds[d]? = some e := get_of rfl dl
  have eg : ds.getD d (0, 0) = e := by rw [List.getD_eq_getElem?_getD, he]; rfl
  have hd : d < S.2.length := by rw [o.doors]; exact dl
  obtain ⟨p', hp⟩ : ∃ p, S.2[d]? = some p := get_of rfl hd
  have ep' : S.2.getD d 0 = p' := by rw [List.getD_eq_getElem?_getD, hp]; rfl
  have epp : p = p' := ep.trans ep'
  subst epp
  have lp := o.bars p (List.mem_of_getElem? hp)
  obtain ⟨r, hr⟩ : ∃ r, S.1[p]? = some r := get_of rfl lp
  have er : S.1.getD p 0 = r := by rw [List.getD_eq_getElem?_getD, hr]; rfl
  have hl : (L, d, p) ∈ lmOf (ds.getD d (0, 0)) S d p := hl
  rw [eg] at hl
  unfold lmOf at hl
  rw [er] at hl
  by_cases near : r = e.1 ∨ r = e.2
  case neg =>
    rw [if_neg near] at hl
    cases hl
  rw [if_pos near, List.mem_singleton] at hl
  have eL : L = S.1.set p (oth e r) := (Prod.mk.inj hl).1
  subst eL
  have j : Joins ds d (oth e r) r := by
    unfold oth
    rcases near with c | c
    · rw [if_pos c, c]
      exact .inr he
    · by_cases c2 : r = e.1
      · rw [if_pos c2, c2]
        exact .inr he
      · rw [if_neg c2, c]
        exact .inl he
  obtain ⟨lo, _, _, nor⟩ := j.lt T
  have ed := dix_is T j
  refine ⟨⟨?_, ?_, ?_, ?_, ?_⟩, (p, oth e r, r), ⟨?_, ?_, d, j, ?_⟩, ?_, ?_⟩
  · show 1 ≤ (S.1.set p (oth e r)).length
    rw [List.length_set]
    exact o.one
  · show (S.1.set p (oth e r)).length ≤ _
    rw [List.length_set]
    exact o.few
  · intro y hy
    rcases List.mem_or_eq_of_mem_set hy with h | h
    · exact o.rooms y h
    · rw [h]
      exact lo
  · show (S.2.set d b).length = _
    rw [List.length_set]
    exact o.doors
  · intro y hy
    show y < (S.1.set p (oth e r)).length
    rw [List.length_set]
    rcases List.mem_or_eq_of_mem_set hy with h | h
    · exact o.bars y h
    · rw [h]
      exact hb
  · show p < (S.1.set p (oth e r)).length
    rw [List.length_set]
    exact lp
  · show (S.1.set p (oth e r))[p]? = _
    rw [List.getElem?_set_self lp]
  · show (S.2.set d b)[d]? ≠ _
    rw [List.getElem?_set_self hd]
    exact fun z => ne (Option.some.inj z)
  · show ((S.1.set p (oth e r)).set p r, (S.2.set d b).set (dix ds (oth e r) r) p) = S
    rw [ed, set_back hr, set_back hp]
  · show (S.1.set p (oth e r)).getD p 0 ≠ S.1.getD p 0
    rw [er, List.getD_eq_getElem?_getD, List.getElem?_set_self lp]
    exact nor
theorem bef_unbef {b p : Nat} (h : b ≠ p) : bef (unbef b p) p = b := by
  unfold bef unbef
  by_cases c : b < p
  · rw [if_pos c, if_pos c]
  · rw [if_neg c, if_neg (by omega)]
    omega
theorem bef_ne (o p : Nat) : bef o p ≠ p := by
  unfold bef
  split <;> omega
theorem bef_lt {o p m : Nat} (h : o < m) (hp : p < m + 1) : bef o p < m + 1 := by
  unfold bef
  split <;> omega
theorem unbef_lt {b p m : Nat} (h : b < m + 1) (hp : p < m + 1) (ne : b ≠ p) : unbef b p < m := by
  unfold unbef
  split <;> omega
/-- states, one behind the other -/
theorem dSs_lay : ∀ Ss : List S2, PyData.canLayAll0 (Ss.map dS) = true
  | [] => by simp [PyData.canLayAll0]
  | S :: Ss => by simp only [List.map_cons, PyData.canLayAll0, dS, PyData.canLay0, dIs_lay, Bool.true_and, Bool.and_true]; exact dSs_lay Ss
theorem dSs_depth : ∀ Ss : List S2, PyData.depthAll (Ss.map dS) ≤ 10
  | [] => by simp [PyData.depthAll]
  | S :: Ss => by
    have h1 := dSs_depth Ss
    have h2 := dIs_depth S.1
    have h3 := dIs_depth S.2
    simp only [List.map_cons, PyData.depthAll, dS, PyData.depth]
    omega
theorem dSs_shaped (Ss : List S2) : SeqAt.shaped (.list (Ss.map dS)) = true := by
  refine shaped_mk ?_ ?_
  · simp only [PyData.canLay0]
    exact dSs_lay Ss
  · have := dSs_depth Ss
    simp only [PyData.depth]
    omega
end K5

namespace K5
open PySem PySem.Spec PyProof.Rows L2
theorem get_flatMap {α β : Type} (f : α → List β) (m : Nat) (hm0 : 0 < m) : ∀ (l : List α), (∀ x ∈ l, (f x).length = m) → ∀ i, (l.flatMap f)[i]? = (l[i / m]?).bind fun x => (f x)[i % m]?
  | [], _, i => by simp
  | x :: r, h, i => by
    have hx := h x List.mem_cons_self
    rw [List.flatMap_cons]
    by_cases c : i < m
    · rw [List.getElem?_append_left (by omega), Nat.div_eq_of_lt c, Nat.mod_eq_of_lt c]
      rfl
    · have ih := get_flatMap f m hm0 r (fun y hy => h y (List.mem_cons_of_mem _ hy)) (i - m)
      rw [List.getElem?_append_right (by omega), hx, ih]
      have e1 : i / m = (i - m) / m + 1 := by
        rw [Nat.div_eq_sub_div hm0 (by omega)]
      have e2 : i % m = (i - m) % m := Nat.mod_eq_sub_mod (by omega)
      rw [e1, e2, List.getElem?_cons_succ]
theorem len_flatMap {α β : Type} (f : α → List β) (m : Nat) : ∀ (l : List α), (∀ x ∈ l, (f x).length = m) → (l.flatMap f).length = l.length * m
  | [], _ => by simp
  | x :: r, h => by
    rw [List.flatMap_cons, List.length_append, h x List.mem_cons_self, len_flatMap f m r fun y hy => h y (List.mem_cons_of_mem _ hy), List.length_cons, Nat.succ_mul, Nat.add_comm]
theorem srtd_lt {ds : List (Nat × Nat)} {S : S2} {n : Nat} (ok : StOk n ds S) {x : Lm} (hx : x ∈ srtd ds S) : x.2.2 < S.1.length ∧ x.2.1 < ds.length ∧ x.2.2 = S.2.getD x.2.1 0 ∧ x ∈ lms ds S ds.length := by
  unfold srtd at hx
  rw [List.mem_mergeSort] at hx
  obtain ⟨a, b, c⟩ := mem_lms hx
  obtain ⟨p, hp⟩ : ∃ p, S.2[x.2.1]? = some p := get_of ok.doors a
  have ep : x.2.2 = p := by rw [b, List.getD_eq_getElem?_getD, hp]; rfl
  exact ⟨by rw [ep]; exact ok.bars p (List.mem_of_getElem? hp), a, b, hx⟩
theorem befs_is {S : S2} {x : Lm} (h : x.2.2 < S.1.length) : befs S x = (List.range (S.1.length - 1)).map fun o => (x.1, S.2.set x.2.1 (bef o x.2.2)) := by
  unfold befs
  rw [range_but h, List.map_map]
  rfl
noncomputable def cntS (ds : List (Nat × Nat)) (S : S2) : Nat := (srtd ds S).length * (S.1.length - 1)
theorem prevs_len {ds : List (Nat × Nat)} {S : S2} {n : Nat} (ok : StOk n ds S) : (prevs ds S).length = cntS ds S :=
  len_flatMap _ _ _ fun x hx => by rw [befs_is (srtd_lt ok hx).1, List.length_map, List.length_range]
theorem prevs_get {ds : List (Nat × Nat)} {S : S2} {n : Nat} (ok : StOk n ds S) {i : Nat} {X : S2} (h : (prevs ds S)[i]? = some X) :
    ∃ x, (srtd ds S)[i / (S.1.length - 1)]? = some x ∧ x ∈ srtd ds S ∧ X = (x.1, S.2.set x.2.1 (bef (i % (S.1.length - 1)) x.2.2)) ∧ i % (S.1.length - 1) < S.1.length - 1 := by
  have hi := get_lt h
  rw [prevs_len ok] at hi
  unfold cntS at hi
  have pos : 0 < S.1.length - 1 := Nat.pos_of_ne_zero fun z => by
    rw [z, Nat.mul_zero] at hi
    exact absurd hi (Nat.not_lt_zero _)
  unfold prevs at h
  rw [get_flatMap _ (S.1.length - 1) pos _ (fun x hx => by rw [befs_is (srtd_lt ok hx).1, List.length_map, List.length_range])] at h
  cases e : (srtd ds S)[i / (S.1.length - 1)]? with
  | none => rw [e] at h; cases h
  | some x =>
    rw [e] at h
    have hx := List.mem_of_getElem? e
    have h : (befs S x)[i % (S.1.length - 1)]? = some X := h
    have lm := Nat.mod_lt i pos
    rw [befs_is (srtd_lt ok hx).1, List.getElem?_map, List.getElem?_range lm] at h
    exact ⟨x, rfl, hx, (Option.some.inj h).symm, lm⟩
theorem nodup_srtd (ds : List (Nat × Nat)) (S : S2) : (srtd ds S).Nodup := (List.mergeSort_perm _ _).nodup_iff.mpr (nodup_lms ds S _)
/-- a state one move before, and its number -/
theorem prev_facts {ds : List (Nat × Nat)} {S : S2} {n : Nat} (T : Tree n ds) (ok : StOk n ds S) {i : Nat} {X : S2} (h : (prevs ds S)[i]? = some X) : StOk n ds X ∧ X.1.length = S.1.length ∧ (∃ m, Can ds X m ∧ nxt ds X m = S) ∧
    ∃ x, (srtd ds S)[i / (S.1.length - 1)]? = some x ∧ Bfr S X x ∧ X = (x.1, S.2.set x.2.1 (bef (i % (S.1.length - 1)) x.2.2)) ∧
      ∀ (k : Nat) (y : Lm), (srtd ds S)[k]? = some y → Bfr S X y → y = x ∧ k * (S.1.length - 1) + unbef (X.2.getD y.2.1 0) y.2.2 = i := by
  obtain ⟨x, h1, hx, eX, lm⟩ := prevs_get ok h
  obtain ⟨a1, a2, a3, a4⟩ := srtd_lt ok hx
  have hd : x.2.1 < S.2.length := by rw [ok.doors]; exact a2
  have eb : X.2.getD x.2.1 0 = bef (i % (S.1.length - 1)) x.2.2 := by
    rw [eX, List.getD_eq_getElem?_getD]
    show ((S.2.set x.2.1 _)[x.2.1]?).getD 0 = _
    rw [List.getElem?_set_self hd]
    rfl
  have bl : bef (i % (S.1.length - 1)) x.2.2 < S.1.length := by
    have := bef_lt lm (p := x.2.2) (by omega)
    omega
  obtain ⟨o, m, c1, c2, _⟩ := step_bfr T ok hx bl (bef_ne _ _)
  rw [← eX] at o c1 c2
  have bfr : Bfr S X x := ⟨by rw [eb]; exact bef_ne _ _, by rw [eb]; exact eX⟩
  have ol := o.one
  refine ⟨o, ?_, ⟨m, c1, c2⟩, x, h1, bfr, eX, fun k y hy by_ => ?_⟩
  · have := congrArg (fun Z : S2 => Z.1.length) c2
    simpa [nxt_len] using this
  · have ey : y = x := lms_rooms T ok (srtd_lt ok (List.mem_of_getElem? hy)).2.2.2 a4 (by
      have e1 : X.1 = y.1 := congrArg Prod.fst by_.2
      have e2 : X.1 = x.1 := congrArg Prod.fst bfr.2
      rw [← e1, ← e2])
    subst ey
    have ek : k = i / (S.1.length - 1) := (List.getElem?_inj (get_lt hy) (nodup_srtd ds S)).mp (hy.trans h1.symm)
    refine ⟨rfl, ?_⟩
    have eu : unbef (bef (i % (S.1.length - 1)) y.2.2) y.2.2 = i % (S.1.length - 1) := by
      unfold unbef bef
      by_cases c : i % (S.1.length - 1) < y.2.2
      · rw [if_pos c, if_pos c]
      · rw [if_neg c, if_neg (by omega)]
        omega
    rw [eb, eu, ek, Nat.mul_comm]
    exact Nat.div_add_mod i _
theorem bfr_mem {ds : List (Nat × Nat)} {S X : S2} {n : Nat} (ok : StOk n ds S) (okX : StOk n ds X) (el : X.1.length = S.1.length) {x : Lm} (hx : x ∈ srtd ds S) (h : Bfr S X x) : X ∈ prevs ds S := by
  obtain ⟨a1, a2, a3, a4⟩ := srtd_lt ok hx
  unfold prevs
  rw [List.mem_flatMap]
  refine ⟨x, hx, ?_⟩
  unfold befs
  rw [List.mem_map]
  obtain ⟨b, hb⟩ : ∃ b, X.2[x.2.1]? = some b := get_of okX.doors a2
  have eb : X.2.getD x.2.1 0 = b := by rw [List.getD_eq_getElem?_getD, hb]; rfl
  have lb := okX.bars b (List.mem_of_getElem? hb)
  refine ⟨b, List.mem_filter.mpr ⟨List.mem_range.mpr (by omega), decide_eq_true (by rw [← eb]; exact h.1)⟩, ?_⟩
  rw [← eb]
  exact h.2.symm
theorem bfr_self {ds : List (Nat × Nat)} {S : S2} {n : Nat} (ok : StOk n ds S) {x : Lm} (hx : x ∈ srtd ds S) : ¬ Bfr S S x := fun h => h.1 (srtd_lt ok hx).2.2.1.symm
theorem any_S (X : S2) : ∀ l : List S2, ((l.map dS).any fun z => PyData.eqv z (dS X)) = decide (X ∈ l)
  | [] => by simp
  | A :: r => by
    rw [List.map_cons, List.any_cons, any_S X r, dS_eqv, ← Bool.decide_or, decide_eq_decide, List.mem_cons]
    exact or_congr eq_comm Iff.rfl
theorem StsAt.but {K : PySem.W.Frag} {H H' : Hp} {ts : List Addr} {l : List S2} {g : Addr} {xs : List V} (h : StsAt K H ts l) (hg : H g = some (.lst xs)) (s : But g H H') : StsAt K H' ts l := ⟨h.1, fun i t X a b => (h.2 i t X a b).but hg s⟩
end K5

namespace K5
open PySem PySem.Spec PyProof.Rows L2
/-- the first k rooms that are their own mark -/
def rt (M : List Nat) (k : Nat) : List Nat := (List.range k).filter fun x => decide (M[x]? = some x)
theorem mem_rt {M : List Nat} {k x : Nat} : x ∈ rt M k ↔ x < k ∧ M[x]? = some x := by
  unfold rt
  rw [List.mem_filter, List.mem_range, decide_eq_true_eq]
theorem Mk.self {n ds S M J} (h : Mk n ds S M J) {x m : Nat} (e : M[x]? = some m) : M[m]? = some m := by
  obtain ⟨le, c⟩ := h.le x m e
  have hx : x < n := by have := get_lt e; rwa [h.len] at this
  have e2 := h.con c
  rw [h.get (show m < n by omega), ← e2, List.getD_eq_getElem?_getD, e]
  rfl
/-- marks, and one root less for each door joined -/
def MkC (n : Nat) (ds : List (Nat × Nat)) (S : S2) (M J : List Nat) : Prop := Mk n ds S M J ∧ (rt M n).length + J.length = n
theorem rt_join {n : Nat} {M : List Nat} {lo hi : Nat} (hl : M[lo]? = some lo) (hh : M[hi]? = some hi) (ne : lo ≠ hi) (hn : hi < n) : (rt (join M lo hi) n).length + 1 = (rt M n).length := by
  have e : rt (join M lo hi) n = (rt M n).erase hi := by
    have nd : (rt M n).Nodup := List.nodup_range.filter _
    rw [nd.erase_eq_filter]
    unfold rt
    rw [List.filter_filter]
    refine List.filter_congr fun x _ => ?_
    unfold join
    rw [List.getElem?_map]
    cases c : M[x]? with
    | none => simp
    | some v =>
      by_cases cv : v = hi
      · subst cv
        have h1 : ¬ lo = x := fun z => by
          subst z
          rw [hl] at c
          exact ne (Option.some.inj c)
        have h2 : ¬ (v = x ∧ x ≠ v) := fun z => z.2 z.1.symm
        simp [h1]
        omega
      · simp [cv]
        omega
  have m : hi ∈ rt M n := mem_rt.mpr ⟨hn, hh⟩
  rw [e, List.length_erase_of_mem m]
  have := List.length_pos_of_mem m
  omega
theorem MkC.start {ds : List (Nat × Nat)} {S : S2} (n : Nat) : MkC n ds S (List.range n) [] := by
  refine ⟨.start n, ?_⟩
  have : rt (List.range n) n = List.range n := by
    unfold rt
    rw [List.filter_eq_self]
    intro x hx
    rw [List.mem_range] at hx
    rw [List.getElem?_range hx]
    exact decide_eq_true rfl
  rw [this, List.length_range]
  rfl
theorem MkC.step {n : Nat} {ds : List (Nat × Nat)} {S : S2} {M J : List Nat} (T : Tree n ds) (h : MkC n ds S M J) {d a b p r : Nat} (hd : ds[d]? = some (a, b)) (ne : M.getD a 0 ≠ M.getD b 0) (hp : S.2[d]? = some p) (hr : S.1[p]? = some r) (hrn : r < n) (near : M.getD r 0 = M.getD a 0 ∨ M.getD r 0 = M.getD b 0) :
    MkC n ds S (join M (min (M.getD a 0) (M.getD b 0)) (max (M.getD a 0) (M.getD b 0))) (d :: J) := by
  refine ⟨h.1.step T hd ne hp hr hrn near, ?_⟩
  obtain ⟨la, lb, _, _⟩ := (show Joins ds d a b from .inl hd).lt T
  have sa := h.1.self (h.1.get la)
  have sb := h.1.self (h.1.get lb)
  have l1 := h.1.lo la
  have l2 := h.1.lo lb
  generalize M.getD a 0 = ma at *
  generalize M.getD b 0 = mb at *
  have hmin : M[min ma mb]? = some (min ma mb) := by
    by_cases c : ma ≤ mb
    · rw [Nat.min_eq_left c]
      exact sa
    · rw [Nat.min_eq_right (by omega)]
      exact sb
  have hmax : M[max ma mb]? = some (max ma mb) := by
    by_cases c : ma ≤ mb
    · rw [Nat.max_eq_right c]
      exact sb
    · rw [Nat.max_eq_left (by omega)]
      exact sa
  have := rt_join (n := n) hmin hmax (by omega) (by omega)
  have := h.2
  rw [List.length_cons]
  omega
def spMarks (K : PySem.W.Frag) : Sp := fun vs H Q _ => ∃ (a s : Addr) (ds : List (Nat × Nat)) (n : Nat) (S : S2), vs = [.ref a, .ref s] ∧ HouseAt K H a ds ∧ Tree n ds ∧ n ≤ 1000 ∧ StateAt K H s S ∧ StOk n ds S ∧
  ∀ (H' : Hp) (q : Addr) (M J : List Nat), Same H H' → H q = none → H' q = some (.lst (nv M)) → MkC n ds S M J → (∀ d, d < ds.length → Closed ds S M d) → Q (.ref q) H'
theorem join_nv (M : List Nat) (lo hi : Nat) (i : Nat) {x : Nat} (h : M[i]? = some x) : (join M lo hi).take (i + 1) = (join M lo hi).take i ++ [if x = hi then lo else x] := by
  have hl := get_lt h
  have : (join M lo hi)[i]? = some (if x = hi then lo else x) := by unfold join; rw [List.getElem?_map, h]; rfl
  rw [List.take_succ, this]
  rfl
section
variable {P : Program} {w : World} {K : PySem.W.Frag}
      {mg : Str → Option Value} {base : Heap}
theorem ok_group_marks (T : Bl mg) (D : Def K mg "group_marks" s_group_marks) : Cal P w K mg base "group_marks" ["house", "state"] 1 (spMarks K) := by
  refine D.ok sc_group_marks (fun _ _ _ _ _ _ us hl => match us, hl with | [_, _], _ => rfl) (fun vs H Q E h => ?_) (fun f cdv A outer s H vs Q E hr h => ?_)
  · obtain ⟨a, s, ds, n, S, rfl, _⟩ := h
    rfl
  obtain ⟨a, s, ds, n, S, rfl, hH, tree, hn, st, ok, q⟩ := h
  obtain ⟨rs, hrs, hlen, hds⟩ := id hH
  obtain ⟨r, b, h1, h2, h3⟩ := id st
  have hdn := tree.len
  refine ⟨_, (pss_cons (ps_asg (pv 1) (pg_tup (n := 2) rfl (pgs_cons (pg_name (i := 2) sc_group_marks.nd rfl (.inl rfl)) (pgs_cons (pg_name (i := 3) sc_group_marks.nd rfl (.inl rfl)) pgs_nil))))
    (pss_cons (ps_set (i := 4) sc_group_marks.nd rfl (.inl rfl) (pe_listRg rfl (by rfl) T.list (prg_1 (by rfl) T.range (pe_op op_add (pe_callB call_len_seq (by rfl) T.len PySem.boot_len (pa_cons (pv 0) pa_nil)) pe_int))))
    (pss_cons (ps_set (i := 5) sc_group_marks.nd rfl (.inl rfl) pe_bl)
    (pss_cons (ps_while PassesOwn.never (pt_truth (pv 5) (by intro _; rfl)) (pss_cons (ps_set (i := 5) sc_group_marks.nd rfl (.inl rfl) pe_bl)
    (pss_one (ps_for PassesOwn.never rfl (pi_enumT (by rfl) T.enumerate (pa_cons (pv 0) pa_nil)) (pg_tup (n := 2) rfl (pgs_cons (pg_name (i := 6) sc_group_marks.nd rfl (.inl rfl)) (pgs_cons (pg_tup (n := 2) rfl (pgs_cons (pg_name (i := 7) sc_group_marks.nd rfl (.inl rfl)) (pgs_cons (pg_name (i := 8) sc_group_marks.nd rfl (.inl rfl)) pgs_nil))) pgs_nil)))
    (pss_cons (ps_set (i := 9) sc_group_marks.nd rfl (.inr rfl) (pe_callB (call_min2 rfl) (by rfl) T.min (by decide +kernel) (pa_cons (pe_ix ix_list (pv 4) (pv 7) (fun _ _ => rfl)) (pa_cons (pe_ix ix_list (pv 4) (pv 8) (fun _ _ => rfl)) pa_nil))))
    (pss_cons (ps_set (i := 10) sc_group_marks.nd rfl (.inr rfl) (pe_callB (call_max2 rfl) (by rfl) T.max (by decide +kernel) (pa_cons (pe_ix ix_list (pv 4) (pv 7) (fun _ _ => rfl)) (pa_cons (pe_ix ix_list (pv 4) (pv 8) (fun _ _ => rfl)) pa_nil))))
    (pss_one (ps_if (PW.pt (pw_and (pt_cmpR op_ne (pv 9) (pv 10) (nomark _)) (pw_and1 (pt_cmpR op_in_seq (pe_ix ix_list (pv 4) (pe_ix ix_tup (pv 2) (pe_ix ix_tup (pv 3) (pv 6) (fun _ _ => rfl)) (fun _ _ => rfl)) (fun _ _ => rfl)) (pe_tup (pa_cons (pv 9) (pa_cons (pv 10) pa_nil))) (by rfl))))) (pss_cons (ps_setLc (i := 4) (own := [("mark", 11)]) (g := gName 11)  rfl sc_group_marks.nd rfl rfl (sw_true rfl rfl rfl (by decide +kernel)) (pi_list (pv 4)) (blkOk_by (N := N_group_marks) (sc := defScope s_group_marks) (own := [("mark", 11)]) (by decide +kernel)) (fun _ _ _ _ _ => (pg_name (i := 11) sc_group_marks.nd rfl (.inl rfl) (.inr rfl))) (fun _ _ _ _ _ => pts_nil) (fun _ _ _ _ _ => (pe_ifExp (pt_cmpR op_eq (pv 11) (pv 10) (nomark _)) (pv 9) (pv 11))))
    (pss_one (ps_set (i := 5) sc_group_marks.nd rfl (.inl rfl) pe_bl))) pss_nil))))))))
    (pss_one (ps_ret (pv 4))))))), ?_⟩
  have e1 : (((rs.map V.ref).length : Nat) : Int) + 1 = ((n : Nat) : Int) := by
    rw [List.length_map, hlen]
    omega
  refine ⟨_, rfl, _, _, rfl, h1, rfl, _, _, rfl, _, _, rfl, rfl, ?_⟩
  refine ⟨_, rfl, _, _, rfl, .inr hrs, _, _, rfl, rfl, _, rfl, .of_le (Int.le_refl _) (by omega) (by omega) (by omega), fun q0 nq => ?_⟩
  rw [e1, rgV_nat]
  refine ⟨fun m σ H1 => ∃ (M J : List Nat) (g : Bool) (q1 : Addr) (y6 y7 y8 y9 y10 y11 : Option V), m = 2 * (ds.length - J.length) + (if g then 1 else 0) ∧ σ = [some (.ref a), some (.ref s), some (.ref r), some (.ref b), some (.ref q1), some (.bl g), y6, y7, y8, y9, y10, y11] ∧ Same H H1 ∧ H q1 = none ∧ H1 q1 = some (.lst (nv M)) ∧ MkC n ds S M J ∧ (g = false → ∀ d, d < ds.length → Closed ds S M d), ?_, fun m σ H1 hW => ?_⟩
  · exact ⟨_, List.range n, [], true, q0, _, _, _, _, _, _, rfl, rfl, Same.upd nq, nq, upd_same, MkC.start n, fun z => nomatch z⟩
  obtain ⟨M, J, g, q1, y6, y7, y8, y9, y10, y11, rfl, rfl, sm, nq1, hq1, mk, cl⟩ := hW
  refine ⟨_, rfl, _, rfl, ?_⟩
  cases g with
  | false => 
    refine iteF ⟨_, rfl, q H1 q1 M J sm nq1 hq1 mk (cl rfl)⟩
  | true =>
    refine iteT ?_
    refine ⟨fun σ' H' => ∃ (M' J' : List Nat) (g : Bool) (q1 : Addr) (y6 y7 y8 y9 y10 y11 : Option V), J.length ≤ J'.length ∧ (g = true → J.length < J'.length) ∧ σ' = [some (.ref a), some (.ref s), some (.ref r), some (.ref b), some (.ref q1), some (.bl g), y6, y7, y8, y9, y10, y11] ∧ Same H H' ∧ H q1 = none ∧ H' q1 = some (.lst (nv M')) ∧ MkC n ds S M' J' ∧ (g = false → ∀ d, d < ds.length → Closed ds S M' d), ?_, ?_⟩
    · intro σ' H' h
      obtain ⟨M', J', g, q2, z6, z7, z8, z9, z10, z11, l1, l2, hσ, sm', nq2, hq2, mk', cl'⟩ := h
      have f1 := mk.1.few
      have f2 := mk'.1.few
      refine ⟨_, ?_, M', J', g, q2, z6, z7, z8, z9, z10, z11, rfl, hσ, sm', nq2, hq2, mk', cl'⟩
      cases g with
      | false => simp; omega
      | true => have := l2 rfl; simp; omega
    refine ⟨_, rfl, a, _, rfl, sm.tup hrs, ?_⟩
    refine for_it (walk_enumT (K := K) (a := a) (xs := rs.map V.ref)) (fun k σ H2 => ∃ (M' J' : List Nat) (g : Bool) (q2 : Addr) (y6 y7 y8 y9 y10 y11 : Option V), J.length ≤ J'.length ∧ (g = true → J.length < J'.length) ∧ σ = [some (.ref a), some (.ref s), some (.ref r), some (.ref b), some (.ref q2), some (.bl g), y6, y7, y8, y9, y10, y11] ∧ Same H H2 ∧ H q2 = none ∧ H2 q2 = some (.lst (nv M')) ∧ MkC n ds S M' J' ∧ (g = false → ∀ d, d < k → Closed ds S M' d))
      ⟨M, J, false, q1, _, _, _, _, _, _, Nat.le_refl _, (by intro z; cases z), rfl, sm, nq1, hq1, mk, fun _ d hd => absurd hd (Nat.not_lt_zero _)⟩ (fun i σ H1 _ ⟨_, _, _, _, _, _, _, _, _, _, _, _, _, sm, _⟩ => sm.tup hrs) ?_ ?_
    · rintro k x σ H2 H3 hk ⟨M2, J2, g, q2, z6, z7, z8, z9, z10, z11, l1, l2, rfl, sm2, nq2, hq2, mk2, cl2⟩ ⟨t, x1, x2, rfl, nt, rfl, ex1, ex2⟩
      cases ex1
      have mkc := mk2
      have mk2 := mkc.1
      have hk' : k < ds.length := by
        rw [List.length_map, hlen] at hk
        exact hk
      obtain ⟨e, he⟩ : ∃ e, ds[k]? = some e := get_of rfl hk'
      obtain ⟨r1, hr0⟩ : ∃ r, rs[k]? = some r := get_of hlen hk'
      have ex2' : V.ref r1 = x2 := by
        have ex2 : (rs.map V.ref)[k]? = some x2 := ex2
        rw [List.getElem?_map, hr0] at ex2
        exact Option.some.inj ex2
      subst ex2'
      have smt : Same H2 (upd H2 t (.tup [.int (k : Nat), .ref r1])) := Same.upd nt
      have hrd := smt.tup (sm2.tup (hds k r1 e hr0 he))
      have hq3 := smt _ _ hq2
      have sm3 := sm2.trans smt
      have elt := tree.lt e (List.mem_of_getElem? he)
      refine ⟨t, _, rfl, SqT.of upd_same, rfl, _, _, rfl, _, _, rfl, ⟨r1, _, rfl, hrd, rfl, _, _, rfl, _, _, rfl, rfl, rfl, ?_⟩⟩
      generalize upd H2 t (.tup [.int (k : Nat), .ref r1]) = H4 at sm3 hq3 smt
      have ga := mk2.get elt.1
      have gb := mk2.get elt.2
      refine ⟨_, rfl, _, rfl, _, _, _, _, rfl, rfl, SqL.of hq3, nv_at ga, _, rfl, _, rfl, _, _, _, _, rfl, rfl, SqL.of hq3, nv_at gb, _, _, rfl, ?_⟩
      refine ⟨_, rfl, _, rfl, _, _, _, _, rfl, rfl, SqL.of hq3, nv_at ga, _, rfl, _, rfl, _, _, _, _, rfl, rfl, SqL.of hq3, nv_at gb, _, _, rfl, ?_⟩
      have emin : (if ((M2.getD e.2 0 : Nat) : Int) < ((M2.getD e.1 0 : Nat) : Int) then ((M2.getD e.2 0 : Nat) : Int) else ((M2.getD e.1 0 : Nat) : Int)) = ((min (M2.getD e.1 0) (M2.getD e.2 0) : Nat) : Int) := by split <;> omega
      have emax : (if ((M2.getD e.2 0 : Nat) : Int) > ((M2.getD e.1 0 : Nat) : Int) then ((M2.getD e.2 0 : Nat) : Int) else ((M2.getD e.1 0 : Nat) : Int)) = ((max (M2.getD e.1 0) (M2.getD e.2 0) : Nat) : Int) := by split <;> omega
      rw [emin, emax]
      refine ⟨_, rfl, _, rfl, rfl, _, rfl, ?_⟩
      have dne : (decide (V.int ((min (M2.getD e.1 0) (M2.getD e.2 0) : Nat) : Int) = V.int ((max (M2.getD e.1 0) (M2.getD e.2 0) : Nat) : Int))) = decide (M2.getD e.1 0 = M2.getD e.2 0) := by
        rw [decide_eq_decide]
        exact ⟨fun z => by have := V.int.inj z; omega, fun z => by rw [z, Nat.min_self, Nat.max_self]⟩
      rw [dne]
      by_cases c : M2.getD e.1 0 = M2.getD e.2 0
      · rw [decide_eq_true c]
        refine iteF (iteF ⟨M2, J2, g, q2, _, _, _, _, _, _, l1, l2, rfl, sm3, nq2, hq3, mkc, fun hg d hd => ?_⟩)
        rcases Nat.lt_succ_iff_lt_or_eq.mp hd with hd | rfl
        · exact cl2 hg d hd
        · intro a' b' p' r' hab _ _
          rw [he] at hab
          cases hab
          exact .inl c
      rw [decide_eq_false c]
      obtain ⟨p, hp⟩ : ∃ p, S.2[k]? = some p := get_of ok.doors hk'
      have lp := ok.bars p (List.mem_of_getElem? hp)
      obtain ⟨x2, hx2⟩ : ∃ x, S.1[p]? = some x := get_of rfl lp
      have lx2 := ok.rooms x2 (List.mem_of_getElem? hx2)
      have gx := mk2.get lx2
      have h24 := sm3.tup h2
      have h34 := sm3.tup h3
      refine iteT ⟨_, rfl, _, rfl, _, rfl, _, rfl, _, _, _, _, rfl, rfl, h34, nv_at hp, _, _, _, _, rfl, rfl, h24, nv_at hx2, _, _, _, _, rfl, rfl, SqL.of hq3, nv_at gx, _, rfl, _, rfl, by show 2 ≤ sizeLine; decide, fun t2 nt2 => ?_⟩
      have s5 : Same H4 (upd H4 t2 (.tup [.int ((min (M2.getD e.1 0) (M2.getD e.2 0) : Nat) : Int), .int ((max (M2.getD e.1 0) (M2.getD e.2 0) : Nat) : Int)])) := Same.upd nt2
      have sm5 := sm3.trans s5
      have hq5 := s5 _ _ hq3
      refine ⟨t2, _, rfl, .inr (SqT.of upd_same), rfl, rfl, _, rfl, ?_⟩
      generalize (upd H4 t2 (.tup [.int ((min (M2.getD e.1 0) (M2.getD e.2 0) : Nat) : Int), .int ((max (M2.getD e.1 0) (M2.getD e.2 0) : Nat) : Int)])) = H5 at sm5 hq5
      show if inV (V.int ((M2.getD x2 0 : Nat) : Int)) [.int ((min (M2.getD e.1 0) (M2.getD e.2 0) : Nat) : Int), .int ((max (M2.getD e.1 0) (M2.getD e.2 0) : Nat) : Int)] = true then _ else _
      have din : inV (V.int ((M2.getD x2 0 : Nat) : Int)) [.int ((min (M2.getD e.1 0) (M2.getD e.2 0) : Nat) : Int), .int ((max (M2.getD e.1 0) (M2.getD e.2 0) : Nat) : Int)] = decide (M2.getD x2 0 = M2.getD e.1 0 ∨ M2.getD x2 0 = M2.getD e.2 0) := by
        rw [in_pair, ← Bool.decide_or, decide_eq_decide]
        omega
      rw [din]
      by_cases near : M2.getD x2 0 = M2.getD e.1 0 ∨ M2.getD x2 0 = M2.getD e.2 0
      · rw [decide_eq_true near]
        have mk3 := mkc.step tree he c hp hx2 lx2 near
        refine iteT ⟨_, rfl, q2, rfl, ⟨_, SqL.of hq5⟩, fun pd npd => ?_⟩
        generalize hlo : min (M2.getD e.1 0) (M2.getD e.2 0) = lo at mk3
        generalize hhi : max (M2.getD e.1 0) (M2.getD e.2 0) = hi at mk3
        have ml : M2.length = n := mk2.len
        have jl : (join M2 lo hi).length = n := mk3.1.len
        refine lc_it (walk_list (K := K) (a := q2) (xs := nv M2)) (fun i H6 => Same H5 H6 ∧ H6 pd = some (.lst (nv ((join M2 lo hi).take i)))) ⟨Same.upd npd, upd_same⟩ (fun i H6 _ h => SqL.of (h.1 _ _ hq5)) ?_ ?_
        · rintro i x H6 H7 hi' ⟨s6, hp6⟩ ⟨rfl, ex⟩
          obtain ⟨v, hv, rfl⟩ := nv_some ex
          have il := get_lt hv
          refine ⟨rfl, lcYes ?_⟩
          refine ⟨_, rfl, _, rfl, rfl, _, rfl, ?_⟩
          have tl : (nv ((join M2 lo hi).take i)).length < sizeLine := by
            rw [nv_len, List.length_take, jl]
            exact small1000 (by omega)
          by_cases cv : v = hi
          · rw [decide_eq_true (show V.int (v : Int) = V.int (hi : Int) by rw [cv])]
            refine iteT ⟨_, rfl, _, hp6, tl, s6.at npd, ?_⟩
            rw [upd_same, join_nv M2 lo hi i hv, if_pos cv, nv_snoc]
          · rw [decide_eq_false (show ¬ V.int (v : Int) = V.int (hi : Int) from fun z => cv (by have := V.int.inj z; omega))]
            refine iteF ⟨_, rfl, _, hp6, tl, s6.at npd, ?_⟩
            rw [upd_same, join_nv M2 lo hi i hv, if_neg cv, nv_snoc]
        · rintro H6 ⟨s6, hp6⟩
          rw [nv_len, ml, ← jl, List.take_length] at hp6
          refine ⟨join M2 lo hi, k :: J2, true, pd, _, _, _, _, _, _, by rw [List.length_cons]; omega, fun _ => by rw [List.length_cons]; omega, rfl, sm5.trans s6, sm5.free npd, hp6, mk3, fun z => nomatch z⟩
      · rw [decide_eq_false near]
        refine iteF ⟨M2, J2, g, q2, _, _, _, _, _, _, l1, l2, rfl, sm5, nq2, hq5, mkc, fun hg d hd => ?_⟩
        rcases Nat.lt_succ_iff_lt_or_eq.mp hd with hd | rfl
        · exact cl2 hg d hd
        · intro a' b' p' r' hab hp' hr'
          rw [he] at hab
          cases hab
          rw [hp] at hp'
          cases hp'
          rw [hx2] at hr'
          cases hr'
          exact .inr ⟨fun z => near (.inl z), fun z => near (.inr z)⟩
    · rintro σ H2 ⟨M2, J2, g, q2, z6, z7, z8, z9, z10, z11, l1, l2, rfl, sm2, nq2, hq2, mk2, cl2⟩
      rw [List.length_map, hlen] at cl2
      exact ⟨M2, J2, g, q2, z6, z7, z8, z9, z10, z11, l1, l2, rfl, sm2, nq2, hq2, mk2, cl2⟩
end
end K5

namespace K5
open PySem PySem.Spec PyProof.Rows L2
/-- those of the first k rooms that have the mark x -/
def gk (M : List Nat) (x k : Nat) : List Nat := (List.range k).filter fun y => decide (M[y]? = some x)
/-- the groups -/
def grps (M : List Nat) : List (List Nat) := (rt M M.length).map fun x => gk M x M.length
/-- the doors inside the groups -/
def exd (M : List Nat) (ds : List (Nat × Nat)) : List Nat := (List.range ds.length).filter fun d => decide (M.getD (ds.getD d (0, 0)).1 0 = M.getD (ds.getD d (0, 0)).2 0)
/-- a list at q of new lists, all apart -/
def NewLs (H0 H : Hp) (q : Addr) (Ls : List (List Nat)) : Prop := ∃ rs : List Addr, H q = some (.lst (rs.map V.ref)) ∧ rs.length = Ls.length ∧ rs.Nodup ∧ H0 q = none ∧ ∀ (i : Nat) (r : Addr) (L : List Nat), rs[i]? = some r → Ls[i]? = some L → r ≠ q ∧ H0 r = none ∧ H r = some (.lst (nv L))
theorem rt_succ (M : List Nat) (k : Nat) : rt M (k + 1) = rt M k ++ (if M[k]? = some k then [k] else []) := by
  unfold rt
  rw [List.range_succ, List.filter_append]
  by_cases c : M[k]? = some k
  · rw [if_pos c]
    simp [c]
  · rw [if_neg c]
    simp [c]
theorem gk_succ (M : List Nat) (x k : Nat) : gk M x (k + 1) = gk M x k ++ (if M[k]? = some x then [k] else []) := by
  unfold gk
  rw [List.range_succ, List.filter_append]
  by_cases c : M[k]? = some x
  · rw [if_pos c]
    simp [c]
  · rw [if_neg c]
    simp [c]
theorem gk_none {M : List Nat} {k : Nat} (h : ∀ x m : Nat, M[x]? = some m → m ≤ x) : gk M k k = [] := by
  unfold gk
  rw [List.filter_eq_nil_iff]
  intro y hy
  rw [decide_eq_true_eq]
  intro z
  have := h _ _ z
  rw [List.mem_range] at hy
  omega
theorem gk_len (M : List Nat) (x k : Nat) : (gk M x k).length ≤ k := by
  have := List.length_filter_le (fun y => decide (M[y]? = some x)) (List.range k)
  rwa [List.length_range] at this
theorem rt_len (M : List Nat) (k : Nat) : (rt M k).length ≤ k := by
  have := List.length_filter_le (fun x => decide (M[x]? = some x)) (List.range k)
  rwa [List.length_range] at this
theorem rt_nd (M : List Nat) (k : Nat) : (rt M k).Nodup := List.nodup_range.filter _
/-- a dict of rooms and references -/
def kvA (A : Nat → Addr) (l : List Nat) : List (Key × V) := l.map fun x : Nat => ((Sum.inl (x : Int) : Key), V.ref (A x))
theorem kvA_at (A : Nat → Addr) : ∀ (l : List Nat) (v : Nat), valV (kvA A l) (Sum.inl (v : Int)) = if v ∈ l then some (V.ref (A v)) else none
  | [], v => by simp [kvA, valV_nil]
  | x :: l, v => by
    by_cases e : x = v
    · subst e
      rw [if_pos List.mem_cons_self]
      exact valV_pos (p := ((Sum.inl (x : Int) : Key), V.ref (A x))) rfl
    · have ne : ¬ (((Sum.inl (x : Int) : Key), V.ref (A x)) : Key × V).1 = Sum.inl (v : Int) := fun z => e (by have := Sum.inl.inj z; omega)
      have h := kvA_at A l v
      show valV (((Sum.inl (x : Int) : Key), V.ref (A x)) :: kvA A l) (Sum.inl (v : Int)) = _
      rw [valV_neg ne, h]
      have : (v ∈ x :: l) ↔ v ∈ l := by rw [List.mem_cons]; exact ⟨fun z => z.elim (fun z => absurd z.symm e) id, .inr⟩
      by_cases c : v ∈ l
      · rw [if_pos c, if_pos (this.mpr c)]
      · rw [if_neg c, if_neg (fun z => c (this.mp z))]
theorem kvA_congr {A B : Nat → Addr} {l : List Nat} (h : ∀ x ∈ l, A x = B x) : kvA A l = kvA B l := List.map_congr_left fun x hx => by rw [h x hx]
/-- the lists made so far -/
structure Gsf (H H1 : Hp) (M : List Nat) (d q0 : Addr) (A : Nat → Addr) (R : List Nat) (k : Nat) : Prop where
  sm : Same H H1
  hd : H1 d = some (.dK (kvA A R))
  hq : H1 q0 = some (.lst (nv M))
  ls : ∀ x ∈ R, H (A x) = none ∧ A x ≠ q0 ∧ A x ≠ d ∧ H1 (A x) = some (.lst (nv (gk M x k)))
  inj : ∀ x ∈ R, ∀ y ∈ R, A x = A y → x = y
theorem Gsf.app {H H1 M d q0 A R k v} (g : Gsf H H1 M d q0 A R k) (hv : v ∈ R) (e : M[k]? = some v) : Gsf H (upd H1 (A v) (.lst (nv (gk M v k) ++ [.int (k : Int)]))) M d q0 A R (k + 1) := by
  obtain ⟨a1, a2, a3, a4⟩ := g.ls v hv
  refine ⟨g.sm.at a1, by rw [upd_ne a3.symm]; exact g.hd, by rw [upd_ne a2.symm]; exact g.hq, fun x hx => ?_, g.inj⟩
  obtain ⟨b1, b2, b3, b4⟩ := g.ls x hx
  refine ⟨b1, b2, b3, ?_⟩
  by_cases c : x = v
  · subst c
    rw [upd_same, gk_succ, if_pos e, nv_snoc]
  · rw [upd_ne (fun z => c (g.inj x hx v hv z)), gk_succ, if_neg (fun z => c (by rw [e] at z; exact (Option.some.inj z).symm)), List.append_nil]
    exact b4
theorem Gsf.new {H H1 M d q0 A k nl} (g : Gsf H H1 M d q0 A (rt M k) k) (nd : H d = none) (e : M[k]? = some k) (le : ∀ x m : Nat, M[x]? = some m → m ≤ x) (nn : H1 nl = none) :
    Gsf H (upd (upd H1 nl (.lst [])) d (.dK (putK (kvA A (rt M k)) (Sum.inl (k : Int)) (V.ref nl)))) M d q0 (fun z => if z = k then nl else A z) (rt M (k + 1)) k := by
  have nk : k ∉ rt M k := fun z => by have := (mem_rt.mp z).1; omega
  have n1 : d ≠ nl := ne_of_none g.hd nn
  have n2 : q0 ≠ nl := ne_of_none g.hq nn
  have n3 : q0 ≠ d := fun z => by have := g.hq; rw [z, g.hd] at this; cases this
  refine ⟨(g.sm.trans (Same.upd nn)).at nd, ?_, by rw [upd_ne n3, upd_ne n2]; exact g.hq, fun x hx => ?_, fun x hx y hy exy => ?_⟩
  · rw [upd_same, putK_new (V.ref nl) (by rw [kvA_at, if_neg nk]), rt_succ, if_pos e]
    congr 2
    unfold kvA
    rw [List.map_append, List.map_singleton]
    show _ = _ ++ [((Sum.inl (k : Int) : Key), V.ref (if k = k then nl else A k))]
    rw [if_pos rfl]
    congr 1
    refine List.map_congr_left fun x hx => ?_
    show ((Sum.inl (x : Int) : Key), V.ref (A x)) = (Sum.inl (x : Int), V.ref (if x = k then nl else A x))
    rw [if_neg (fun z : x = k => nk (z ▸ hx))]
  · show H (if x = k then nl else A x) = none ∧ _
    by_cases c : x = k
    · subst c
      simp only [if_true]
      refine ⟨g.sm.free nn, n2.symm, n1.symm, ?_⟩
      rw [upd_ne n1.symm, upd_same, gk_none le]
      rfl
    · simp only [if_neg c]
      have hx' : x ∈ rt M k := by
        rw [rt_succ, if_pos e] at hx
        rcases List.mem_append.mp hx with h | h
        · exact h
        · exact absurd (List.mem_singleton.mp h) c
      obtain ⟨b1, b2, b3, b4⟩ := g.ls x hx'
      exact ⟨b1, b2, b3, by rw [upd_ne b3, upd_ne (ne_of_none b4 nn)]; exact b4⟩
  · have old : ∀ z, z ∈ rt M (k + 1) → z ≠ k → z ∈ rt M k := fun z hz c => by
      rw [rt_succ, if_pos e] at hz
      rcases List.mem_append.mp hz with h | h
      · exact h
      · exact absurd (List.mem_singleton.mp h) c
    have exy : (if x = k then nl else A x) = (if y = k then nl else A y) := exy
    by_cases cx : x = k
    · by_cases cy : y = k
      · rw [cx, cy]
      · rw [if_pos cx, if_neg cy] at exy
        exact absurd exy.symm (ne_of_none (g.ls y (old y hy cy)).2.2.2 nn)
    · by_cases cy : y = k
      · rw [if_neg cx, if_pos cy] at exy
        exact absurd exy (ne_of_none (g.ls x (old x hx cx)).2.2.2 nn)
      · rw [if_neg cx, if_neg cy] at exy
        exact g.inj x (old x hx cx) y (old y hy cy) exy
theorem Gsf.vals {H H1 M d q0 A p} (g : Gsf H H1 M d q0 A (rt M M.length) M.length) (np : H1 p = none) : NewLs H (upd H1 p (.lst ((kvA A (rt M M.length)).map fun kv => kv.2))) p (grps M) := by
  refine ⟨(rt M M.length).map A, ?_, by unfold grps; rw [List.length_map, List.length_map], ?_, g.sm.free np, fun i r L hr hL => ?_⟩
  · rw [upd_same]
    unfold kvA
    rw [List.map_map, List.map_map]
    rfl
  · exact List.pairwise_map.mpr ((rt_nd M M.length).imp_of_mem fun ha hb hne e => hne (g.inj _ ha _ hb e))
  · unfold grps at hL
    rw [List.getElem?_map] at hr hL
    cases e : (rt M M.length)[i]? with
    | none => rw [e] at hr; cases hr
    | some x =>
      rw [e] at hr hL
      cases hr
      cases hL
      obtain ⟨b1, b2, b3, b4⟩ := g.ls x (List.mem_of_getElem? e)
      have ne := ne_of_none b4 np
      exact ⟨ne, b1, by rw [upd_ne ne]; exact b4⟩
def spGroups (K : PySem.W.Frag) : Sp := fun vs H Q _ => ∃ (a s : Addr) (ds : List (Nat × Nat)) (n : Nat) (S : S2), vs = [.ref a, .ref s] ∧ HouseAt K H a ds ∧ Tree n ds ∧ n ≤ 1000 ∧ StateAt K H s S ∧ StOk n ds S ∧
  ∀ (H' : Hp) (q : Addr) (M J : List Nat), Same H H' → NewLs H H' q (grps M) → MkC n ds S M J → (∀ d, d < ds.length → Closed ds S M d) → Q (.ref q) H'
def spExplained (K : PySem.W.Frag) : Sp := fun vs H Q _ => ∃ (a s : Addr) (ds : List (Nat × Nat)) (n : Nat) (S : S2), vs = [.ref a, .ref s] ∧ HouseAt K H a ds ∧ Tree n ds ∧ n ≤ 1000 ∧ StateAt K H s S ∧ StOk n ds S ∧
  ∀ (H' : Hp) (q : Addr) (M J : List Nat), Same H H' → H q = none → H' q = some (.lst (nv (exd M ds))) → MkC n ds S M J → (∀ d, d < ds.length → Closed ds S M d) → Q (.ref q) H'
section
variable {P : Program} {w : World} {K : PySem.W.Frag}
      {mg : Str → Option Value} {base : Heap}
theorem ok_groups (T : Bl mg) (D : Def K mg "groups" s_groups) (C_need_state : Cal P w K mg base "need_state" ["house", "state"] 7 (spSt K)) (C_group_marks : Cal P w K mg base "group_marks" ["house", "state"] 1 (spMarks K)) :
    CalK P w K mg base "groups" ["house", "state"] 8 (spGroups K) ["state", "house"] rev2 rev2 := by
  refine D.okK sc_groups (fun _ _ _ _ _ _ us ws hl => match us, ws, hl with | [], [_, _], _ => rfl) rev2_vals (fun _ _ _ _ _ _ us hl => match us, hl with | [_, _], _ => rfl) (fun vs H Q E h => ?_) (fun f cdv A outer s H vs Q E hr h => ?_)
  · obtain ⟨a, s, ds, n, S, rfl, _⟩ := h
    rfl
  obtain ⟨a, s, ds, n, S, rfl, hH, tree, hn, st, ok, q⟩ := h
  obtain ⟨f_need_state, fd_need_state, g_need_state, k_need_state, b_need_state, G_need_state⟩ := C_need_state
  obtain ⟨f_group_marks, fd_group_marks, g_group_marks, k_group_marks, b_group_marks, G_group_marks⟩ := C_group_marks
  refine ⟨_, (pss_cons (ps_expr (pe_call G_need_state (hr.mono (by decide)) (by rfl) g_need_state k_need_state b_need_state .nil pass0 (pa_cons (pv 0) (pa_cons (pv 1) pa_nil))))
    (pss_cons (ps_set (i := 2) sc_groups.nd rfl (.inl rfl) pe_dnewK)
    (pss_cons (ps_for PassesOwn.never rfl (pi_enum (by rfl) T.enumerate (pa_cons (pe_call G_group_marks (hr.mono (by decide)) (by rfl) g_group_marks k_group_marks b_group_marks .nil pass0 (pa_cons (pv 0) (pa_cons (pv 1) pa_nil))) pa_nil)) (pg_tup (n := 2) rfl (pgs_cons (pg_name (i := 3) sc_groups.nd rfl (.inl rfl)) (pgs_cons (pg_name (i := 4) sc_groups.nd rfl (.inl rfl)) pgs_nil)))
    (pss_cons (ps_if (pt_cmpR op_eq (pv 4) (pv 3) (nomark _)) (pss_one (ps_dput (hu_of hr) (pv 2) (pv 4) (pe_lst pa_nil) rfl)) pss_nil)
    (pss_one (ps_expr (pe_bm PySem.F.plainAttrs_list PySem.F.slot_list_append PySem.F.type_list_append mt_append (pe_dget (hu_of hr) (pv 2) (pv 4) (fun _ _ => rfl)) (pa_cons (pv 3) pa_nil))))))
    (pss_one (ps_ret (pe_listVals rfl (by rfl) T.list (pv 2))))))), ?_⟩
  refine ⟨_, rfl, _, rfl, a, s, ds, n, S, rfl, hH, tree, hn, st, ok, fun H1 s1 => ?_⟩
  refine fun d nd => ?_
  have sd := s1.trans (Same.upd (o := .dK []) nd)
  refine ⟨_, rfl, _, rfl, a, s, ds, n, S, rfl, hH.same sd, tree, hn, st.same sd, ok, fun H2 q0 M J s2 nq hq mk cl => ?_⟩
  have hd2 : H2 d = some (.dK []) := s2 _ _ upd_same
  have nd0 : H d = none := s1.free nd
  have ml : M.length = n := mk.1.len
  have le : ∀ x m : Nat, M[x]? = some m → m ≤ x := fun x m h => (mk.1.le x m h).1
  refine ⟨q0, _, rfl, SqL.of hq, ?_⟩
  refine for_it (walk_enum (K := K) (a := q0) (xs := nv M)) (fun k σ H3 => ∃ (A : Nat → Addr) (y3 y4 : Option V), σ = [some (.ref a), some (.ref s), some (.ref d), y3, y4] ∧ Gsf H H3 M d q0 A (rt M k) k)
    ⟨fun _ => d, _, _, rfl, sd.trans s2, hd2, hq, (fun _ h => nomatch h), (fun _ h => nomatch h)⟩ (fun i σ H1 _ ⟨_, _, _, _, g⟩ => SqL.of g.hq) ?_ ?_
  · rintro k x σ H3 H4 hk ⟨A, y3, y4, rfl, g⟩ ⟨t, x1, x2, rfl, nt, rfl, ex1, ex2⟩
    cases ex1
    obtain ⟨v, hv, rfl⟩ := nv_some ex2
    have hkn : k < n := by have := get_lt hv; omega
    have smt : Same H3 (upd H3 t (.tup [.int (k : Nat), .int (v : Int)])) := Same.upd nt
    refine ⟨t, _, rfl, SqT.of upd_same, rfl, _, _, rfl, _, _, rfl, rfl, ?_⟩
    have g4 : Gsf H (upd H3 t (.tup [.int (k : Nat), .int (v : Int)])) M d q0 A (rt M k) k := ⟨g.sm.trans smt, smt _ _ g.hd, smt _ _ g.hq, fun x hx => ⟨(g.ls x hx).1, (g.ls x hx).2.1, (g.ls x hx).2.2.1, smt _ _ (g.ls x hx).2.2.2⟩, g.inj⟩
    generalize upd H3 t (.tup [.int (k : Nat), .int (v : Int)]) = H5 at g4
    have vr : v ∈ rt M (k + 1) := mem_rt.mpr ⟨by have := le k v hv; omega, mk.1.self hv⟩
    have gl : ∀ x, (nv (gk M x k)).length < sizeLine := fun x => by rw [nv_len]; have := gk_len M x k; exact small1000 (by omega)
    refine ⟨_, rfl, _, rfl, rfl, _, rfl, ?_⟩
    by_cases c : v = k
    · rw [decide_eq_true (show V.int (v : Int) = V.int (k : Int) by rw [c])]
      subst c
      refine iteT ⟨Nat.zero_le _, fun nl nnl => ⟨_, rfl, _, rfl, d, _, rfl, DPut.k (k := Sum.inl (v : Int)) (by rw [upd_ne (ne_of_none g4.hd nnl)]; exact g4.hd) (by unfold kvA; rw [List.length_map]; have := rt_len M v; exact small1000 (by omega)), ?_⟩⟩
      have g5 := g4.new nd0 hv le nnl
      have g6 := g5.app vr hv
      obtain ⟨b1, b2, b3, b4⟩ := g5.ls v vr
      have dg : DGet (upd (upd H5 nl (.lst [])) d (.dK (putK (kvA A (rt M v)) (Sum.inl (v : Int)) (V.ref nl)))) d (.int (v : Int)) (some (V.ref ((fun z => if z = v then nl else A z) v))) := by
        have := DGet.k (k := Sum.inl (v : Int)) g5.hd
        rw [kvA_at, if_pos vr] at this
        exact this
      exact ⟨_, rfl, _, rfl, d, _, rfl, dg, .inl ⟨rfl, _, SqL.of b4⟩, _, rfl, _, _, _, rfl, rfl, b4, gl v, _, _, _, rfl, g6⟩
    · rw [decide_eq_false (show ¬ V.int (v : Int) = V.int (k : Int) from fun z => c (by have := V.int.inj z; omega))]
      have er : rt M (k + 1) = rt M k := by rw [rt_succ, if_neg (fun z => c (by rw [hv] at z; exact Option.some.inj z)), List.append_nil]
      rw [er] at vr
      have g5 := g4.app vr hv
      have dg : DGet H5 d (.int (v : Int)) (some (V.ref (A v))) := by
        have := DGet.k (k := Sum.inl (v : Int)) g4.hd
        rw [kvA_at, if_pos vr] at this
        exact this
      obtain ⟨b1, b2, b3, b4⟩ := g4.ls v vr
      refine iteF ⟨_, rfl, _, rfl, d, _, rfl, dg, .inl ⟨rfl, _, SqL.of b4⟩, _, rfl, A v, _, _, rfl, rfl, b4, gl v, A, _, _, rfl, by rw [er]; exact g5⟩
  · rintro σ H3 ⟨A, y3, y4, rfl, g⟩
    rw [nv_len] at g
    exact ⟨_, rfl, d, _, rfl, g.hd, fun p np => q _ p M J (g.sm.trans (Same.upd np)) (g.vals np) mk cl⟩
theorem ok_explained_doors (T : Bl mg) (D : Def K mg "explained_doors" s_explained_doors) (C_need_state : Cal P w K mg base "need_state" ["house", "state"] 7 (spSt K)) (C_group_marks : Cal P w K mg base "group_marks" ["house", "state"] 1 (spMarks K)) :
    CalK P w K mg base "explained_doors" ["house", "state"] 8 (spExplained K) ["state", "house"] rev2 rev2 := by
  refine D.okK sc_explained_doors (fun _ _ _ _ _ _ us ws hl => match us, ws, hl with | [], [_, _], _ => rfl) rev2_vals (fun _ _ _ _ _ _ us hl => match us, hl with | [_, _], _ => rfl) (fun vs H Q E h => ?_) (fun f cdv A outer s H vs Q E hr h => ?_)
  · obtain ⟨a, s, ds, n, S, rfl, _⟩ := h
    rfl
  obtain ⟨a, s, ds, n, S, rfl, hH, tree, hn, st, ok, q⟩ := h
  obtain ⟨rs, hrs, hlen, hds⟩ := id hH
  have hdn := tree.len
  obtain ⟨f_need_state, fd_need_state, g_need_state, k_need_state, b_need_state, G_need_state⟩ := C_need_state
  obtain ⟨f_group_marks, fd_group_marks, g_group_marks, k_group_marks, b_group_marks, G_group_marks⟩ := C_group_marks
  refine ⟨_, (pss_cons (ps_expr (pe_call G_need_state (hr.mono (by decide)) (by rfl) g_need_state k_need_state b_need_state .nil pass0 (pa_cons (pv 0) (pa_cons (pv 1) pa_nil))))
    (pss_cons (ps_set (i := 2) sc_explained_doors.nd rfl (.inr rfl) (pe_call G_group_marks (hr.mono (by decide)) (by rfl) g_group_marks k_group_marks b_group_marks .nil pass0 (pa_cons (pv 0) (pa_cons (pv 1) pa_nil))))
    (pss_one (ps_ret (pe_lc (own := [("door", 3), ("a", 4), ("b", 5)]) (g := gTup K 2 (gCons (gName 3) (gCons (gTup K 2 (gCons (gName 4) (gCons (gName 5) gNil))) gNil)))  (tt := (tTest (tOp rEq (tOp (rIxL K) (tVar 2) (tVar 4)) (tOp (rIxL K) (tVar 2) (tVar 5))))) rfl sc_explained_doors.nd (pi_enumT (by rfl) T.enumerate (pa_cons (pv 0) pa_nil)) (blkOk_by (N := N_explained_doors) (sc := defScope s_explained_doors) (own := [("door", 3), ("a", 4), ("b", 5)]) (by decide +kernel)) (fun _ _ _ _ _ => (pg_tup (n := 2) rfl (pgs_cons (pg_name (i := 3) sc_explained_doors.nd rfl (.inl rfl) (.inr rfl)) (pgs_cons (pg_tup (n := 2) rfl (pgs_cons (pg_name (i := 4) sc_explained_doors.nd rfl (.inl rfl) (.inr rfl)) (pgs_cons (pg_name (i := 5) sc_explained_doors.nd rfl (.inl rfl) (.inr rfl)) pgs_nil))) pgs_nil)))) (fun _ _ _ _ _ => (pts_one (pt_cmpR op_eq (pe_ix ix_list (pv 2) (pv 4) (fun _ _ => rfl)) (pe_ix ix_list (pv 2) (pv 5) (fun _ _ => rfl)) (nomark _)))) (fun _ _ _ _ _ => (pv 3))))))), ?_⟩
  refine ⟨_, rfl, _, rfl, a, s, ds, n, S, rfl, hH, tree, hn, st, ok, fun H1 s1 => ?_⟩
  refine ⟨_, rfl, _, rfl, a, s, ds, n, S, rfl, hH.same s1, tree, hn, st.same s1, ok, fun H2 q0 M J s2 nq hq mk cl => ?_⟩
  have sm2 := s1.trans s2
  refine ⟨_, rfl, a, _, rfl, sm2.tup hrs, fun pd npd => ?_⟩
  refine lc_it (walk_enumT (K := K) (a := a) (xs := rs.map V.ref)) (fun i H3 => Same H2 H3 ∧ H3 pd = some (.lst (nv ((List.range i).filter fun d => decide (M.getD (ds.getD d (0, 0)).1 0 = M.getD (ds.getD d (0, 0)).2 0))))) ⟨Same.upd npd, upd_same⟩ (fun i H3 _ h => (sm2.trans h.1).tup hrs) ?_ ?_
  · rintro k x H3 H4 hk ⟨s3, hp3⟩ ⟨t, x1, x2, rfl, nt, rfl, ex1, ex2⟩
    cases ex1
    have hk' : k < ds.length := by
      rw [List.length_map, hlen] at hk
      exact hk
    obtain ⟨e, he⟩ : ∃ e, ds[k]? = some e := get_of rfl hk'
    obtain ⟨r1, hr0⟩ : ∃ r, rs[k]? = some r := get_of hlen hk'
    have ex2' : V.ref r1 = x2 := by
      have ex2 : (rs.map V.ref)[k]? = some x2 := ex2
      rw [List.getElem?_map, hr0] at ex2
      exact Option.some.inj ex2
    subst ex2'
    have smt : Same H3 (upd H3 t (.tup [.int (k : Nat), .ref r1])) := Same.upd nt
    have s4 := s3.trans smt
    have hrd := (sm2.trans s4).tup (hds k r1 e hr0 he)
    have hq4 := s4 _ _ hq
    have hp4 := smt _ _ hp3
    have elt := tree.lt e (List.mem_of_getElem? he)
    refine ⟨t, _, rfl, SqT.of upd_same, rfl, _, _, rfl, _, _, rfl, ⟨r1, _, rfl, hrd, rfl, _, _, rfl, _, _, rfl, rfl, rfl, rfl, ?_⟩⟩
    generalize upd H3 t (.tup [.int (k : Nat), .ref r1]) = H5 at s4 hq4 hp4
    have ga := mk.1.get elt.1
    have gb := mk.1.get elt.2
    have eg : ds.getD k (0, 0) = e := by rw [List.getD_eq_getElem?_getD, he]; rfl
    refine ⟨_, rfl, _, rfl, _, _, _, _, rfl, rfl, SqL.of hq4, nv_at ga, _, rfl, _, rfl, _, _, _, _, rfl, rfl, SqL.of hq4, nv_at gb, rfl, _, rfl, ?_⟩
    have hl : (nv ((List.range k).filter fun d => decide (M.getD (ds.getD d (0, 0)).1 0 = M.getD (ds.getD d (0, 0)).2 0))).length < sizeLine := by
      rw [nv_len]
      have := List.length_filter_le (fun d => decide (M.getD (ds.getD d (0, 0)).1 0 = M.getD (ds.getD d (0, 0)).2 0)) (List.range k)
      rw [List.length_range] at this
      exact small1000 (by omega)
    by_cases c : M.getD e.1 0 = M.getD e.2 0
    · rw [decide_eq_true (show V.int ((M.getD e.1 0 : Nat) : Int) = V.int ((M.getD e.2 0 : Nat) : Int) by rw [c])]
      refine iteT ⟨_, rfl, _, hp4, hl, s4.at npd, ?_⟩
      have e1 : [k].filter (fun d => decide (M.getD (ds.getD d (0, 0)).1 0 = M.getD (ds.getD d (0, 0)).2 0)) = [k] := List.filter_cons_of_pos (by rw [eg]; exact decide_eq_true c)
      rw [upd_same, List.range_succ, List.filter_append, e1, nv_snoc]
    · rw [decide_eq_false (show ¬ V.int ((M.getD e.1 0 : Nat) : Int) = V.int ((M.getD e.2 0 : Nat) : Int) from fun z => c (by have := V.int.inj z; omega))]
      refine iteF ⟨s4, ?_⟩
      have e1 : [k].filter (fun d => decide (M.getD (ds.getD d (0, 0)).1 0 = M.getD (ds.getD d (0, 0)).2 0)) = [] := List.filter_cons_of_neg (by rw [eg, decide_eq_false c]; exact Bool.false_ne_true)
      rw [hp4, List.range_succ, List.filter_append, e1, List.append_nil]
  · rintro H3 ⟨s3, hp3⟩
    rw [List.length_map, hlen] at hp3
    exact q H3 pd M J (sm2.trans s3) (sm2.free npd) hp3 mk cl
end
end K5

/-! own rules (begun): a dict keyed by nested tuples, as a letter: the dict's own object, as it stood in some heap; its keys' tuples stand in H by themselves -/
namespace L2
open PySem PySem.Spec PyProof.Rows
def nD (P : Program) (w : World) (d : Addr) (xs : List (NestedKey × Addr × Value)) : HO :=
  .ext fun g => (d == sysModules) = false ∧ ∃ (h' : Heap) (o : Obj), h'.DictOfH (nestedKind P w) d xs ∧ h'.get? d = some o ∧ g.get? d = some o
theorem nD_ok {P : Program} {w : World} {H : Hp} {g : Heap} {d : Addr} {xs : List (NestedKey × Addr × Value)} {o : Obj} (nm : (d == sysModules) = false) (m : g.DictOfH (nestedKind P w) d xs) (e : g.get? d = some o) : ObjOk P w H g d (nD P w d xs) := by
  refine ⟨⟨nm, g, o, m, e, e⟩, ⟨o, e⟩, ?_⟩
  rintro g1 g2 ⟨nm', h', o', m', e', e1⟩ st
  exact ⟨nm', h', o', m', e', st o' e1⟩
/-- the dict, where its keys' tuples stand -/
theorem nD_at {P : Program} {w : World} {H : Hp} {g : Heap} {d : Addr} {xs : List (NestedKey × Addr × Value)} (ok : HOk P w H g) (e : H d = some (nD P w d xs)) (ks : ∀ y ∈ xs, (nestedKind P w).is g y.1 y.2.1) : (d == sysModules) = false ∧ g.DictOfH (nestedKind P w) d xs := by
  have z : ObjOk P w H g d (.ext _) := ok d _ e
  obtain ⟨nm, h', o, m, e1, e2⟩ := z.1
  refine ⟨nm, ?_⟩
  exact m.at' (fun o' x => by rw [e1] at x; cases x; exact e2) ks
mutual
/-- the key that data of whole numbers and tuples is -/
def kOf : PyData → NestedKey
  | .int i => .num i
  | .tuple ds => .tup (kAll ds)
  | _ => .none
def kAll : List PyData → List NestedKey
  | [] => []
  | d :: ds => kOf d :: kAll ds
end
mutual
def keyable : PyData → Bool
  | .int _ => true
  | .tuple ds => keyableAll ds
  | _ => false
def keyableAll : List PyData → Bool
  | [] => true
  | d :: ds => keyable d && keyableAll ds
end
section
variable {X : Cx} {pins : List (Addr ×
      Obj)} {σ : St} {H : Hp} {s : Shared}
mutual
theorem nested_of (I : Inv X pins σ H s) : ∀ (d : PyData) (v : V) (u : Value), keyable d = true → Dp X.K H v d → RelV v u → NestedIs s.heap (kOf d) u
  | .int i, _, _, _, h, r => by
    cases h
    obtain ⟨t, rfl⟩ := r
    exact .int i t
  | .tuple ds, _, _, k, h, r => by
    cases h with
    | tup hs ha =>
      cases r
      obtain ⟨its, rv, ⟨o, e, c, n, q⟩, _⟩ := I.tuple hs
      exact .tup e c q (by simpa using nested_all I ds _ its k ha rv)
  | .none, _, _, k, _, _ => by cases k
  | .bool _, _, _, k, _, _ => by cases k
  | .str _, _, _, k, _, _ => by cases k
  | .list _, _, _, k, _, _ => by cases k
  | .dict _, _, _, k, _, _ => by cases k
theorem nested_all (I : Inv X pins σ H s) : ∀ (ds : List PyData) (vs : List V) (us : List Value), keyableAll ds = true → DpAll X.K H vs ds → Vals vs us → NestedAll s.heap (kAll ds) us
  | [], _, _, _, h, r => by
    cases h
    cases r
    exact .nil
  | d :: ds, _, _, k, h, r => by
    obtain ⟨k1, k2⟩ := Bool.and_eq_true_iff.mp (show (keyable d && keyableAll ds) = true from k)
    cases h with
    | cons h1 h2 =>
      cases r with
      | cons r1 r2 => exact .cons (nested_of I d _ _ k1 h1 r1) (nested_all I ds _ _ k2 h2 r2)
end
/-- k in d: d a dict keyed by nested tuples whose keys stand -/
def tNIn (K : PySem.W.Frag) (P : Program) (w : World) (ty td : TE) : TE := fun σ H Q => ty σ H fun y H1 => td σ H1 fun x H2 => ∃ (d t : Addr) (xs : List (NestedKey × Addr × Value)) (k : PyData), x = .ref d ∧ y = .ref t ∧ H2 d = some (nD P w d xs) ∧ Dp K H2 y k ∧ keyable k = true ∧ (kOf k).depth ≤ 8 ∧
  (∀ e ∈ xs, ∃ k', kOf k' = e.1 ∧ keyable k' = true ∧ (kOf k').depth ≤ 8 ∧ Dp K H2 (.ref e.2.1) k') ∧ Q (.bl (valueAt (pairsH xs) (kOf k)).isSome) H2
theorem pc_nin {i o : Expr} {ty td : TE} (hu : X.A.units + 64 < cLine) (hi : PE X i ty) (ho : PE X o td) : PC X .In i o (tNIn X.K X.prog X.w ty td) := by
  refine ⟨fun pins s σ H Q I h => ?_⟩
  refine thn (hi.run pins s σ H _ I h) fun iv s1 ⟨y, H1, I1, ry, q1⟩ => thn (ho.run pins s1 σ H1 _ I1 q1) fun u s2 ⟨x, H2, I2, rx, d, t, xs, k, ex, ey, hd, hk, kb, dep, ks, q2⟩ => ?_
  subst ex
  subst ey
  obtain rfl : u = Value.ref d := rx
  obtain rfl : iv = Value.ref t := ry
  obtain ⟨nm, m⟩ := nD_at I2.hok hd fun e he => by
    obtain ⟨k', e1, kb', dep', dp'⟩ := ks e he
    rw [← e1]
    exact ⟨nested_of I2 k' _ _ kb' dp' rfl, dep'⟩
  exact in_keyed (knd := nestedKind X.prog X.w) (by show X.A.units + 1 + 8 < cLine; omega) ⟨nested_of I2 k _ _ kb hk rfl, dep⟩ nm ⟨xs, m, rfl⟩ ⟨.bl _, H2, I2.tok _, rfl, q2⟩
def tNNotIn (K : PySem.W.Frag) (P : Program) (w : World) (ty td : TE) : TE := fun σ H Q => tNIn K P w ty td σ H fun x H' => ∃ b, x = .bl b ∧ Q (.bl (!b)) H'
theorem pc_nnotin {i o : Expr} {ty td : TE} (hu : X.A.units + 64 < cLine) (hi : PE X i ty) (ho : PE X o td) : PC X .NotIn i o (tNNotIn X.K X.prog X.w ty td) := by
  refine ⟨fun pins s σ H Q I h => ?_⟩
  refine thn (hi.run pins s σ H _ I h) fun iv s1 ⟨y, H1, I1, ry, q1⟩ => thn (ho.run pins s1 σ H1 _ I1 q1) fun u s2 ⟨x, H2, I2, rx, d, t, xs, k, ex, ey, hd, hk, kb, dep, ks, b, eb, q2⟩ => ?_
  subst ex
  subst ey
  cases eb
  obtain rfl : u = Value.ref d := rx
  obtain rfl : iv = Value.ref t := ry
  obtain ⟨nm, m⟩ := nD_at I2.hok hd fun e he => by
    obtain ⟨k', e1, kb', dep', dp'⟩ := ks e he
    rw [← e1]
    exact ⟨nested_of I2 k' _ _ kb' dp' rfl, dep'⟩
  exact notIn_keyed (knd := nestedKind X.prog X.w) (by show X.A.units + 1 + 8 < cLine; omega) ⟨nested_of I2 k _ _ kb hk rfl, dep⟩ nm ⟨xs, m, rfl⟩ ⟨.bl _, H2, I2.tok _, rfl, q2⟩
/-- d.get(k, z); what is found is named by the values that stand in the dict -/
def tNGet2 (K : PySem.W.Frag) (P : Program) (w : World) (td ty tx : TE) : TE := fun σ H Q => td σ H fun x H1 => ∃ (d : Addr) (xs : List (NestedKey × Addr × Value)), x = .ref d ∧ H1 d = some (nD P w d xs) ∧ (∀ e ∈ xs, ∃ k', kOf k' = e.1 ∧ keyable k' = true ∧ (kOf k').depth ≤ 8 ∧ Dp K H1 (.ref e.2.1) k') ∧
  ty σ H1 fun y H2 => tx σ H2 fun z H3 => ∃ (t : Addr) (ys : List (NestedKey × Addr × Value)) (k : PyData), y = .ref t ∧ H3 d = some (nD P w d ys) ∧ Dp K H3 y k ∧ keyable k = true ∧ (kOf k).depth ≤ 8 ∧ (∀ e ∈ ys, ∃ k', kOf k' = e.1 ∧ keyable k' = true ∧ (kOf k').depth ≤ 8 ∧ Dp K H3 (.ref e.2.1) k') ∧
  (valueAt (pairsH ys) (kOf k) = none → Q z H3) ∧ (∀ u, valueAt (pairsH ys) (kOf k) = some u → ∃ v, RelV v u ∧ Q v H3)
theorem pe_nget2 {o e f : Expr} {apos cpos : Pos} {td ty tx : TE} (hu : X.A.units + 64 < cLine) (ho : PE X o td) (he : PE X e ty) (hf : PE X f tx) (m : M2 X o "get" apos e f cpos) : PE X (.Call (.Attribute o "get" apos) [e, f] [] cpos) (tNGet2 X.K X.prog X.w td ty tx) := by
  refine ⟨fun pins s σ H Q I h => ?_⟩
  refine wpAny_Call_method m.base m.few m.line PySem.F.plainAttrs_dict PySem.F.slot_dict_get PySem.F.type_dict_get (thn (ho.run pins s σ H _ I h) fun u s1 ⟨x, H1, I1, rx, d, xs, ex, hd, ks, q1⟩ => ?_)
  subst ex
  obtain rfl : u = Value.ref d := rx
  obtain ⟨nm, m1⟩ := nD_at I1.hok hd fun e he => by
    obtain ⟨k', e1, kb', dep', dp'⟩ := ks e he
    rw [← e1]
    exact ⟨nested_of I1 k' _ _ kb' dp' rfl, dep'⟩
  refine ⟨m1.typeIs, fun b eb => ?_, ?_⟩
  · cases eb
    obtain ⟨q, es, ep, hq, h2, _⟩ := m1
    first | exact ⟨q, hq, h2.2.1⟩ | exact ⟨q, hq, h2.2⟩ | exact ⟨q, hq, h2.dict⟩ | exact ⟨q, hq, h2.1⟩
  rw [m.trees]
  refine Calls.callWith_builtin rfl (Calls.evalArgs_plain (Calls.spliced_cons
        (thn (he.run pins s1 σ H1 _ I1 q1) fun iv s2 ⟨y, H2, I2, ry, q2⟩ =>
    Calls.spliced_cons (thn (hf.run pins s2 σ H2 _ I2 q2) fun fv s3 ⟨z, H3, I3, rz, t, ys, k, ey, hd3, hk, kb, dep, ks3, qn, qs⟩ => Calls.spliced_nil ?_))))
  subst ey
  obtain rfl : iv = Value.ref t := ry
  obtain ⟨nm3, m3⟩ := nD_at I3.hok hd3 fun e he => by
    obtain ⟨k', e1, kb', dep', dp'⟩ := ks3 e he
    rw [← e1]
    exact ⟨nested_of I3 k' _ _ kb' dp' rfl, dep'⟩
  refine getOr_keyed (knd := nestedKind X.prog X.w) (by show X.A.units + 1 + 8 < cLine; omega) ⟨nested_of I3 k _ _ kb hk rfl, dep⟩ nm3 ⟨ys, m3, rfl⟩ ?_
  cases c : valueAt (pairsH ys) (kOf k) with
  | none => exact ⟨z, H3, I3.tok _, rz, qn c⟩
  | some u =>
    obtain ⟨v, rv, q⟩ := qs u c
    exact ⟨v, H3, I3.tok _, rv, q⟩
/-- {}, to be a dict keyed by nested tuples -/
def tNNew (P : Program) (w : World) : TE := fun _ H Q => ∀ p, H p = none → Q (.ref p) (upd H p (nD P w p []))
theorem pe_nnew {pos : Pos} : PE X (.Dict [] [] pos) (tNNew X.prog X.w) := ⟨fun pins s σ H Q I h =>
  wpAny_Dict_empty ⟨.ref s.heap.objs.size, _, I.laid (a := s.heap.objs.size) (o := nD X.prog X.w s.heap.objs.size []) (t' := s.toks) (fun _ _ q => Heap.get?_push_of_some _ q) (Nat.le_refl _)
    (nD_ok (beq_eq_false_iff_ne.mpr (Ne.symm (Nat.ne_of_lt I.big))) (Heap.DictOfH.new s.heap) (Heap.get?_push_size _ rfl)), rfl, h _ (I.hok.fresh (Nat.le_refl _))⟩⟩
/-- d[k] = v -/
def sNPut (K : PySem.W.Frag) (P : Program) (w : World) (td ty tv : TE) : TS := fun D σ H => tv σ H fun v H1 => td σ H1 fun x H2 => ty σ H2 fun y H3 => ∃ (d t : Addr) (xs : List (NestedKey × Addr × Value)) (k : PyData), x = .ref d ∧ y = .ref t ∧ H3 d = some (nD P w d xs) ∧ Dp K H3 y k ∧ keyable k = true ∧
  (kOf k).depth ≤ 8 ∧ (∀ e ∈ xs, ∃ k', kOf k' = e.1 ∧ keyable k' = true ∧ (kOf k').depth ≤ 8 ∧ Dp K H3 (.ref e.2.1) k') ∧ xs.length ≤ sizeLine ∧ ∀ u, RelV v u → D.nx σ (upd H3 d (nD P w d (storedH xs (kOf k) t u)))
theorem ps_nput {o i value : Expr} {pos pos' : Pos} {td ty tv : TE} (hu : X.A.units + 64 < cLine) (ho : PE X o td) (hi : PE X i ty) (hv : PE X value tv) (hs : swapsWith value (some (.Subscript o i pos')) pos.line X.env = pure false) :
    PS X (.Assign [.Subscript o i pos'] value pos) (sNPut X.K X.prog X.w td ty tv) := by
  refine ⟨fun pins s σ H D I h => ?_⟩
  refine wpAny_Assign_Subscript (thn (hv.run pins s σ H _ I h) fun r s1 ⟨v, H1, I1, rv, q1⟩ => thn (ho.run pins s1 σ H1 _ I1 q1) fun u s2 ⟨x, H2, I2, rx, q2⟩ => thn (hi.run pins s2 σ H2 _ I2 q2) fun iv s3 ⟨y, H3, I3, ry, d, t, xs, k, ex, ey, hd, hk, kb, dep, ks, sz, q3⟩ => ?_) hs
  subst ex
  subst ey
  obtain rfl : u = Value.ref d := rx
  obtain rfl : iv = Value.ref t := ry
  obtain ⟨nm, m⟩ := nD_at I3.hok hd fun e he => by
    obtain ⟨k', e1, kb', dep', dp'⟩ := ks e he
    rw [← e1]
    exact ⟨nested_of I3 k' _ _ kb' dp' rfl, dep'⟩
  refine wpAny_setItem_heap (knd := nestedKind X.prog X.w) (hsz := sz) (by show X.A.units + 1 + 8 < cLine; omega) ⟨nested_of I3 k _ _ kb hk rfl, dep⟩ m fun h' m' hs' => ?_
  obtain ⟨q, hq⟩ : ∃ q, h'.get? d = some q := let ⟨q, _, _, hq, _⟩ := m'; ⟨q, hq⟩
  exact ⟨σ, _, d_write I3 (by rw [hd]; exact True.intro) hs' ⟨q, hq⟩ (nD_ok nm m' hq), q3 _ rv⟩
/-- d[k] -/
def tNIx (K : PySem.W.Frag) (P : Program) (w : World) (td ty : TE) : TE := fun σ H Q => td σ H fun x H1 => ty σ H1 fun y H2 => ∃ (d t : Addr) (xs : List (NestedKey × Addr × Value)) (k : PyData) (u : Value) (v : V), x = .ref d ∧ y = .ref t ∧ H2 d = some (nD P w d xs) ∧ Dp K H2 y k ∧ keyable k = true ∧ (kOf k).depth ≤ 8 ∧
  (∀ e ∈ xs, ∃ k', kOf k' = e.1 ∧ keyable k' = true ∧ (kOf k').depth ≤ 8 ∧ Dp K H2 (.ref e.2.1) k') ∧ valueAt (pairsH xs) (kOf k) = some u ∧ RelV v u ∧ Q v H2
theorem pe_nix {o i : Expr} {pos : Pos} {td ty : TE} (hu : X.A.units + 64 < cLine) (ho : PE X o td) (hi : PE X i ty) (hs : NoSl i) : PE X (.Subscript o i pos) (tNIx X.K X.prog X.w td ty) := by
  refine ⟨fun pins s σ H Q I h => ?_⟩
  refine subD_of PySem.F.slot_dict_getitem.lookup hs (thn (ho.run pins s σ H _ I h) fun u s1 ⟨x, H1, I1, rx, q1⟩ => thn (hi.run pins s1 σ H1 _ I1 q1) fun iv s2 ⟨y, H2, I2, ry, d, t, xs, k, u', v, ex, ey, hd, hk, kb, dep, ks, at_, rv, q2⟩ => ?_)
  subst ex
  subst ey
  obtain rfl : u = Value.ref d := rx
  obtain rfl : iv = Value.ref t := ry
  obtain ⟨nm, m⟩ := nD_at I2.hok hd fun e he => by
    obtain ⟨k', e1, kb', dep', dp'⟩ := ks e he
    rw [← e1]
    exact ⟨nested_of I2 k' _ _ kb' dp' rfl, dep'⟩
  exact ⟨m.typeIs, getItem_keyed (knd := nestedKind X.prog X.w) (by show X.A.units + 1 + 8 < cLine; omega) ⟨nested_of I2 k _ _ kb hk rfl, dep⟩ ⟨xs, m, rfl⟩ at_ ⟨v, H2, I2.tok _, rv, q2⟩⟩
end
end L2

/-! own rules: {k: v}, a dict with one key, a nested tuple -/
namespace L2
open PySem PySem.Spec PyProof.Rows
def tN1 (K : PySem.W.Frag) (P : Program) (w : World) (tk tv : TE) : TE := fun σ H Q => ∀ p, H p = none → tk σ (upd H p (nD P w p [])) fun x H1 => tv σ H1 fun y H2 => ∃ (t : Addr) (k : PyData), x = .ref t ∧ H2 p = some (nD P w p []) ∧ Dp K H2 x k ∧ keyable k = true ∧ (kOf k).depth ≤ 8 ∧
  ∀ u, RelV y u → Q (.ref p) (upd H2 p (nD P w p [(kOf k, t, u)]))
section
variable {X : Cx}
theorem pe_n1 {k v : Expr} {pos : Pos} {tk tv : TE} (hu : X.A.units + 64 < cLine) (hk : PE X k tk) (hv : PE X v tv) : PE X (.Dict [some k] [v] pos) (tN1 X.K X.prog X.w tk tv) := by
  refine ⟨fun pins s σ H Q I h => ?_⟩
  have hn := I.hok.fresh (Nat.le_refl
        s.heap.objs.size)
  have nm : (s.heap.objs.size == sysModules) = false := beq_eq_false_iff_ne.mpr (Ne.symm (Nat.ne_of_lt I.big))
  have I1 := I.laid (a := s.heap.objs.size) (o := nD X.prog X.w s.heap.objs.size []) (h' := s.heap.push { cls := .type "dict", data := .dict #[] }) (t' := s.toks) (fun _ _ q => Heap.get?_push_of_some _ q) (Nat.le_refl _)
    (nD_ok nm (Heap.DictOfH.new s.heap) (Heap.get?_push_size _ rfl))
  have hz := zip_pairTrees [some k] [v] X.env pos rfl rfl
  have hl : (pairTrees [some k] [v] X.env pos).length = 1 := rfl
  rw [arm_eval_Dict, hz, dictDisplay_pairs (pairTrees [some k] [v] X.env pos) (by intro z; rw [z] at hl; cases hl) (by rw [hl]; decide)]
  refine wpAny_bind (wpAny_standAt (wpAny_bind (wpAny_subDictH (knd := nestedKind X.prog X.w) (Q := fun d s' => wpAny (model X.prog X.w) X.A (pure (Value.ref d)) _ X.xe s') (by show X.A.units + 8 < cLine; omega) (by rw [hl]; decide)
    (pairTrees_cons_walk (thn (hk.run pins _ σ _ _ I1 (h _ hn)) fun u s1 ⟨x, H1, I2, rx, q1⟩ => thn (hv.run pins s1 σ H1 _ I2 q1) fun z s2 ⟨y, H2, I3, ry, t, kk, ex, hd, hkk, kb, dep, q2⟩ => pairTrees_nil_walk ?_)))))
  subst ex
  obtain rfl : u = Value.ref t := rx
  obtain ⟨nm2, m⟩ := nD_at I3.hok hd fun _ h => nomatch h
  refine ⟨[(kOf kk, t, z)], ⟨rfl, rfl, ⟨nested_of I3 kk _ _ kb hkk rfl, dep⟩, True.intro⟩, m, fun h' tk m' hs => wpAny_pure ?_⟩
  obtain ⟨q, hq⟩ : ∃ q, h'.get? s.heap.objs.size = some q := let ⟨q, _, _, hq, _⟩ := m'; ⟨q, hq⟩
  exact ⟨.ref s.heap.objs.size, _, d_write I3 (by rw [hd]; exact True.intro) hs ⟨q, hq⟩ (nD_ok nm2 m' hq), rfl, q2 _ ry⟩
end
section
variable {X : Cx} (P : Program) (w : World) (e1 : X.prog = P) (e2 : X.w = w)
include e1 e2
theorem ne_n1 {k v : Expr} {pos : Pos} {tk tv : TE} (hu : X.A.units + 64 < cLine) (hk : PE X k tk) (hv : PE X v tv) : PE X (.Dict [some k] [v] pos) (tN1 X.K P w tk tv) := by
  subst e1 e2
  exact pe_n1 hu hk hv
theorem ne_new {pos : Pos} : PE X (.Dict [] [] pos) (tNNew P w) := by
  subst e1 e2
  exact pe_nnew
theorem ne_in {i o : Expr} {ty td : TE} (hu : X.A.units + 64 < cLine) (hi : PE X i ty) (ho : PE X o td) : PC X .In i o (tNIn X.K P w ty td) := by
  subst e1 e2
  exact pc_nin hu hi ho
theorem ne_notin {i o : Expr} {ty td : TE} (hu : X.A.units + 64 < cLine) (hi : PE X i ty) (ho : PE X o td) : PC X .NotIn i o (tNNotIn X.K P w ty td) := by
  subst e1 e2
  exact pc_nnotin hu hi ho
theorem ne_get2 {o e f : Expr} {apos cpos : Pos} {td ty tx : TE} (hu : X.A.units + 64 < cLine) (ho : PE X o td) (he : PE X e ty) (hf : PE X f tx) (m : M2 X o "get" apos e f cpos) : PE X (.Call (.Attribute o "get" apos) [e, f] [] cpos) (tNGet2 X.K P w td ty tx) := by
  subst e1 e2
  exact pe_nget2 hu ho he hf m
theorem ne_put {o i value : Expr} {pos pos' : Pos} {td ty tv : TE} (hu : X.A.units + 64 < cLine) (ho : PE X o td) (hi : PE X i ty) (hv : PE X value tv) (hs : swapsWith value (some (.Subscript o i pos')) pos.line X.env = pure false) :
    PS X (.Assign [.Subscript o i pos'] value pos) (sNPut X.K P w td ty tv) := by
  subst e1 e2
  exact ps_nput hu ho hi hv hs
theorem ne_ix {o i : Expr} {pos : Pos} {td ty : TE} (hu : X.A.units + 64 < cLine) (ho : PE X o td) (hi : PE X i ty) (hs : NoSl i) : PE X (.Subscript o i pos) (tNIx X.K P w td ty) := by
  subst e1 e2
  exact pe_nix hu ho hi hs
end
theorem hu64 {k : Nat} {A : Around} (r : Room k A) : A.units + 64 < cLine := by have := r.un; omega
end L2

namespace K5
open PySem PySem.Spec PyProof.Rows L2
/-! dicts keyed by states -/
def kS (S : S2) : NestedKey := kOf (dS S)
theorem kAll_inj : ∀ l m : List Nat, kAll (dIs l) = kAll (dIs m) → l = m
  | [], [], _ => rfl
  | [], _ :: _, h => by simp [dIs, kAll] at h
  | _ :: _, [], h => by simp [dIs, kAll] at h
  | x :: l, y :: m, h => by
    simp only [dIs, List.map_cons, kAll, kOf, List.cons.injEq, NestedKey.num.injEq] at h
    have e := kAll_inj l m h.2
    have : x = y := by omega
    rw [e, this]
theorem kS_inj {A B : S2} (h : kS A = kS B) : A = B := by
  obtain ⟨a, b⟩ := A
  obtain ⟨c, d⟩ := B
  simp only [kS, dS, kOf, kAll, NestedKey.tup.injEq, List.cons.injEq, and_true] at h
  rw [kAll_inj _ _ h.1, kAll_inj _ _ h.2]
theorem keyable_is : ∀ l : List Nat, keyableAll (dIs l) = true
  | [] => by simp [dIs, keyableAll]
  | x :: l => by
    have := keyable_is l
    simp only [dIs, List.map_cons, keyableAll, keyable, Bool.true_and] at this ⊢
    exact this
theorem keyable_S (S : S2) : keyable (dS S) = true := by
  simp only [dS, keyable, keyableAll, keyable_is, Bool.and_true]
theorem kdepth_is : ∀ l : List Nat, NestedKey.depthAll (kAll (dIs l)) = 0
  | [] => by simp [dIs, kAll, NestedKey.depthAll]
  | x :: l => by
    have := kdepth_is l
    simp only [dIs, List.map_cons, kAll, kOf, NestedKey.depthAll, NestedKey.depth] at this ⊢
    omega
theorem kdepth_S (S : S2) : (kOf (dS S)).depth ≤ 8 := by
  simp only [dS, kOf, kAll, NestedKey.depth, NestedKey.depthAll, kdepth_is]
  decide
abbrev NX := List (NestedKey × Addr × Value)
/-- the keys stand, and are states -/
def KeyOk (K : PySem.W.Frag) (H : Hp) (xs : NX) : Prop := ∀ e ∈ xs, ∃ S, kS S = e.1 ∧ StateAt K H e.2.1 S
theorem KeyOk.dp {K : PySem.W.Frag} {H : Hp} {xs : NX} (h : KeyOk K H xs) : ∀ e ∈ xs, ∃ k', kOf k' = e.1 ∧ keyable k' = true ∧ (kOf k').depth ≤ 8 ∧ Dp K H (.ref e.2.1) k' := fun e he => by
  obtain ⟨S, e1, st⟩ := h e he
  exact ⟨dS S, e1, keyable_S S, kdepth_S S, dp_S st⟩
theorem KeyOk.same {K : PySem.W.Frag} {H H' : Hp} {xs : NX} (h : KeyOk K H xs) (s : Same H H') : KeyOk K H' xs := fun e he => by
  obtain ⟨S, e1, st⟩ := h e he
  exact ⟨S, e1, st.same s⟩
theorem KeyOk.but {K : PySem.W.Frag} {H H' : Hp} {g : Addr} {ys : List V} {xs : NX} (h : KeyOk K H xs) (hg : H g = some (.lst ys)) (s : But g H H') : KeyOk K H' xs := fun e he => by
  obtain ⟨S, e1, st⟩ := h e he
  exact ⟨S, e1, st.but hg s⟩
theorem KeyOk.put {K : PySem.W.Frag} {H : Hp} {xs : NX} {S : S2} {t : Addr} {u : Value} (h : KeyOk K H xs) (st : StateAt K H t S) : KeyOk K H (storedH xs (kS S) t u) := fun e he => by
  rcases mem_storedH_key he with ⟨y, hy, e1, e2⟩ | ⟨e1, e2⟩
  · obtain ⟨S', a, b⟩ := h y hy
    exact ⟨S', by rw [e1]; exact a, by rw [e2]; exact b⟩
  · exact ⟨S, e1.symm, by rw [e2]; exact st⟩
theorem at_put (xs : NX) (S T : S2) (t : Addr) (u : Value) : PySem.valueAt (pairsH (storedH xs (kS S) t u)) (kS T) = if T = S then some u else PySem.valueAt (pairsH xs) (kS T) := by
  rw [pairsH_storedH, valueAt_stored]
  by_cases c : T = S
  · rw [if_pos c, if_pos (by rw [c])]
  · rw [if_neg c, if_neg (fun z => c (kS_inj z))]
theorem butD_tup {K : PySem.W.Frag} {P : Program} {w : World} {H H' : Hp} {d a : Addr} {xs : NX} {ys : List V} (e : But d H H') (hd : H d = some (nD P w d xs)) (h : SqT K H a ys) : SqT K H' a ys := by
  rcases h with (z | ⟨o, z⟩) | z
  · exact .inl (.inl (e _ _ (ne_of z hd (by intro q; cases q)) z))
  · exact .inl (.inr ⟨o, e _ _ (ne_of z hd (by intro q; cases q)) z⟩)
  · exact .inr z
theorem StateAt.butD {K : PySem.W.Frag} {P : Program} {w : World} {H H' : Hp} {d s : Addr} {xs : NX} {S : S2} (h : StateAt K H s S) (hd : H d = some (nD P w d xs)) (e : But d H H') : StateAt K H' s S := by
  obtain ⟨r, b, h1, h2, h3⟩ := h
  exact ⟨r, b, butD_tup e hd h1, butD_tup e hd h2, butD_tup e hd h3⟩
theorem KeyOk.butD {K : PySem.W.Frag} {P : Program} {w : World} {H H' : Hp} {d : Addr} {xs ys : NX} (h : KeyOk K H ys) (hd : H d = some (nD P w d xs)) (s : But d H H') : KeyOk K H' ys := fun e he => by
  obtain ⟨S, e1, st⟩ := h e he
  exact ⟨S, e1, st.butD hd s⟩
/-- rows (state, door) -/
def EdL (K : PySem.W.Frag) (H : Hp) (us : List Addr) (l : List (S2 × Nat)) : Prop := us.length = l.length ∧ ∀ (i : Nat) (t : Addr) (e : S2 × Nat), us[i]? = some t → l[i]? = some e → ∃ s : Addr, H t = some (.tup [.ref s, .int (e.2 : Int)]) ∧ StateAt K H s e.1
theorem EdL.same {K : PySem.W.Frag} {H H' : Hp} {us : List Addr} {l : List (S2 × Nat)} (h : EdL K H us l) (s : Same H H') : EdL K H' us l := ⟨h.1, fun i t e a b => by
  obtain ⟨x, h1, h2⟩ := h.2 i t e a b
  exact ⟨x, s _ _ h1, h2.same s⟩⟩
theorem EdL.but {K : PySem.W.Frag} {H H' : Hp} {g : Addr} {ys : List V} {us : List Addr} {l : List (S2 × Nat)} (h : EdL K H us l) (hg : H g = some (.lst ys)) (s : But g H H') : EdL K H' us l := ⟨h.1, fun i t e a b => by
  obtain ⟨x, h1, h2⟩ := h.2 i t e a b
  exact ⟨x, s _ _ (ne_lt hg h1) h1, h2.but hg s⟩⟩
theorem EdL.butD {K : PySem.W.Frag} {P : Program} {w : World} {H H' : Hp} {d : Addr} {xs : NX} {us : List Addr} {l : List (S2 × Nat)} (h : EdL K H us l) (hd : H d = some (nD P w d xs)) (s : But d H H') : EdL K H' us l := ⟨h.1, fun i t e a b => by
  obtain ⟨x, h1, h2⟩ := h.2 i t e a b
  exact ⟨x, s _ _ (ne_of h1 hd (by intro q; cases q)) h1, h2.butD hd s⟩⟩
theorem EdL.app {K : PySem.W.Frag} {H : Hp} {us : List Addr} {l : List (S2 × Nat)} {t s : Addr} {e : S2 × Nat} (h : EdL K H us l) (ht : H t = some (.tup [.ref s, .int (e.2 : Int)])) (hs : StateAt K H s e.1) : EdL K H (us ++ [t]) (l ++ [e]) := by
  refine ⟨by rw [List.length_append, List.length_append, h.1]; rfl, fun i a b e1 e2 => ?_⟩
  by_cases hi : i < us.length
  · rw [List.getElem?_append_left hi] at e1
    rw [List.getElem?_append_left (by rw [← h.1]; exact hi)] at e2
    exact h.2 i a b e1 e2
  · rw [List.getElem?_append_right (by omega)] at e1
    rw [List.getElem?_append_right (by rw [← h.1]; omega), ← h.1] at e2
    generalize i - us.length = j at e1 e2
    match j with
    | 0 =>
      cases e1
      cases e2
      exact ⟨s, ht, hs⟩
    | j + 1 => simp at e1
/-- for each state the rows of those before it -/
structure Bef (K : PySem.W.Frag) (P : Program) (w : World) (H : Hp) (d : Addr) (xs : NX) (f : S2 → List (S2 × Nat)) : Prop where
  at_ : H d = some (nD P w d xs)
  ks : KeyOk K H xs
  no : ∀ T, f T = [] → PySem.valueAt (pairsH xs) (kS T) = none
  yes : ∀ T, f T ≠ [] → ∃ (q : Addr) (us : List Addr), PySem.valueAt (pairsH xs) (kS T) = some (.ref q) ∧ H q = some (.lst (us.map V.ref)) ∧ EdL K H us (f T)
theorem Bef.same {K : PySem.W.Frag} {P : Program} {w : World} {H H' : Hp} {d : Addr} {xs : NX} {f : S2 → List (S2 × Nat)} (h : Bef K P w H d xs f) (s : Same H H') : Bef K P w H' d xs f := ⟨s _ _ h.at_, h.ks.same s, h.no, fun T z => by
  obtain ⟨q, us, a, b, c⟩ := h.yes T z
  exact ⟨q, us, a, s _ _ b, c.same s⟩⟩
/-- a generator or another list changes, that is none of the dict's rows -/
theorem Bef.gen {K : PySem.W.Frag} {P : Program} {w : World} {H H' : Hp} {d g : Addr} {xs : NX} {f : S2 → List (S2 × Nat)} {b : Nat} (h : Bef K P w H d xs f) (hg : GenAt H g b) (s : But g H H') : Bef K P w H' d xs f := by
  obtain ⟨x, y, z, hg, _⟩ := hg
  refine ⟨s _ _ (ne_of h.at_ hg (by intro q; cases q)) h.at_, h.ks.but hg s, h.no, fun T zz => ?_⟩
  obtain ⟨q, us, a, b, c⟩ := h.yes T zz
  refine ⟨q, us, a, s _ _ (ne_of b hg ?_) b, c.but hg s⟩
  intro e
  have e := HO.lst.inj e
  cases us with
  | nil => cases e
  | cons u us => cases e
theorem Bef.put {K : PySem.W.Frag} {P : Program} {w : World} {H : Hp} {d t q : Addr} {xs : NX} {f : S2 → List (S2 × Nat)} {us : List Addr} {S : S2} {e : S2 × Nat} {u : Value} (h : Bef K P w H d xs f) (ht : StateAt K H t S) (hq : H q = some (.lst (us.map V.ref))) (l : EdL K H us (f S ++ [e])) (hu : u = .ref q) :
    Bef K P w (upd H d (nD P w d (storedH xs (kS S) t u))) d (storedH xs (kS S) t u) (fun T => if T = S then f T ++ [e] else f T) := by
  subst hu
  have bt : But d H (upd H d (nD P w d (storedH xs (kS S) t (.ref q)))) := But.upd (But.refl _ _) _
  refine ⟨upd_same, (h.ks.put ht).butD h.at_ bt, fun T z => ?_, fun T z => ?_⟩
  · by_cases c : T = S
    · simp only [if_pos c] at z
      simp at z
    · simp only [if_neg c] at z
      rw [at_put, if_neg c]
      exact h.no T z
  · by_cases c : T = S
    · subst c
      simp only [if_true]
      refine ⟨q, us, by rw [at_put, if_pos rfl], bt _ _ (ne_of hq h.at_ (by intro q; cases q)) hq, l.butD h.at_ bt⟩
    · simp only [if_neg c] at z ⊢
      obtain ⟨q', us', a, b, c'⟩ := h.yes T z
      exact ⟨q', us', by rw [at_put, if_neg c]; exact a, bt _ _ (ne_of b h.at_ (by intro q; cases q)) b, c'.butD h.at_ bt⟩
/-- a dict of states that were reached -/
structure Rch (K : PySem.W.Frag) (P : Program) (w : World) (H : Hp) (d : Addr) (xs : NX) (R : List S2) : Prop where
  at_ : H d = some (nD P w d xs)
  ks : KeyOk K H xs
  is : ∀ T, (PySem.valueAt (pairsH xs) (kS T)).isSome = decide (T ∈ R)
  len : xs.length ≤ R.length
theorem Rch.same {K : PySem.W.Frag} {P : Program} {w : World} {H H' : Hp} {d : Addr} {xs : NX} {R : List S2} (h : Rch K P w H d xs R) (s : Same H H') : Rch K P w H' d xs R := ⟨s _ _ h.at_, h.ks.same s, h.is, h.len⟩
theorem Rch.but {K : PySem.W.Frag} {P : Program} {w : World} {H H' : Hp} {d g : Addr} {ys : List V} {xs : NX} {R : List S2} (h : Rch K P w H d xs R) (hg : H g = some (.lst ys)) (s : But g H H') : Rch K P w H' d xs R := ⟨s _ _ (ne_of h.at_ hg (by intro q; cases q)) h.at_, h.ks.but hg s, h.is, h.len⟩
theorem Rch.put {K : PySem.W.Frag} {P : Program} {w : World} {H : Hp} {d t : Addr} {xs : NX} {R : List S2} {S : S2} {u : Value} (h : Rch K P w H d xs R) (ht : StateAt K H t S) :
    Rch K P w (upd H d (nD P w d (storedH xs (kS S) t u))) d (storedH xs (kS S) t u) (R ++ [S]) := by
  have bt : But d H (upd H d (nD P w d (storedH xs (kS S) t u))) := But.upd (But.refl _ _) _
  refine ⟨upd_same, (h.ks.put ht).butD h.at_ bt, fun T => ?_, ?_⟩
  · rw [at_put]
    by_cases c : T = S
    · rw [if_pos c, decide_eq_true (by rw [c]; simp)]
      rfl
    · rw [if_neg c, h.is T, decide_eq_decide]
      simp [c]
  · have := storedH_length xs (kS S) t u
    have := h.len
    rw [List.length_append,
          List.length_singleton]
    omega
end K5

namespace K5
open PySem PySem.Spec PyProof.Rows L2
/-- i people somewhere, j doors that bar one of c -/
def Gs (n c i j : Nat) (S : S2) : Prop := S.1.length = i ∧ (∀ x ∈ S.1, x < n) ∧ S.2.length = j ∧ ∀ y ∈ S.2, y < c
def growR (n : Nat) (S : S2) : List S2 := (List.range n).map fun x => (S.1 ++ [x], S.2)
def growB (c : Nat) (S : S2) : List S2 := (List.range c).map fun y => (S.1, S.2 ++ [y])
/-- all of them, once -/
structure AllG (n c i j : Nat) (l : List S2) : Prop where
  nd : l.Nodup
  mem : ∀ S, S ∈ l ↔ Gs n c i j S
theorem snoc_of {i : Nat} {l : List Nat} (h : l.length = i + 1) : ∃ r x, l = r ++ [x] ∧ r.length = i := by
  rcases snoc_nil l with z | ⟨r, x, z⟩
  · rw [z] at h
    cases h
  · refine ⟨r, x, z, ?_⟩
    rw [z, List.length_append, List.length_singleton] at h
    omega
theorem AllG.start (n c : Nat) : AllG n c 0 0 [([], [])] := by
  refine ⟨by simp, fun S => ?_⟩
  obtain ⟨a, b⟩ := S
  rw [List.mem_singleton]
  constructor
  · intro h
    cases h
    refine ⟨rfl, fun x h => ?_, rfl, fun x h => ?_⟩
    · cases h
    · cases h
  · rintro ⟨h1, _, h3, _⟩
    have e1 : a = [] := List.length_eq_zero_iff.mp h1
    have e2 : b = [] := List.length_eq_zero_iff.mp h3
    rw [e1, e2]
theorem AllG.room {n c i j : Nat} {l : List S2} (h : AllG n c i j l) : AllG n c (i + 1) j (l.flatMap (growR n)) := by
  refine ⟨?_, fun S => ?_⟩
  · show List.Pairwise (· ≠ ·) _
    rw [List.pairwise_flatMap]
    refine ⟨fun a _ => ?_, h.nd.imp fun {a b} ne => fun x hx y hy z => ?_⟩
    · unfold growR
      rw [List.pairwise_map]
      exact List.nodup_range.imp fun {x y} ne z => ne (by
        have := (Prod.mk.inj z).1
        have := (List.append_inj' this rfl).2
        exact List.head_eq_of_cons_eq this)
    · unfold growR at hx hy
      obtain ⟨u, _, rfl⟩ := List.mem_map.mp hx
      obtain ⟨v, _, rfl⟩ := List.mem_map.mp hy
      have e := Prod.mk.inj z
      have e1 := (List.append_inj' e.1 rfl).1
      exact ne (Prod.ext e1 e.2)
  · rw [List.mem_flatMap]
    constructor
    · rintro ⟨A, hA, hS⟩
      unfold growR at hS
      obtain ⟨x, hx, rfl⟩ := List.mem_map.mp hS
      obtain ⟨a1, a2, a3, a4⟩ := (h.mem A).mp hA
      refine ⟨by rw [List.length_append, List.length_singleton, a1], fun y hy => ?_, a3, a4⟩
      rcases List.mem_append.mp hy with hy | hy
      · exact a2 y hy
      · rw [List.mem_singleton.mp hy]
        exact List.mem_range.mp hx
    · rintro ⟨a1, a2, a3, a4⟩
      obtain ⟨A, B⟩ := S
      obtain ⟨r, x, rfl, hr⟩ := snoc_of a1
      refine ⟨(r, B), (h.mem _).mpr ⟨hr, fun y hy => a2 y (List.mem_append_left _ hy), a3, a4⟩, ?_⟩
      unfold growR
      exact List.mem_map.mpr ⟨x, List.mem_range.mpr (a2 x (List.mem_append_right _ List.mem_cons_self)), rfl⟩
theorem AllG.bar {n c i j : Nat} {l : List S2} (h : AllG n c i j l) : AllG n c i (j + 1) (l.flatMap (growB c)) := by
  refine ⟨?_, fun S => ?_⟩
  · show List.Pairwise (· ≠ ·) _
    rw [List.pairwise_flatMap]
    refine ⟨fun a _ => ?_, h.nd.imp fun {a b} ne => fun x hx y hy z => ?_⟩
    · unfold growB
      rw [List.pairwise_map]
      exact List.nodup_range.imp fun {x y} ne z => ne (by
        have := (Prod.mk.inj z).2
        have := (List.append_inj' this rfl).2
        exact List.head_eq_of_cons_eq this)
    · unfold growB at hx hy
      obtain ⟨u, _, rfl⟩ := List.mem_map.mp hx
      obtain ⟨v, _, rfl⟩ := List.mem_map.mp hy
      have e := Prod.mk.inj z
      have e1 := (List.append_inj' e.2 rfl).1
      exact ne (Prod.ext e.1 e1)
  · rw [List.mem_flatMap]
    constructor
    · rintro ⟨A, hA, hS⟩
      unfold growB at hS
      obtain ⟨x, hx, rfl⟩ := List.mem_map.mp hS
      obtain ⟨a1, a2, a3, a4⟩ := (h.mem A).mp hA
      refine ⟨a1, a2, by rw [List.length_append, List.length_singleton, a3], fun y hy => ?_⟩
      rcases List.mem_append.mp hy with hy | hy
      · exact a4 y hy
      · rw [List.mem_singleton.mp hy]
        exact List.mem_range.mp hx
    · rintro ⟨a1, a2, a3, a4⟩
      obtain ⟨A, B⟩ := S
      obtain ⟨r, x, rfl, hr⟩ := snoc_of a3
      refine ⟨(A, r), (h.mem _).mpr ⟨a1, a2, hr, fun y hy => a4 y (List.mem_append_left _ hy)⟩, ?_⟩
      unfold growB
      exact List.mem_map.mpr ⟨x, List.mem_range.mpr (a4 x (List.mem_append_right _ List.mem_cons_self)), rfl⟩
theorem flat_len {f : S2 → List S2} {m : Nat} (h : ∀ S, (f S).length = m) (l : List S2) : (l.flatMap f).length = l.length * m := len_flatMap f m l fun x _ => h x
theorem flat_take {f : S2 → List S2} {l : List S2} {i : Nat} {S : S2} (h : l[i]? = some S) : (l.take (i + 1)).flatMap f = (l.take i).flatMap f ++ f S := by
  rw [List.take_add_one, h, List.flatMap_append]
  simp
def spAll (K : PySem.W.Frag) : Sp := fun vs H Q _ => ∃ (a : Addr) (ds : List (Nat × Nat)) (n c : Nat), vs = [.ref a, .int (c : Int)] ∧ HouseAt K H a ds ∧ Tree n ds ∧ n ≤ 4 ∧ c ≤ 3 ∧
  ∀ (H' : Hp) (q : Addr) (ts : List Addr) (l : List S2), Same H H' → H q = none → H' q = some (.lst (ts.map V.ref)) → StsAt K H' ts l → AllG n c c ds.length l → l.length ≤ 1728 → Q (.ref q) H'
theorem StsAt.join {K : PySem.W.Frag} {H : Hp} {ts ts' : List Addr} {l l' : List S2} (h : StsAt K H ts l) (h' : StsAt K H ts' l') : StsAt K H (ts ++ ts') (l ++ l') := by
  refine ⟨by rw [List.length_append, List.length_append, h.1, h'.1], fun i a b e1 e2 => ?_⟩
  by_cases hi : i < ts.length
  · rw [List.getElem?_append_left hi] at e1
    rw [List.getElem?_append_left (by rw [← h.1]; exact hi)] at e2
    exact h.2 i a b e1 e2
  · rw [List.getElem?_append_right (by omega)] at e1
    rw [List.getElem?_append_right (by rw [← h.1]; omega), ← h.1] at e2
    exact h'.2 _ a b e1 e2
section
variable {P : Program} {w : World} {K : PySem.W.Frag}
      {mg : Str → Option Value} {base : Heap}
theorem ok_l_all_states (T : Bl mg) (D : Def K mg "_law_all_states" s_l_all_states) : Cal P w K mg base "_law_all_states" ["_law_layout", "_law_count"] 1 (spAll K) := by
  refine D.ok sc_l_all_states (fun _ _ _ _ _ _ us hl => match us, hl with | [_, _], _ => rfl) (fun vs H Q E h => ?_) (fun f cdv A outer s0 H vs Q E hr h => ?_)
  · obtain ⟨a, ds, n, c, rfl, _⟩ := h
    rfl
  obtain ⟨a, ds, n, c, rfl, hH, tree, hn, hc, qn⟩ := h
  obtain ⟨rs, hrs, hlen, hds⟩ := id hH
  have hdn := tree.len
  refine ⟨_, (pss_cons (ps_set (i := 2) sc_l_all_states.nd rfl (.inl rfl) (pe_lst (pa_cons (pe_tup (pa_cons (pe_tup pa_nil) (pa_cons (pe_tup pa_nil) pa_nil))) pa_nil)))
    (pss_cons (ps_for PassesOwn.never rfl (pi_range1 rfl T.range (pa_cons (pv 1) pa_nil)) (pg_name (i := 3) sc_l_all_states.nd rfl (.inl rfl))
    (pss_cons (ps_set (i := 4) sc_l_all_states.nd rfl (.inl rfl) (pe_lst pa_nil))
    (pss_cons (ps_for PassesOwn.never rfl (pi_list (pv 2)) (pg_tup (n := 2) rfl (pgs_cons (pg_name (i := 5) sc_l_all_states.nd rfl (.inr rfl)) (pgs_cons (pg_name (i := 6) sc_l_all_states.nd rfl (.inr rfl)) pgs_nil)))
    (pss_one (ps_set (i := 4) sc_l_all_states.nd rfl (.inl rfl) (pe_op op_cat (pv 4) (pe_lc (own := [("_law_spot", 7)]) (g := gName 7)  (te := (tTup (tCons (tOp (rCatA K) (tVar 5) (tTup (tCons (tVar 7) tNil))) (tCons (tVar 6) tNil)))) rfl sc_l_all_states.nd (pi_range1 rfl T.range (pa_cons (pe_op op_add (pe_callB call_len_seq (by rfl) T.len PySem.boot_len (pa_cons (pv 0) pa_nil)) pe_int) pa_nil)) (blkOk_by (N := N_l_all_states) (sc := defScope s_l_all_states) (own := [("_law_spot", 7)]) (by decide +kernel)) (fun _ _ _ _ _ => (pg_name (i := 7) sc_l_all_states.nd rfl (.inl rfl) (.inr rfl))) (fun _ _ _ _ _ => pts_nil) (fun _ _ _ _ _ => (pe_tup (pa_cons (pe_op op_catA (pv 5) (pe_tup (pa_cons (pv 7) pa_nil))) (pa_cons (pv 6) pa_nil)))))))))
    (pss_one (ps_set (i := 2) sc_l_all_states.nd rfl (.inl rfl) (pv 4))))))
    (pss_cons (ps_for PassesOwn.never rfl (pi_range1 rfl T.range (pa_cons (pe_callB call_len_seq (by rfl) T.len PySem.boot_len (pa_cons (pv 0) pa_nil)) pa_nil)) (pg_name (i := 8) sc_l_all_states.nd rfl (.inl rfl))
    (pss_cons (ps_set (i := 4) sc_l_all_states.nd rfl (.inl rfl) (pe_lst pa_nil))
    (pss_cons (ps_for PassesOwn.never rfl (pi_list (pv 2)) (pg_tup (n := 2) rfl (pgs_cons (pg_name (i := 5) sc_l_all_states.nd rfl (.inr rfl)) (pgs_cons (pg_name (i := 6) sc_l_all_states.nd rfl (.inr rfl)) pgs_nil)))
    (pss_one (ps_set (i := 4) sc_l_all_states.nd rfl (.inl rfl) (pe_op op_cat (pv 4) (pe_lc (own := [("_law_who", 9)]) (g := gName 9)  (te := (tTup (tCons (tVar 5) (tCons (tOp (rCatA K) (tVar 6) (tTup (tCons (tVar 9) tNil))) tNil)))) rfl sc_l_all_states.nd (pi_range1 rfl T.range (pa_cons (pv 1) pa_nil)) (blkOk_by (N := N_l_all_states) (sc := defScope s_l_all_states) (own := [("_law_who", 9)]) (by decide +kernel)) (fun _ _ _ _ _ => (pg_name (i := 9) sc_l_all_states.nd rfl (.inl rfl) (.inr rfl))) (fun _ _ _ _ _ => pts_nil) (fun _ _ _ _ _ => (pe_tup (pa_cons (pv 5) (pa_cons (pe_op op_catA (pv 6) (pe_tup (pa_cons (pv 9) pa_nil))) pa_nil)))))))))
    (pss_one (ps_set (i := 2) sc_l_all_states.nd rfl (.inl rfl) (pv 4))))))
    (pss_one (ps_ret (pv 2)))))), ?_⟩
  have z0 : 0 ≤ sizeLine := Nat.zero_le _
  have sz := small3k (n := 2000) (by decide)
  refine ⟨z0, fun p1 np1 => ⟨z0, fun p2 np2 => ⟨by show 2 ≤ sizeLine; decide, fun p3 np3 => ⟨by show 1 ≤ sizeLine; decide, fun p4 np4 => ?_⟩⟩⟩⟩
  have s1 := Same.upd (o := .tup []) np1
  have s2 := Same.upd (o := .tup []) np2
  have s3 := Same.upd (o := .tup [.ref p1, .ref p2]) np3
  have s4 := Same.upd (o := .lst [.ref p3]) np4
  have s04 := ((s1.trans s2).trans s3).trans s4
  have n4 : H p4 = none := ((s1.trans s2).trans s3).free np4
  have st0 : StateAt K _ p3 ([], []) := ⟨p1, p2, s4.tup (SqT.of upd_same), s4.tup (s3.tup (s2.tup (SqT.of upd_same))), s4.tup (s3.tup (SqT.of upd_same))⟩
  have hp4 := upd_same (H := upd (upd (upd H p1 (.tup [])) p2 (.tup [])) p3 (.tup [.ref p1, .ref p2])) (a := p4) (o := .lst [.ref p3])
  refine ⟨_, rfl, (c : Int), rfl, by omega, by omega, ?_⟩
  refine for_range (lo := 0) (n := c) (fun i σ H2 => ∃ (q : Addr) (ts : List Addr) (l : List S2) (y3 y4 y5 y6 y7 y8 y9 : Option V), σ = [some (.ref a), some (.int (c : Int)), some (.ref q), y3, y4, y5, y6, y7, y8, y9] ∧ Same H H2 ∧ H q = none ∧ H2 q = some (.lst (ts.map V.ref)) ∧ StsAt K H2 ts l ∧ AllG n c i 0 l ∧ l.length ≤ 4 ^ i)
    ⟨p4, [p3], [([], [])], _, _, _, _, _, _, _, rfl, s04, n4, hp4, ⟨rfl, fun i t X h1 h2 => ?_⟩, AllG.start n c, Nat.le_refl _⟩ ?_ ?_
  · match i with
    | 0 =>
      cases h1
      cases h2
      exact st0
    | i + 1 => simp at h1
  · rintro i σ H2 hi ⟨q, ts, l, y3, y4, y5, y6, y7, y8, y9, rfl, sm, nq, hq, sts, ag, len⟩
    have p64 : 4 ^ i ≤ 16 := Nat.le_trans (Nat.pow_le_pow_right (by decide) (show i ≤ 2 by omega)) (by decide)
    refine ⟨z0, fun p5 np5 => ?_⟩
    have s5 := Same.upd (o := .lst []) np5
    have hp5 := upd_same (H := H2) (a := p5) (o := .lst [])
    have hq5 := s5 _ _ hq
    have st5 := sts.same s5
    have sm5 := sm.trans s5
    have n5 := sm.free np5
    generalize upd H2 p5 (.lst []) = H5 at s5 hp5 hq5 st5 sm5
    refine ⟨_, rfl, q, rfl, ⟨_, SqL.of hq5⟩, ?_⟩
    refine for_it (walk_list (K := K) (a := q) (xs := ts.map V.ref)) (fun j σ H6 => ∃ (q' : Addr) (ts' : List Addr) (y5 y6 y7 y8 y9 : Option V), σ = [some (.ref a), some (.int (c : Int)), some (.ref q), some (.int (0 + (i : Int))), some (.ref q'), y5, y6, y7, y8, y9] ∧ Same H5 H6 ∧ H q' = none ∧ H6 q' = some (.lst (ts'.map V.ref)) ∧ StsAt K H6 ts' ((l.take j).flatMap (growR n)))
      ⟨p5, [], _, _, _, _, _, rfl, Same.refl _, n5, hp5, rfl, fun _ _ _ h => by simp at h⟩ (fun j σ H6 _ ⟨_, _, _, _, _, _, _, _, s6, _⟩ => SqL.of (s6 _ _ hq5)) ?_ ?_
    · rintro j x σ H7 H6 hj ⟨q', ts', y5, y6, y7, y8, y9, rfl, s6, nq', hq', sts'⟩ ⟨rfl, ex⟩
      rw [List.getElem?_map] at ex
      obtain ⟨t, ht, rfl⟩ := Option.map_eq_some_iff.mp ex
      obtain ⟨S, hS⟩ : ∃ S, l[j]? = some S := get_of sts.1.symm (get_lt ht)
      obtain ⟨r, b, g1, g2, g3⟩ := id ((st5.same s6).2 j t S ht hS)
      obtain ⟨gi, _, _, _⟩ := (ag.mem S).mp (List.mem_of_getElem? hS)
      have jl := get_lt hS
      have s56 := sm5.trans s6
      refine ⟨t, _, rfl, g1, rfl, _, _, rfl, _, _, rfl, rfl, ?_⟩
      refine ⟨_, rfl, _, rfl, a, _, rfl, .inr (s56.tup hrs), _, _, rfl, rfl, (n : Int), congrArg (fun z : Int => [V.int z]) (by rw [List.length_map, hlen]; omega), by omega, by omega, fun pd npd => ?_⟩
      have npd0 := s56.free npd
      have spd := Same.upd (o := .lst []) npd
      refine lc_range (lo := 0) (n := n) (fun k H8 => ∃ us : List Addr, Same H6 H8 ∧ H8 pd = some (.lst (us.map V.ref)) ∧ StsAt K H8 us ((List.range k).map fun x => (S.1 ++ [x], S.2))) ⟨[], spd, upd_same, rfl, fun _ _ _ h => by simp at h⟩ ?_ ?_
      · rintro k H8 hk ⟨us, s8, hp8, st8⟩
        refine ⟨rfl, lcYes ?_⟩
        refine ⟨_, rfl, _, rfl, by show 1 ≤ sizeLine; decide, fun p9 np9 => ?_⟩
        have s9 := Same.upd (o := .tup [.int (0 + (k : Int))]) np9
        rw [show (0 : Int) + (k : Int) = ((k : Nat) : Int) by omega] at s9 ⊢
        refine catA_of (xs := nv S.1) (ys := nv [k]) (s9.tup (s8.tup g2)) (SqT.of upd_same) (by rw [nv_len, nv_len, gi]; show i + 1 ≤ sizeLine; omega) fun H10 p10 s10 h10 => ?_
        rw [nv_app] at h10
        refine ⟨_, rfl, by show 2 ≤ sizeLine; decide, fun p11 np11 => ?_⟩
        have s11 := Same.upd (o := .tup [.ref p10, .ref b]) np11
        have s811 := (s9.trans s10).trans s11
        have hp11 := s811 _ _ hp8
        refine ⟨us.map V.ref, hp11, by rw [List.length_map, st8.1, List.length_map, List.length_range]; omega, us ++ [p11], (s8.trans s811).at npd, by rw [upd_same, List.map_append]; rfl, ?_⟩
        rw [List.range_succ, List.map_append]
        exact ((st8.same s811).app (X := (S.1 ++ [k], S.2)) ⟨p10, b, SqT.of upd_same, s11.tup h10, s11.tup (s10.tup (s9.tup (s8.tup g3)))⟩).put hp11
      · rintro H8 ⟨us, s8, hp8, st8⟩
        have ll : ((l.take j).flatMap (growR n)).length ≤ 64 := by
          rw [flat_len (m := n) (fun S => by unfold growR; rw [List.length_map, List.length_range]), List.length_take]
          have h1 : min j l.length ≤ 16 := by omega
          exact Nat.le_trans (Nat.mul_le_mul h1 hn) (by decide)
        have ul := st8.1
        rw [List.length_map, List.length_range] at ul
        refine ⟨q', pd, ts'.map V.ref, us.map V.ref, rfl, rfl, s8 _ _ hq', hp8, by rw [List.length_map, List.length_map, sts'.1, ul]; omega, fun p12 np12 => ?_⟩
        have s12 := Same.upd (o := .lst (ts'.map V.ref ++ us.map V.ref)) np12
        have s812 := s8.trans s12
        refine ⟨p12, ts' ++ us, _, _, _, _, _, rfl, s6.trans s812, s56.free (s8.free np12), by rw [upd_same, List.map_append], ?_⟩
        rw [flat_take hS]
        exact (sts'.same s812).join (st8.same s12)
    · rintro σ H6 ⟨q', ts', y5, y6, y7, y8, y9, rfl, s6, nq', hq', sts'⟩
      have et : (l.take (ts.map V.ref).length) = l := by rw [List.length_map, sts.1, List.take_length]
      rw [et] at sts'
      refine ⟨_, rfl, q', ts', _, _, _, _, _, _, _, _, rfl, sm5.trans s6, nq', hq', sts', ag.room, ?_⟩
      rw [flat_len (m := n) (fun S => by unfold growR; rw [List.length_map, List.length_range]), Nat.pow_succ]
      exact Nat.mul_le_mul len hn
  · rintro σ H2 ⟨q, ts, l, y3, y4, y5, y6, y7, y8, y9, rfl, sm, nq, hq, sts, ag, len⟩
    have len : l.length ≤ 64 := Nat.le_trans len (Nat.le_trans (Nat.pow_le_pow_right (by decide) hc) (by decide))
    refine ⟨_, rfl, a, _, rfl, .inr (sm.tup hrs), (ds.length : Int), congrArg (fun z : Nat => [V.int (z : Int)]) (by rw [List.length_map, hlen]), by omega, by omega, ?_⟩
    refine for_range (lo := 0) (n := ds.length) (fun i σ H2 => ∃ (q : Addr) (ts : List Addr) (l : List S2) (y3 y4 y5 y6 y7 y8 y9 : Option V), σ = [some (.ref a), some (.int (c : Int)), some (.ref q), y3, y4, y5, y6, y7, y8, y9] ∧ Same H H2 ∧ H q = none ∧ H2 q = some (.lst (ts.map V.ref)) ∧ StsAt K H2 ts l ∧ AllG n c c i l ∧ l.length ≤ 64 * 3 ^ i)
      ⟨q, ts, l, _, _, _, _, _, _, _, rfl, sm, nq, hq, sts, ag, by omega⟩ ?_ ?_
    · rintro i σ H2 hi ⟨q, ts, l, y3, y4, y5, y6, y7, y8, y9, rfl, sm, nq, hq, sts, ag, len⟩
      have p64 : 3 ^ i ≤ 9 := Nat.le_trans (Nat.pow_le_pow_right (by decide) (show i ≤ 2 by omega)) (by decide)
      refine ⟨z0, fun p5 np5 => ?_⟩
      have s5 := Same.upd (o := .lst []) np5
      have hp5 := upd_same (H := H2) (a := p5) (o := .lst [])
      have hq5 := s5 _ _ hq
      have st5 := sts.same s5
      have sm5 := sm.trans s5
      have n5 := sm.free np5
      generalize upd H2 p5 (.lst []) = H5 at s5 hp5 hq5 st5 sm5
      refine ⟨_, rfl, q, rfl, ⟨_, SqL.of hq5⟩, ?_⟩
      refine for_it (walk_list (K := K) (a := q) (xs := ts.map V.ref)) (fun j σ H6 => ∃ (q' : Addr) (ts' : List Addr) (y3 y5 y6 y7 y9 : Option V), σ = [some (.ref a), some (.int (c : Int)), some (.ref q), y3, some (.ref q'), y5, y6, y7, some (.int (0 + (i : Int))), y9] ∧ Same H5 H6 ∧ H q' = none ∧ H6 q' = some (.lst (ts'.map V.ref)) ∧ StsAt K H6 ts' ((l.take j).flatMap (growB c)))
        ⟨p5, [], _, _, _, _, _, rfl, Same.refl _, n5, hp5, rfl, fun _ _ _ h => by simp at h⟩ (fun j σ H6 _ ⟨_, _, _, _, _, _, _, _, s6, _⟩ => SqL.of (s6 _ _ hq5)) ?_ ?_
      · rintro j x σ H7 H6 hj ⟨q', ts', y3, y5, y6, y7, y9, rfl, s6, nq', hq', sts'⟩ ⟨rfl, ex⟩
        rw [List.getElem?_map] at ex
        obtain ⟨t, ht, rfl⟩ := Option.map_eq_some_iff.mp ex
        obtain ⟨S, hS⟩ : ∃ S, l[j]? = some S := get_of sts.1.symm (get_lt ht)
        obtain ⟨r, b, g1, g2, g3⟩ := id ((st5.same s6).2 j t S ht hS)
        obtain ⟨_, _, gi, _⟩ := (ag.mem S).mp (List.mem_of_getElem? hS)
        have jl := get_lt hS
        have s56 := sm5.trans s6
        refine ⟨t, _, rfl, g1, rfl, _, _, rfl, _, _, rfl, rfl, ?_⟩
        refine ⟨_, rfl, _, rfl, (c : Int), rfl, by omega, by omega, fun pd npd => ?_⟩
        have npd0 := s56.free npd
        have spd := Same.upd (o := .lst []) npd
        refine lc_range (lo := 0) (n := c) (fun k H8 => ∃ us : List Addr, Same H6 H8 ∧ H8 pd = some (.lst (us.map V.ref)) ∧ StsAt K H8 us ((List.range k).map fun x => (S.1, S.2 ++ [x]))) ⟨[], spd, upd_same, rfl, fun _ _ _ h => by simp at h⟩ ?_ ?_
        · rintro k H8 hk ⟨us, s8, hp8, st8⟩
          refine ⟨rfl, lcYes ?_⟩
          refine ⟨_, rfl, _, rfl, _, rfl, by show 1 ≤ sizeLine; decide, fun p9 np9 => ?_⟩
          have s9 := Same.upd (o := .tup [.int (0 + (k : Int))]) np9
          rw [show (0 : Int) + (k : Int) = ((k : Nat) : Int) by omega] at s9 ⊢
          refine catA_of (xs := nv S.2) (ys := nv [k]) (s9.tup (s8.tup g3)) (SqT.of upd_same) (by rw [nv_len, nv_len, gi]; show i + 1 ≤ sizeLine; omega) fun H10 p10 s10 h10 => ?_
          rw [nv_app] at h10
          refine ⟨by show 2 ≤ sizeLine; decide, fun p11 np11 => ?_⟩
          have s11 := Same.upd (o := .tup [.ref r, .ref p10]) np11
          have s811 := (s9.trans s10).trans s11
          have hp11 := s811 _ _ hp8
          refine ⟨us.map V.ref, hp11, by rw [List.length_map, st8.1, List.length_map, List.length_range]; omega, us ++ [p11], (s8.trans s811).at npd, by rw [upd_same, List.map_append]; rfl, ?_⟩
          rw [List.range_succ, List.map_append]
          exact ((st8.same s811).app (X := (S.1, S.2 ++ [k])) ⟨r, p10, SqT.of upd_same, s11.tup (s10.tup (s9.tup (s8.tup g2))), s11.tup h10⟩).put hp11
        · rintro H8 ⟨us, s8, hp8, st8⟩
          have ll : ((l.take j).flatMap (growB c)).length ≤ 1728 := by
            rw [flat_len (m := c) (fun S => by unfold growB; rw [List.length_map, List.length_range]), List.length_take]
            have h1 : min j l.length ≤ 576 := by omega
            exact Nat.le_trans (Nat.mul_le_mul h1 hc) (by decide)
          have ul := st8.1
          rw [List.length_map, List.length_range] at ul
          refine ⟨q', pd, ts'.map V.ref, us.map V.ref, rfl, rfl, s8 _ _ hq', hp8, by rw [List.length_map, List.length_map, sts'.1, ul]; omega, fun p12 np12 => ?_⟩
          have s12 := Same.upd (o := .lst (ts'.map V.ref ++ us.map V.ref)) np12
          have s812 := s8.trans s12
          refine ⟨p12, ts' ++ us, _, _, _, _, _, rfl, s6.trans s812, s56.free (s8.free np12), by rw [upd_same, List.map_append], ?_⟩
          rw [flat_take hS]
          exact (sts'.same s812).join (st8.same s12)
      · rintro σ H6 ⟨q', ts', y3, y5, y6, y7, y9, rfl, s6, nq', hq', sts'⟩
        have et : (l.take (ts.map V.ref).length) = l := by rw [List.length_map, sts.1, List.take_length]
        rw [et] at sts'
        refine ⟨_, rfl, q', ts', _, _, _, _, _, _, _, _, rfl, sm5.trans s6, nq', hq', sts', ag.bar, ?_⟩
        rw [flat_len (m := c) (fun S => by unfold growB; rw [List.length_map, List.length_range]), Nat.pow_succ, ← Nat.mul_assoc]
        exact Nat.mul_le_mul len hc
    · rintro σ H2 ⟨q, ts, l, y3, y4, y5, y6, y7, y8, y9, rfl, sm, nq, hq, sts, ag, len⟩
      refine ⟨_, rfl, qn H2 q ts l sm nq hq sts ag (Nat.le_trans len ?_)⟩
      exact Nat.le_trans (Nat.mul_le_mul_left 64 (Nat.pow_le_pow_right (by decide) (show ds.length ≤ 3 by omega))) (by decide)
end
end K5

namespace K5
open PySem PySem.Spec PyProof.Rows L2
theorem nodup_sub : ∀ (R l : List S2), R.Nodup → (∀ X ∈ R, X ∈ l) → R.length ≤ l.length
  | [], l, _, _ => Nat.zero_le _
  | a :: r, l, nd, h => by
    obtain ⟨n1, n2⟩ := List.nodup_cons.mp nd
    have ha := h a List.mem_cons_self
    have ih := nodup_sub r (l.erase a) n2 fun X hX => by
      have ne : X ≠ a := fun z => n1 (z ▸ hX)
      exact (List.mem_erase_of_ne ne).mpr (h X (List.mem_cons_of_mem _ hX))
    rw [List.length_erase_of_mem ha] at ih
    have := List.length_pos_of_mem ha
    rw [List.length_cons]
    omega
/-- what the search has: doors used, states reached and waiting -/
structure US (K : PySem.W.Frag) (P : Program) (w : World) (H0 H : Hp) (pu pr pw : Addr) (ds : List (Nat × Nat)) (S : S2) (l : List S2) (us : List Nat) (xs : NX) (R W : List S2) (ws : List Addr) : Prop where
  sm : Same H0 H
  u : H pu = some (.lst (nv us))
  r : Rch K P w H pr xs R
  wl : H pw = some (.lst (ws.map V.ref))
  st : StsAt K H ws W
  und : us.Nodup
  uex : ∀ e ∈ us, Ex ds S e ∧ e < ds.length
  rnd : R.Nodup
  rin : ∀ X ∈ R, X ∈ l ∧ ∀ e, Ex ds X e → Ex ds S e
  win : ∀ X ∈ W, X ∈ R
  wle : W.length ≤ R.length
section
variable {K : PySem.W.Frag} {P : Program} {w : World} {H0 H H' : Hp} {pu pr pw : Addr} {ds : List (Nat × Nat)} {S : S2} {l : List S2} {us : List Nat} {xs : NX} {R W : List S2} {ws : List Addr}
theorem US.same (h : US K P w H0 H pu pr pw ds S l us xs R W ws) (s : Same H H') : US K P w H0 H' pu pr pw ds S l us xs R W ws :=
  ⟨h.sm.trans s, s _ _ h.u, h.r.same s, s _ _ h.wl, h.st.same s, h.und, h.uex, h.rnd, h.rin, h.win, h.wle⟩
theorem US.pop {t : Addr} {X : S2} (h : US K P w H0 H pu pr pw ds S l us xs R (W ++ [X]) (ws ++ [t])) (ne : pu ≠ pw) (nw : H0 pw = none) : US K P w H0 (upd H pw (.lst (ws.map V.ref))) pu pr pw ds S l us xs R W ws := by
  have bt : But pw H (upd H pw (.lst (ws.map V.ref))) := But.upd (But.refl _ _) _
  have sl := h.st.1
  rw [List.length_append, List.length_append, List.length_singleton, List.length_singleton] at sl
  refine ⟨h.sm.at nw, bt _ _ ne h.u, h.r.but h.wl bt, upd_same, ⟨by omega, fun i a b e1 e2 => ?_⟩, h.und, h.uex, h.rnd, h.rin, fun Y hY => h.win Y (List.mem_append_left _ hY), by have := h.wle; rw [List.length_append] at this; omega⟩
  exact (h.st.2 i a b (by rw [List.getElem?_append_left (get_lt e1)]; exact e1) (by rw [List.getElem?_append_left (get_lt e2)]; exact e2)).but h.wl bt
theorem US.door (h : US K P w H0 H pu pr pw ds S l us xs R W ws) (ne : pu ≠ pw) (nu : H0 pu = none) {e : Nat} (he : e ∉ us) (ex : Ex ds S e) (lt : e < ds.length) : US K P w H0 (upd H pu (.lst (nv (us ++ [e])))) pu pr pw ds S l (us ++ [e]) xs R W ws := by
  have bt : But pu H (upd H pu (.lst (nv (us ++ [e])))) := But.upd (But.refl _ _) _
  refine ⟨h.sm.at nu, upd_same, h.r.but h.u bt, bt _ _ ne.symm h.wl, h.st.but h.u bt, ?_, fun x hx => ?_, h.rnd, h.rin, h.win, h.wle⟩
  · exact List.nodup_append.mpr ⟨h.und, by simp, fun a ha b hb z => he (by rw [List.mem_singleton] at hb; rw [← hb, ← z]; exact ha)⟩
  · rcases List.mem_append.mp hx with hx | hx
    · exact h.uex x hx
    · rw [List.mem_singleton.mp hx]
      exact ⟨ex, lt⟩
theorem US.reach (h : US K P w H0 H pu pr pw ds S l us xs R W ws) (ne : pu ≠ pw) (nr : H0 pr = none) (nw : H0 pw = none) {t : Addr} {X : S2} {z : Value} (ht : StateAt K H t X) (hx : X ∉ R) (hl : X ∈ l) (ex : ∀ e, Ex ds X e → Ex ds S e) :
    US K P w H0 (upd (upd H pr (nD P w pr (storedH xs (kS X) t z))) pw (.lst (ws.map V.ref ++ [.ref t]))) pu pr pw ds S l us (storedH xs (kS X) t z) (R ++ [X]) (W ++ [X]) (ws ++ [t]) := by
  have nru : pu ≠ pr := ne_of h.u h.r.at_ (by intro q; cases q)
  have nrw : pw ≠ pr := ne_of h.wl h.r.at_ (by intro q; cases q)
  have bt : But pr H (upd H pr (nD P w pr (storedH xs (kS X) t z))) := But.upd (But.refl _ _) _
  have r1 := h.r.put (u := z) ht
  have w1 := bt _ _ nrw h.wl
  have u1 := bt _ _ nru h.u
  have st1 : StsAt K (upd H pr (nD P w pr (storedH xs (kS X) t z))) ws W := ⟨h.st.1, fun i a b e1 e2 => (h.st.2 i a b e1 e2).butD h.r.at_ bt⟩
  have ht1 := ht.butD h.r.at_ bt
  have sm1 := h.sm.at (o := nD P w pr (storedH xs (kS X) t z)) nr
  generalize upd H pr (nD P w pr (storedH xs (kS X) t z)) = H1 at r1 w1 u1 st1 ht1 sm1
  have bt2 : But pw H1 (upd H1 pw (.lst (ws.map V.ref ++ [.ref t]))) := But.upd (But.refl _ _) _
  refine ⟨sm1.at nw, bt2 _ _ ne u1, r1.but w1 bt2, by rw [upd_same, List.map_append]; rfl, (st1.but w1 bt2).app (ht1.but w1 bt2), h.und, h.uex, ?_, fun Y hY => ?_, fun Y hY => ?_, by rw [List.length_append, List.length_append]; exact Nat.add_le_add_right h.wle _⟩
  · exact List.nodup_append.mpr ⟨h.rnd, by simp, fun a ha b hb zz => hx (by rw [List.mem_singleton] at hb; rw [← hb, ← zz]; exact ha)⟩
  · rcases List.mem_append.mp hY with hY | hY
    · exact h.rin Y hY
    · rw [List.mem_singleton.mp hY]
      exact ⟨hl, ex⟩
  · rcases List.mem_append.mp hY with hY | hY
    · exact List.mem_append_left _ (h.win Y hY)
    · exact List.mem_append_right _ hY
end
/-- what stands in the rows: the states from which a move leads there, and its door -/
structure Rows2 (ds : List (Nat × Nat)) (l : List S2) (f : S2 → List (S2 × Nat)) : Prop where
  mem : ∀ T X e, (X, e) ∈ f T ↔ X ∈ l ∧ ∃ m, QOk ds X m ∧ stepS X m = T ∧ m.2.2.2 = e
  nd : ∀ T, ((f T).map Prod.fst).Nodup
def spUsed (K : PySem.W.Frag) (P : Program) (w : World) : Sp := fun vs H Q _ => ∃ (d t : Addr) (xs : NX) (f : S2 → List (S2 × Nat)) (ds : List (Nat × Nat)) (l : List S2) (S : S2), vs = [.ref d, .ref t] ∧ Bef K P w H d xs f ∧ StateAt K H t S ∧ Rows2 ds l f ∧ S ∈ l ∧ (∀ X ∈ l, X.2.length = ds.length) ∧ l.length ≤ 1728 ∧ ds.length ≤ 3 ∧
  ∀ (H' : Hp) (q : Addr) (us : List Nat), Same H H' → H q = none → H' q = some (.lst (nv us)) → (∀ e ∈ us, Ex ds S e) → us.length ≤ 3 → Q (.ref q) H'
section
variable {P : Program} {w : World} {K : PySem.W.Frag}
      {mg : Str → Option Value} {base : Heap}
theorem dp_addrs {H : Hp} {p : Addr} {ws : List Addr} {W : List S2} (h : H p = some (.lst (ws.map V.ref))) (st : StsAt K H ws W) : Dp K H (.ref p) (.list (W.map dS)) := .lst (SqL.of h) (dp_sts ws W st)
theorem dSs_nil (W : List S2) : PyData.eqv (.list (W.map dS)) (.list []) = decide (W = []) := by
  cases W with
  | nil => decide +kernel
  | cons a r =>
    rw [decide_eq_false (by simp)]
    simp only [List.map_cons, PyData.eqv, PyData.eqvAll]
theorem part2 {H0 H8 : Hp} {d t pu pr pw sy : Addr} {ds : List (Nat × Nat)} {S Y : S2} {l : List S2} {us : List Nat} {xs' : NX} {R' W' : List S2} {ws' : List Addr} {dd : Nat} {D : Ends} (nr : H0 pr = none) (nw : H0 pw = none) (ne : pu ≠ pw)
    (U : US K P w H0 H8 pu pr pw ds S l us xs' R' W' ws') (st : StateAt K H8 sy Y) (hY : Y ∈ l) (ek : ∀ e, Ex ds Y e → Ex ds S e) (hl : l.length ≤ 1728)
    (q : ∀ (xs2 : NX) (R2 W2 : List S2) (ws2 : List Addr) (H' : Hp), 2 * (l.length - R2.length) + W2.length ≤ 2 * (l.length - R'.length) + W'.length → US K P w H0 H' pu pr pw ds S l us xs2 R2 W2 ws2 → D.nx [some (.ref d), some (.ref t), some (.ref pu), some (.ref pr), some (.ref pw), some (.ref sy), some (.int (dd : Int))] H') :
    tIfS (tB (tNNotIn K P w (tVar 5) (tVar 3))) (tSeq (sNPut K P w (tVar 3) (tVar 5) (tC (.bl true))) (tDrop (tBM K "list" rAppend (tVar 4) (tCons (tVar 5) tNil)))) tNext D [some (.ref d), some (.ref t), some (.ref pu), some (.ref pr), some (.ref pw), some (.ref sy), some (.int (dd : Int))] H8 := by
  have sz := small3k (n := 2000) (by decide)
  have lR := nodup_sub R' l U.rnd fun X hX => (U.rin X hX).1
  have xl := U.r.len
  refine ⟨_, rfl, _, rfl, pr, sy, xs', dS Y, rfl, rfl, U.r.at_, dp_S st, keyable_S Y, kdepth_S Y, U.r.ks.dp, _, rfl, _, rfl, ?_⟩
  have ei := U.r.is Y
  rw [show kS Y = kOf (dS Y) from rfl] at ei
  rw [ei]
  by_cases c : Y ∈ R'
  · rw [decide_eq_true c]
    exact iteF (q xs' R' W' ws' H8 (Nat.le_refl _) U)
  · rw [decide_eq_false c]
    have lR2 : R'.length + 1 ≤ l.length := by
      have := nodup_sub (R' ++ [Y]) l (List.nodup_append.mpr ⟨U.rnd, by simp, fun a ha b hb z => c (by rw [List.mem_singleton] at hb; rw [← hb, ← z]; exact ha)⟩) fun X hX => by
        rcases List.mem_append.mp hX with hX | hX
        · exact (U.rin X hX).1
        · rw [List.mem_singleton.mp hX]
          exact hY
      rwa [List.length_append, List.length_singleton] at this
    refine iteT ⟨_, rfl, _, rfl, pr, sy, xs', dS Y, rfl, rfl, U.r.at_, dp_S st, keyable_S Y, kdepth_S Y, U.r.ks.dp, by omega, fun z _ => ?_⟩
    have U' := U.reach ne nr nw (z := z) st c hY ek
    have wl : (upd H8 pr (nD P w pr (storedH xs' (kS Y) sy z))) pw = some (.lst (ws'.map V.ref)) := by
      rw [upd_ne (ne_of U.wl U.r.at_ (by intro q; cases q))]
      exact U.wl
    have wsl := U.st.1
    have Wl := U.wle
    refine ⟨_, rfl, .inl ⟨rfl, _, SqL.of wl⟩, _, rfl, pw, _, _, rfl, rfl, wl, by rw [List.length_map]; omega, ?_⟩
    refine q _ _ _ _ _ ?_ U'
    rw [List.length_append, List.length_append]
    simp only [List.length_singleton]
    omega
theorem ok_l_used_doors (T : Bl mg) (D : Def K mg "_law_used_doors" s_l_used_doors) : Cal P w K mg base "_law_used_doors" ["_law_before", "_law_target"] 1 (spUsed K P w) := by
  refine D.ok sc_l_used_doors (fun _ _ _ _ _ _ us hl => match us, hl with | [_, _], _ => rfl) (fun vs H Q E h => ?_) (fun f0 cdv A outer s0 H vs Q E hr h => ?_)
  · obtain ⟨d, t, xs, f, ds, l, S, rfl, _⟩ := h
    rfl
  obtain ⟨d, t, xs, f, ds, l, S, rfl, bef, st, ro, hS, hdl, hl, hd3, qn⟩ := h
  refine ⟨_, (pss_cons (ps_set (i := 2) sc_l_used_doors.nd rfl (.inl rfl) (pe_lst pa_nil))
    (pss_cons (ps_set (i := 3) sc_l_used_doors.nd rfl (.inl rfl) (ne_n1 P w rfl rfl (hu64 hr) (pv 1) pe_bl))
    (pss_cons (ps_set (i := 4) sc_l_used_doors.nd rfl (.inl rfl) (pe_lst (pa_cons (pv 1) pa_nil)))
    (pss_cons (ps_while PassesOwn.never (pt_cmpR (op_neD hr.units) (pv 4) (pe_lst pa_nil) (nomark _)) (pss_one (ps_for PassesOwn.never rfl (pi_list (ne_get2 P w rfl rfl (hu64 hr) (pv 0) (pe_bm0 PySem.F.plainAttrs_list PySem.F.slot_list_pop PySem.F.type_list_pop mt_pop (pv 4)) (pe_lst pa_nil) ⟨rfl, rfl, rfl, rfl⟩)) (pg_tup (n := 2) rfl (pgs_cons (pg_name (i := 5) sc_l_used_doors.nd rfl (.inl rfl)) (pgs_cons (pg_name (i := 6) sc_l_used_doors.nd rfl (.inl rfl)) pgs_nil)))
    (pss_cons (ps_if (pt_cmpR op_notIn_seq (pv 6) (pv 2) (by rfl)) (pss_one (ps_expr (pe_bm PySem.F.plainAttrs_list PySem.F.slot_list_append PySem.F.type_list_append mt_append (pv 2) (pa_cons (pv 6) pa_nil)))) pss_nil)
    (pss_one (ps_if (pt_cmp (ne_notin P w rfl rfl (hu64 hr) (pv 5) (pv 3))) (pss_cons (ne_put P w rfl rfl (hu64 hr) (pv 3) (pv 5) pe_bl rfl)
    (pss_one (ps_expr (pe_bm PySem.F.plainAttrs_list PySem.F.slot_list_append PySem.F.type_list_append mt_append (pv 4) (pa_cons (pv 5) pa_nil))))) pss_nil))))))
    (pss_one (ps_ret (pe_callB cr_sorted (by rfl) T.sorted (by decide +kernel) (pa_cons (pv 2) pa_nil)))))))), ?_⟩
  have z0 : 0 ≤ sizeLine := Nat.zero_le _
  have sz := small3k (n := 2000) (by decide)
  refine ⟨z0, fun pu npu => ?_⟩
  have s1 := Same.upd (o := .lst []) npu
  refine fun pr npr => ⟨_, rfl, ?_⟩
  have s2 := Same.upd (o := nD P w pr []) npr
  have hu2 := s2 _ _ (upd_same (H := H) (a := pu) (o := .lst []))
  have nr := s1.free npr
  have s12 := s1.trans s2
  have r0 : Rch K P w (upd (upd H pu (.lst [])) pr (nD P w pr [])) pr [] [] := ⟨upd_same, (fun _ h => nomatch h), fun T => rfl, Nat.le_refl _⟩
  generalize upd (upd H pu (.lst [])) pr (nD P w pr []) = H2 at s2 hu2 s12 r0
  refine ⟨t, dS S, rfl, r0.at_, dp_S (st.same s12), keyable_S S, kdepth_S S, fun zz _ => ?_⟩
  have r1 := r0.put (u := zz) (st.same s12)
  have s3 : Same H (upd H2 pr (nD P w pr (storedH [] (kS S) t zz))) := s12.at nr
  have hu3 : (upd H2 pr (nD P w pr (storedH [] (kS S) t zz))) pu = some (.lst []) := by
    rw [upd_ne (ne_of hu2 r0.at_ (by intro q; cases q))]
    exact hu2
  change tSeq _ _ _ _ (upd H2 pr (nD P w pr (storedH [] (kS S) t zz)))
  generalize upd H2 pr (nD P w pr (storedH [] (kS S) t zz)) = H3 at r1 s3 hu3
  refine ⟨_, rfl, by show 1 ≤ sizeLine; decide, fun pw npw => ?_⟩
  have s4 := Same.upd (o := .lst [.ref t]) npw
  have ne : pu ≠ pw := ne_of_none hu3 npw
  have nw := s3.free npw
  have U0 : US K P w H (upd H3 pw (.lst [.ref t])) pu pr pw ds S l [] (storedH [] (kS S) t zz) [S] [S] [t] := ⟨s3.trans s4, s4 _ _ hu3, r1.same s4, upd_same, ⟨rfl, fun i a X h1 h2 => by
    match i with
    | 0 =>
      cases h1
      cases h2
      exact st.same (s3.trans s4)
    | i + 1 => simp at h1⟩, by simp, (fun _ h => nomatch h), by simp, (fun X hX => by rw [List.mem_singleton.mp hX]; exact ⟨hS, fun _ h => h⟩), (fun X hX => hX), Nat.le_refl _⟩
  generalize upd H3 pw (.lst [.ref t]) = H4 at U0
  refine ⟨fun m σ H5 => ∃ us xs' R W ws y5 y6, m = 2 * (l.length - R.length) + W.length ∧ σ = [some (.ref d), some (.ref t), some (.ref pu), some (.ref pr), some (.ref pw), y5, y6] ∧ US K P w H H5 pu pr pw ds S l us xs' R W ws,
    ⟨_, [], _, [S], [S], [t], _, _, rfl, rfl, U0⟩, fun m σ H5 hW => ?_⟩
  obtain ⟨us, xs', R, W, ws, y5, y6, rfl, rfl, U⟩ := hW
  refine ⟨_, rfl, z0, fun pe npe => ?_⟩
  have sE := Same.upd (o := .lst []) npe
  have U := U.same sE
  refine ⟨.list (W.map dS), .list [], dp_addrs U.wl U.st, .lst (SqL.of upd_same) .nil, dSs_shaped W, dSs_shaped [], _, rfl, ?_⟩
  rw [dSs_nil]
  generalize upd H5 pe (.lst []) = H5 at U
  rcases snoc_nil W with rfl | ⟨Wr, X, rfl⟩
  · rw [decide_eq_true rfl]
    refine iteF ⟨_, rfl, pu, (us.map fun x : Nat => (x : Int)), rfl, by rw [← nv_int]; exact SqL.of U.u, ?_, fun ns' p pm _ np => ?_⟩
    · have := nodup_le ds.length us U.und fun e he => (U.uex e he).2
      rw [List.length_map]
      omega
    · obtain ⟨us', rfl, pu'⟩ := perm_of_map _ _ _ pm
      refine qn _ p us' (U.sm.trans (Same.upd np)) (U.sm.free np) (by rw [upd_same, ← nv_int]) (fun e he => (U.uex e (pu'.mem_iff.mp he)).1) ?_
      have := nodup_le ds.length us U.und fun e he => (U.uex e he).2
      rw [pu'.length_eq]
      omega
  · rw [decide_eq_false (by simp)]
    obtain ⟨wr, tx, rfl⟩ : ∃ wr tx, ws = wr ++ [tx] := by
      rcases snoc_nil ws with z | ⟨x, y, z⟩
      · have := U.st.1
        rw [z] at this
        simp at this
      · exact ⟨x, y, z⟩
    have lR := nodup_sub R l U.rnd fun X hX => (U.rin X hX).1
    refine iteT ⟨fun σ' H' => ∃ us' xs' R' W' ws' y5 y6, 2 * (l.length - R'.length) + W'.length < 2 * (l.length - R.length) + (Wr ++ [X]).length ∧ σ' = [some (.ref d), some (.ref t), some (.ref pu), some (.ref pr), some (.ref pw), y5, y6] ∧ US K P w H H' pu pr pw ds S l us' xs' R' W' ws',
      fun σ' H' ⟨us', xs2, R', W', ws', y5, y6, h1, h2⟩ => ⟨_, h1, us', xs2, R', W', ws', y5, y6, rfl, h2⟩, ?_⟩
    have hX := U.win X (List.mem_append_right _ List.mem_cons_self)
    obtain ⟨hXl, hXe⟩ := U.rin X hX
    have stX : StateAt K H5 tx X := U.st.2 wr.length tx X (by simp) (by
      have := U.st.1
      rw [List.length_append, List.length_append, List.length_singleton, List.length_singleton] at this
      rw [show wr.length = Wr.length by omega]
      simp)
    have bef5 := bef.same U.sm
    have hlast : ((wr ++ [tx]).map V.ref)[((wr ++ [tx]).map V.ref).length - 1]? = some (.ref tx) := by
      rw [List.map_append, List.length_append]
      simp
    refine ⟨_, rfl, d, xs, rfl, bef5.at_, bef5.ks.dp, ?_⟩
    refine ⟨_, rfl, .inl ⟨rfl, _, SqL.of U.wl⟩, pw, _, _, rfl, rfl, U.wl, hlast, ?_⟩
    rw [List.map_append, List.map_singleton, List.dropLast_concat]
    have U1 := U.pop ne nw
    have bw : But pw H5 (upd H5 pw (.lst (wr.map V.ref))) := But.upd (But.refl _ _) _
    have stX1 := stX.but U.wl bw
    generalize upd H5 pw (.lst (wr.map V.ref)) = H6 at U1 bw stX1
    refine ⟨z0, fun pn npn => ?_⟩
    have sN := Same.upd (o := .lst []) npn
    have U2 := U1.same sN
    have stX2 := stX1.same sN
    have hpn := upd_same (H := H6) (a := pn) (o := .lst [])
    generalize upd H6 pn (.lst []) = H7 at sN U2 stX2 hpn
    have bef7 := bef.same U2.sm
    have Nn : 2 * (l.length - R.length) + Wr.length < 2 * (l.length - R.length) + (Wr ++ [X]).length := by rw [List.length_append, List.length_singleton]; omega
    refine ⟨tx, xs, dS X, rfl, bef7.at_, dp_S stX2, keyable_S X, kdepth_S X, bef7.ks.dp, fun c => ?_, fun u c => ?_⟩
    · refine ⟨pn, rfl, ⟨_, SqL.of hpn⟩, ?_⟩
      refine for_it (walk_list (K := K) (a := pn) (xs := [])) (fun j σ H8 => ∃ y5 y6, σ = [some (.ref d), some (.ref t), some (.ref pu), some (.ref pr), some (.ref pw), y5, y6] ∧ H8 = H7) ⟨_, _, rfl, rfl⟩ (fun j σ H8 _ ⟨_, _, _, e⟩ => by rw [e]; exact SqL.of hpn) (fun j x σ H8 H9 hj _ _ => by simp at hj) ?_
      rintro σ H8 ⟨y5, y6, rfl, rfl⟩
      exact ⟨us, xs', R, Wr, wr, _, _, Nn, rfl, U2⟩
    · have nf : f X ≠ [] := fun z => by
        have := bef7.no X z
        rw [show kS X = kOf (dS X) from rfl] at this
        rw [c] at this
        cases this
      obtain ⟨qx, es, a1, a2, a3⟩ := bef.yes X nf
      rw [show kS X = kOf (dS X) from rfl, c] at a1
      cases a1
      refine ⟨.ref qx, rfl, qx, rfl, ⟨_, SqL.of (U2.sm _ _ a2)⟩, ?_⟩
      refine for_it (walk_list (K := K) (a := qx) (xs := es.map V.ref)) (fun j σ H8 => ∃ us xs' R' W' ws' y5 y6, 2 * (l.length - R'.length) + W'.length < 2 * (l.length - R.length) + (Wr ++ [X]).length ∧ σ = [some (.ref d), some (.ref t), some (.ref pu), some (.ref pr), some (.ref pw), y5, y6] ∧ US K P w H H8 pu pr pw ds S l us xs' R' W' ws')
        ⟨us, xs', R, Wr, wr, _, _, Nn, rfl, U2⟩ (fun j σ H8 _ ⟨_, _, _, _, _, _, _, _, _, U⟩ => SqL.of (U.sm _ _ a2)) ?_ (fun σ H8 h => h)
      rintro j x σ H9 H8 hj ⟨us, xs', R', W', ws', y5, y6, hm, rfl, U⟩ ⟨rfl, ex⟩
      rw [List.getElem?_map] at ex
      obtain ⟨te, hte, rfl⟩ := Option.map_eq_some_iff.mp ex
      obtain ⟨e, he⟩ : ∃ e, (f X)[j]? = some e := get_of a3.1.symm (get_lt hte)
      obtain ⟨Y, dd⟩ := e
      obtain ⟨sy, b1, b2⟩ := a3.2 j te (Y, dd) hte he
      obtain ⟨hYl, m, qk, em, ed⟩ := (ro.mem X Y dd).mp (List.mem_of_getElem? he)
      have lt2 : m.2.2.2 < Y.2.length := by rw [hdl Y hYl]; exact joins_lt qk.2.1
      have eused : Ex ds S dd := hXe dd (by rw [← em, ← ed]; exact Ex.used qk lt2)
      have ekept : ∀ e, Ex ds Y e → Ex ds S e := fun e h => hXe e (by rw [← em]; exact Ex.kept qk lt2 h)
      have dlt : dd < ds.length := by rw [← ed]; exact joins_lt qk.2.1
      refine ⟨te, _, rfl, SqT.of (U.sm _ _ b1), rfl, _, _, rfl, _, _, rfl, rfl, ?_⟩
      refine ⟨_, rfl, _, rfl, pu, nv us, rfl, .inl (SqL.of U.u), rfl, flat_nv _, _, rfl, ?_⟩
      rw [inV_nv]
      by_cases cd : dd ∈ us
      · rw [decide_eq_true cd]
        exact iteF (part2 nr nw ne U (b2.same U.sm) hYl ekept hl fun xs' R' W' ws' H' hm' U' => ⟨_, _, _, _, _, _, _, by omega, rfl, U'⟩)
      · rw [decide_eq_false cd]
        have U' := U.door ne npu cd eused dlt
        have ul := nodup_le ds.length us U.und fun e he => (U.uex e he).2
        have bu : But pu H8 (upd H8 pu (.lst (nv (us ++ [dd])))) := But.upd (But.refl _ _) _
        refine iteT ⟨_, rfl, .inl ⟨rfl, _, SqL.of U.u⟩, _, rfl, pu, _, _, rfl, rfl, U.u, by rw [nv_len]; omega, ?_⟩
        rw [← nv_snoc]
        exact part2 nr nw ne U' ((b2.same U.sm).but U.u bu) hYl ekept hl fun xs' R' W' ws' H' hm' U' => ⟨_, _, _, _, _, _, _, by omega, rfl, U'⟩
end
end K5

namespace K5
open PySem PySem.Spec PyProof.Rows L2 PySem.W
theorem Mk.mem {n : Nat} {ds : List (Nat × Nat)} {S : S2} {M J : List Nat} (T : Tree n ds) (h : Mk n ds S M J) {d x y : Nat} (j : Joins ds d x y) : M.getD x 0 = M.getD y 0 ↔ d ∈ J := by
  refine ⟨fun e => ?_, fun e => h.eq d x y e j⟩
  obtain ⟨lx, ly, _, _⟩ := j.lt T
  obtain ⟨u, w, hu⟩ := (h.iff lx ly).mp e
  obtain ⟨side, s1, s2⟩ := T.side
  exact hu d (Classical.byContradiction fun z => side_join s1 j (side_walk s2 w z))
theorem exd_mem {n : Nat} {ds : List (Nat × Nat)} {S : S2} {M J : List Nat} (T : Tree n ds) (mk : Mk n ds S M J) (d : Nat) : d ∈ exd M ds ↔ d ∈ J := by
  unfold exd
  rw [List.mem_filter, List.mem_range, decide_eq_true_eq]
  constructor
  · rintro ⟨h1, h2⟩
    obtain ⟨e, he⟩ : ∃ e, ds[d]? = some e := get_of rfl h1
    have eg : ds.getD d (0, 0) = e := by rw [List.getD_eq_getElem?_getD, he]; rfl
    rw [eg] at h2
    exact (mk.mem T (.inl he)).mp h2
  · intro hd
    have h1 := mk.lt d hd
    obtain ⟨e, he⟩ : ∃ e, ds[d]? = some e := get_of rfl h1
    have eg : ds.getD d (0, 0) = e := by rw [List.getD_eq_getElem?_getD, he]; rfl
    rw [eg]
    exact ⟨h1, mk.eq d _ _ hd (.inl he)⟩
theorem exd_len {n : Nat} {ds : List (Nat × Nat)} {S : S2} {M J : List Nat} (T : Tree n ds) (mk : Mk n ds S M J) : (exd M ds).length = J.length := by
  have nd : (exd M ds).Nodup := List.nodup_range.filter _
  exact ((List.perm_ext_iff_of_nodup nd mk.nd).mpr fun d => exd_mem T mk d).length_eq
theorem mem_exd {n : Nat} {ds : List (Nat × Nat)} {S : S2} {M J : List Nat} (T : Tree n ds) (mk : Mk n ds S M J) (cl : ∀ d, d < ds.length → Closed ds S M d) {d : Nat} (hd : d < ds.length) (h : Ex ds S d) : d ∈ exd M ds := by
  obtain ⟨e, he⟩ : ∃ e, ds[d]? = some e := get_of rfl hd
  exact (exd_mem T mk d).mpr ((mk.mem T (.inl he)).mp (mk.done T cl d h _ _ (.inl he)))
theorem qok_can {n : Nat} {ds : List (Nat × Nat)} {X : S2} {m : Q4} (T : Tree n ds) (o : QOk ds X m) : Can ds X (tri m) ∧ nxt ds X (tri m) = stepS X m := by
  obtain ⟨o1, o2, o3⟩ := o
  refine ⟨⟨get_lt o1, o1, m.2.2.2, o2, o3⟩, ?_⟩
  show (X.1.set m.1 m.2.2.1, X.2.set (dix ds m.2.1 m.2.2.1) m.1) = _
  rw [dix_is T o2]
  rfl
theorem can_qok {n : Nat} {ds : List (Nat × Nat)} {X : S2} {m : Mv} (T : Tree n ds) (c : Can ds X m) : ∃ d, QOk ds X (m.1, m.2.1, m.2.2, d) ∧ stepS X (m.1, m.2.1, m.2.2, d) = nxt ds X m := by
  obtain ⟨h1, h2, d, j, h3⟩ := c
  refine ⟨d, ⟨h2, j, h3⟩, ?_⟩
  show _ = (X.1.set m.1 m.2.2, X.2.set (dix ds m.2.1 m.2.2) m.1)
  rw [dix_is T j]
  rfl
theorem gs_ok {n : Nat} {ds : List (Nat × Nat)} {c : Nat} {S : S2} (h : Gs n c c ds.length S) (h1 : 1 ≤ c) (h3 : c ≤ 3) : StOk n ds S := by
  obtain ⟨a, b, d, e⟩ := h
  exact ⟨by omega, by omega, b, d, by rw [a]; exact e⟩
theorem gs_of {n : Nat} {ds : List (Nat × Nat)} {S : S2} (h : StOk n ds S) : Gs n S.1.length S.1.length ds.length S := ⟨rfl, h.rooms, h.doors, h.bars⟩
theorem nodup_prevs {n : Nat} {ds : List (Nat × Nat)} {S : S2} (T : Tree n ds) (ok : StOk n ds S) : (prevs ds S).Nodup := by
  unfold prevs
  show List.Pairwise (· ≠ ·) _
  rw [List.pairwise_flatMap]
  refine ⟨fun x hx => ?_, ?_⟩
  · obtain ⟨a1, a2, a3, a4⟩ := srtd_lt ok hx
    have hd : x.2.1 < S.2.length := by rw [ok.doors]; exact a2
    unfold befs
    rw [List.pairwise_map]
    refine (List.nodup_range.filter _).imp fun {u v} ne z => ne ?_
    have e := (Prod.mk.inj z).2
    have h1 : (S.2.set x.2.1 u)[x.2.1]? = some u := List.getElem?_set_self hd
    rw [e, List.getElem?_set_self hd] at h1
    exact (Option.some.inj h1).symm
  · refine List.Pairwise.imp_of_mem (fun {x y} hx hy ne => ?_) (nodup_srtd ds S)
    intro A hA B hB z
    unfold befs at hA hB
    obtain ⟨b, _, rfl⟩ := List.mem_map.mp hA
    obtain ⟨b', _, rfl⟩ := List.mem_map.mp hB
    exact ne (lms_rooms T ok (srtd_lt ok hx).2.2.2 (srtd_lt ok hy).2.2.2 (Prod.mk.inj z).1)
theorem mem_prevs {n : Nat} {ds : List (Nat × Nat)} {S X : S2} (T : Tree n ds) (ok : StOk n ds S) : X ∈ prevs ds S ↔ (StOk n ds X ∧ X.1.length = S.1.length) ∧ ∃ m, QOk ds X m ∧ stepS X m = S := by
  constructor
  · intro h
    obtain ⟨i, hi⟩ := List.mem_iff_getElem?.mp h
    obtain ⟨a, b, ⟨m, c, e⟩, _⟩ := prev_facts T ok hi
    obtain ⟨d, q, e2⟩ := can_qok T c
    exact ⟨⟨a, b⟩, _, q, e2.trans e⟩
  · rintro ⟨⟨a, b⟩, m, q, e⟩
    obtain ⟨c, e2⟩ := qok_can T q
    obtain ⟨x, hx, bf⟩ := bfr_step T a c
    rw [e2, e] at hx bf
    exact bfr_mem ok a b hx bf
theorem rows_perm {n : Nat} {ds : List (Nat × Nat)} {l : List S2} {f : S2 → List (S2 × Nat)} {S : S2} (T : Tree n ds) (ok : StOk n ds S) (ag : AllG n S.1.length S.1.length ds.length l) (ro : Rows2 ds l f) (h3 : S.1.length ≤ 3) : ((f S).map Prod.fst).Perm (prevs ds S) := by
  refine (List.perm_ext_iff_of_nodup (ro.nd S) (nodup_prevs T ok)).mpr fun X => ?_
  rw [mem_prevs T ok]
  constructor
  · intro h
    obtain ⟨⟨Y, e⟩, hY, rfl⟩ := List.mem_map.mp h
    obtain ⟨hl, m, q, e2, _⟩ := (ro.mem S Y e).mp hY
    have g := (ag.mem Y).mp hl
    exact ⟨⟨gs_ok g ok.one h3, g.1⟩, m, q, e2⟩
  · rintro ⟨⟨a, b⟩, m, q, e⟩
    have g := gs_of a
    rw [b] at g
    exact List.mem_map.mpr ⟨(X, m.2.2.2), (ro.mem S X _).mpr ⟨(ag.mem X).mpr g, m, q, e, rfl⟩, rfl⟩
theorem get_bef {K : PySem.W.Frag} {P : Program} {w : World} {σ : L2.St} {H : Hp} {Q : VK} {i j : Nat} {d t : Addr} {xs : NX} {f : S2 → List (S2 × Nat)} {S : S2} (hi : σ[i]? = some (some (.ref d))) (hj : σ[j]? = some (some (.ref t))) (bef : Bef K P w H d xs f) (st : StateAt K H t S)
    (q : ∀ (H' : Hp) (qx : Addr) (es : List Addr), Same H H' → H' qx = some (.lst (es.map V.ref)) → EdL K H' es (f S) → Q (.ref qx) H') : tNGet2 K P w (tVar i) (tVar j) (tLst tNil) σ H Q := by
  refine ⟨_, hi, d, xs, rfl, bef.at_, bef.ks.dp, _, hj, Nat.zero_le _, fun pn npn => ?_⟩
  have sN := Same.upd (o := .lst []) npn
  have hpn := upd_same (H := H) (a := pn) (o := .lst [])
  have b2 := bef.same sN
  refine ⟨t, xs, dS S, rfl, b2.at_, dp_S (st.same sN), keyable_S S, kdepth_S S, b2.ks.dp, fun c => ?_, fun u c => ?_⟩
  · refine q _ pn [] sN hpn ?_
    have e : f S = [] := Classical.byContradiction fun z => by
      obtain ⟨qx, es, a1, _⟩ := bef.yes S z
      rw [show kS S = kOf (dS S) from rfl, c] at a1
      cases a1
    rw [e]
    exact ⟨rfl, fun _ _ _ h => by simp at h⟩
  · have nf : f S ≠ [] := fun z => by
      have := bef.no S z
      rw [show kS S = kOf (dS S) from rfl, c] at this
      cases this
    obtain ⟨qx, es, a1, a2, a3⟩ := b2.yes S nf
    rw [show kS S = kOf (dS S) from rfl, c] at a1
    cases a1
    exact ⟨.ref qx, rfl, q _ qx es sN a2 a3⟩
def spHoldN (K : PySem.W.Frag) (P : Program) (w : World) : Sp := fun vs H Q _ => ∃ (a d t : Addr) (xs : NX) (f : S2 → List (S2 × Nat)) (ds : List (Nat × Nat)) (n : Nat) (l : List S2) (S : S2), vs = [.ref a, .ref d, .ref t] ∧ HouseAt K H a ds ∧ Tree n ds ∧ n ≤ 4 ∧ Bef K P w H d xs f ∧ StateAt K H t S ∧ StOk n ds S ∧ S.1.length ≤ 3 ∧
  Rows2 ds l f ∧ AllG n S.1.length S.1.length ds.length l ∧ l.length ≤ 1728 ∧ ∀ H', Same H H' → Q (.bl true) H'
section
variable {P : Program} {w : World} {K : PySem.W.Frag}
      {mg : Str → Option Value} {base : Heap}
theorem ok_l_holds (T : Bl mg) (D : Def K mg "_law_holds" s_l_holds) (C_count_previous : Cal P w K mg base "count_previous" ["house", "state"] 8 (spCount K)) (C_previous_at : Cal P w K mg base "previous_at" ["house", "state", "index"] 9 (spPrevAt K))
    (C_explained_doors : Cal P w K mg base "explained_doors" ["house", "state"] 8 (spExplained K)) (C_l_used_doors : Cal P w K mg base "_law_used_doors" ["_law_before", "_law_target"] 1 (spUsed K P w)) (C_groups : Cal P w K mg base "groups" ["house", "state"] 8 (spGroups K)) :
    Cal P w K mg base "_law_holds" ["_law_layout", "_law_before", "_law_target"] 10 (spHoldN K P w) := by
  refine D.ok sc_l_holds (fun _ _ _ _ _ _ us hl => match us, hl with | [_, _, _], _ => rfl) (fun vs H Q E h => ?_) (fun f0 cdv A outer s0 H vs Q E hr h => ?_)
  · obtain ⟨a, d, t, xs, f, ds, n, l, S, rfl, _⟩ := h
    rfl
  obtain ⟨a, d, t, xs, f, ds, n, l, S, rfl, hH, tree, hn, bef, st, ok, h3, ro, ag, hl, qn⟩ := h
  obtain ⟨rs, hrs, hlen, hds⟩ := id hH
  obtain ⟨r, b, g1, g2, g3⟩ := id st
  have hdn := tree.len
  have one := ok.one
  have pm := rows_perm tree ok ag ro h3
  have pcl := prevs_len ok
  have hSl : S ∈ l := (ag.mem S).mpr (gs_of ok)
  have psl : (prevs ds S).length ≤ 9 := by
    rw [pcl]
    have h1 := srtd_len ds S
    exact Nat.le_trans (Nat.mul_le_mul (show (srtd ds S).length ≤ 3 by omega) (show S.1.length - 1 ≤ 3 by omega)) (by decide)
  have sz := small3k (n := 2000) (by decide)
  obtain ⟨f_count_previous, fd_count_previous, g_count_previous, k_count_previous, b_count_previous, G_count_previous⟩ := C_count_previous
  obtain ⟨f_previous_at, fd_previous_at, g_previous_at, k_previous_at, b_previous_at, G_previous_at⟩ := C_previous_at
  obtain ⟨f_explained_doors, fd_explained_doors, g_explained_doors, k_explained_doors, b_explained_doors, G_explained_doors⟩ := C_explained_doors
  obtain ⟨f_l_used_doors, fd_l_used_doors, g_l_used_doors, k_l_used_doors, b_l_used_doors, G_l_used_doors⟩ := C_l_used_doors
  obtain ⟨f_groups, fd_groups, g_groups, k_groups, b_groups, G_groups⟩ := C_groups
  refine ⟨_, (pss_cons (ps_set (i := 3) sc_l_holds.nd rfl (.inl rfl) (pe_callB (cr_sortedD hr.units) (by rfl) T.sorted (by decide +kernel) (pa_cons (pe_lc (own := [("_law_state", 4), ("_law_door", 5)]) (g := gTup K 2 (gCons (gName 4) (gCons (gName 5) gNil)))  rfl sc_l_holds.nd (pi_list (ne_get2 P w rfl rfl (hu64 hr) (pv 1) (pv 2) (pe_lst pa_nil) ⟨rfl, rfl, rfl, rfl⟩)) (blkOk_by (N := N_l_holds) (sc := defScope s_l_holds) (own := [("_law_state", 4), ("_law_door", 5)]) (by decide +kernel)) (fun _ _ _ _ _ => (pg_tup (n := 2) rfl (pgs_cons (pg_name (i := 4) sc_l_holds.nd rfl (.inl rfl) (.inr rfl)) (pgs_cons (pg_name (i := 5) sc_l_holds.nd rfl (.inl rfl) (.inr rfl)) pgs_nil)))) (fun _ _ _ _ _ => pts_nil) (fun _ _ _ _ _ => (pv 4))) pa_nil)))
    (pss_cons (ps_if (pt_cmpR op_ne (pe_call G_count_previous (hr.mono (by decide)) (by rfl) g_count_previous k_count_previous b_count_previous .nil pass0 (pa_cons (pv 0) (pa_cons (pv 2) pa_nil))) (pe_callB call_len_seq (by rfl) T.len PySem.boot_len (pa_cons (pv 3) pa_nil)) (nomark _)) (pss_one (ps_ret pe_bl)) pss_nil)
    (pss_cons (ps_if (pt_cmpR (op_neD hr.units) (pe_lc (own := [("_law_number", 6)]) (g := gName 6)  (te := (tCall (spPrevAt K) [] E0 (tCons (tVar 0) (tCons (tVar 2) (tCons (tVar 6) tNil))))) rfl sc_l_holds.nd (pi_range1 rfl T.range (pa_cons (pe_callB call_len_seq (by rfl) T.len PySem.boot_len (pa_cons (pv 3) pa_nil)) pa_nil)) (blkOk_by (N := N_l_holds) (sc := defScope s_l_holds) (own := [("_law_number", 6)]) (by decide +kernel)) (fun _ _ _ _ _ => (pg_name (i := 6) sc_l_holds.nd rfl (.inl rfl) (.inr rfl))) (fun _ _ _ _ _ => pts_nil) (fun _ _ _ _ _ => (pe_call G_previous_at (hr.mono (by decide)) (by rfl) g_previous_at k_previous_at b_previous_at .nil pass0 (pa_cons (pv 0) (pa_cons (pv 2) (pa_cons (pv 6) pa_nil)))))) (pv 3) (nomark _)) (pss_one (ps_ret pe_bl)) pss_nil)
    (pss_cons (ps_set (i := 7) sc_l_holds.nd rfl (.inr rfl) (pe_call G_explained_doors (hr.mono (by decide)) (by rfl) g_explained_doors k_explained_doors b_explained_doors .nil pass0 (pa_cons (pv 0) (pa_cons (pv 2) pa_nil))))
    (pss_cons (ps_if (pt_cmpR (op_neD hr.units) (pe_lc (own := [("_law_door", 5)]) (g := gName 5)  (tt := (tTest (tOp (rIn K true) (tVar 5) (tVar 7)))) rfl sc_l_holds.nd (pi_list (pe_call G_l_used_doors (hr.mono (by decide)) (by rfl) g_l_used_doors k_l_used_doors b_l_used_doors .nil pass0 (pa_cons (pv 1) (pa_cons (pv 2) pa_nil)))) (blkOk_by (N := N_l_holds) (sc := defScope s_l_holds) (own := [("_law_door", 5)]) (by decide +kernel)) (fun _ _ _ _ _ => (pg_name (i := 5) sc_l_holds.nd rfl (.inl rfl) (.inr rfl))) (fun _ _ _ _ _ => (pts_one (pt_cmpR op_notIn_seq (pv 5) (pv 7) (by rfl)))) (fun _ _ _ _ _ => (pv 5))) (pe_lst pa_nil) (nomark _)) (pss_one (ps_ret pe_bl)) pss_nil)
    (pss_cons (ps_set (i := 8) sc_l_holds.nd rfl (.inl rfl) (pe_call G_groups (hr.mono (by decide)) (by rfl) g_groups k_groups b_groups .nil pass0 (pa_cons (pv 0) (pa_cons (pv 2) pa_nil))))
    (pss_one (ps_ret (pe_cmpR op_eq (pe_callB call_len_seq (by rfl) T.len PySem.boot_len (pa_cons (pv 8) pa_nil)) (pe_op op_sub (pe_op op_add (pe_callB call_len_seq (by rfl) T.len PySem.boot_len (pa_cons (pv 0) pa_nil)) pe_int) (pe_callB call_len_seq (by rfl) T.len PySem.boot_len (pa_cons (pv 7) pa_nil))) (nomark _)))))))))), ?_⟩
  refine get_bef rfl rfl bef st fun H1 qx es s1 hq el => ⟨qx, rfl, ⟨_, SqL.of hq⟩, fun pd npd => ?_⟩
  have esl := el.1
  have fl := pm.length_eq
  rw [List.length_map] at fl
  refine lc_it (walk_list (K := K) (a := qx) (xs := es.map V.ref)) (fun j H2 => ∃ us : List Addr, Same H1 H2 ∧ H2 pd = some (.lst (us.map V.ref)) ∧ StsAt K H2 us (((f S).take j).map Prod.fst)) ⟨[], Same.upd npd, upd_same, rfl, fun _ _ _ h => by simp at h⟩ (fun j H2 _ ⟨_, s2, _⟩ => SqL.of (s2 _ _ hq)) ?_ ?_
  · rintro j x H3 H2 hj ⟨us, s2, hp2, st2⟩ ⟨rfl, ex⟩
    rw [List.getElem?_map] at ex
    obtain ⟨te, hte, rfl⟩ := Option.map_eq_some_iff.mp ex
    obtain ⟨e, he⟩ : ∃ e, (f S)[j]? = some e := get_of esl.symm (get_lt hte)
    obtain ⟨sy, b1, b2⟩ := el.2 j te e hte he
    have jl := get_lt he
    refine ⟨te, _, rfl, SqT.of (s2 _ _ b1), rfl, _, _, rfl, _, _, rfl, rfl, rfl, lcYes ⟨_, rfl, us.map V.ref, hp2, ?_, us ++ [sy], ?_⟩⟩
    · rw [List.length_map, st2.1, List.length_map, List.length_take]
      omega
    · have bt : But pd H2 (upd H2 pd (.lst (us.map V.ref ++ [.ref sy]))) := But.upd (But.refl _ _) _
      refine ⟨s2.at npd, by rw [upd_same, List.map_append]; rfl, ?_⟩
      rw [List.take_add_one, he, List.map_append]
      exact (st2.but hp2 bt).app ((b2.same s2).but hp2 bt)
  rintro H2 ⟨us, s2, hp2, st2⟩
  rw [show (f S).take (es.map V.ref).length = f S by rw [List.length_map, esl, List.take_length]] at st2
  refine ⟨pd, us.map V.ref, ((f S).map Prod.fst).map dS, rfl, SqL.of hp2, dp_sts us _ st2, ?_, .inl ?_, ?_, fun p np => ?_⟩
  · intro d hd d' hd'
    obtain ⟨x, _, rfl⟩ := List.mem_map.mp hd
    obtain ⟨y, _, rfl⟩ := List.mem_map.mp hd'
    exact alike_S x y
  · intro d hd
    obtain ⟨x, _, rfl⟩ := List.mem_map.mp hd
    exact ⟨_, _, rfl⟩
  · intro d hd
    obtain ⟨x, _, rfl⟩ := List.mem_map.mp hd
    exact dS_depth x
  rw [List.zip_map]
  obtain ⟨zl, ez, pz⟩ := perm_of_map _ _ _ (List.mergeSort_perm (List.map (Prod.map V.ref dS) (us.zip ((f S).map Prod.fst))) (dataLe false Prod.snd))
  have pw := sort_pairwise (sortLe_total (listOrd itemOrd) false fun b : V × PyData => keyToks b.2) (List.map (Prod.map V.ref dS) (us.zip ((f S).map Prod.fst)))
  have pw2 : ((List.map (Prod.map V.ref dS) (us.zip ((f S).map Prod.fst))).mergeSort (dataLe false Prod.snd)).Pairwise fun a b => dataLe false Prod.snd a b = true := pw
  rw [ez] at pw2 ⊢
  rw [List.pairwise_map] at pw2
  have sp := Same.upd (o := .lst ((zl.map (Prod.map V.ref dS)).map Prod.fst)) np
  have lz := st2.1
  have elz : zl.map Prod.snd = prevs ds S := by
    refine sorted_unique dS (fun _ _ h => toks_S h) ?_ ?_ (prevs_sorted tree ok)
    · have := pz.map Prod.snd
      rw [List.map_snd_zip (by rw [lz]; exact Nat.le_refl _)] at this
      exact this.trans pm
    · rw [List.pairwise_map]
      exact pw2
  have hp : (upd H2 p (.lst ((zl.map (Prod.map V.ref dS)).map Prod.fst))) p = some (.lst ((zl.map Prod.fst).map V.ref)) := by
    rw [upd_same, List.map_map, List.map_map]
    rfl
  have stp : StsAt K (upd H2 p (.lst ((zl.map (Prod.map V.ref dS)).map Prod.fst))) (zl.map Prod.fst) (prevs ds S) := by
    rw [← elz]
    refine ⟨by rw [List.length_map, List.length_map], fun i t x e1 e2 => ?_⟩
    rw [List.getElem?_map] at e1 e2
    cases ei : zl[i]? with
    | none => rw [ei] at e1; cases e1
    | some z =>
      rw [ei] at e1 e2
      cases e1
      cases e2
      obtain ⟨j, hj⟩ := List.mem_iff_getElem?.mp (pz.mem_iff.mp (List.mem_of_getElem? ei))
      obtain ⟨j1, j2⟩ := List.getElem?_zip_eq_some.mp hj
      exact (st2.2 j z.1 z.2 j1 j2).same sp
  have s13 := (s1.trans s2).trans sp
  generalize upd H2 p (.lst ((zl.map (Prod.map V.ref dS)).map Prod.fst)) = H3 at s13 hp stp
  generalize zl.map Prod.fst = zs at hp stp
  have zsl := stp.1
  refine ⟨_, rfl, _, rfl, a, t, ds, n, S, rfl, hH.same s13, tree, by omega, st.same s13, ok, fun H4 s4 => ?_⟩
  have s14 := s13.trans s4
  refine ⟨_, rfl, p, _, rfl, .inl (SqL.of (s4 _ _ hp)), rfl, _, rfl, ?_⟩
  rw [show ((srtd ds S).length * (S.1.length - 1)) = (zs.map V.ref).length by rw [List.length_map, zsl, pcl]; rfl, decide_eq_true rfl]
  refine iteF ?_
  have hp4 := s4 _ _ hp
  have stp4 := stp.same s4
  refine ⟨_, rfl, p, _, rfl, .inl (SqL.of hp4), ((prevs ds S).length : Int), congrArg (fun z : Nat => [V.int (z : Int)]) (by rw [List.length_map, zsl]), by omega, by omega, fun pd2 npd2 => ?_⟩
  have spd2 := Same.upd (o := .lst []) npd2
  refine lc_range (lo := 0) (n := (prevs ds S).length) (fun k H5 => ∃ us : List Addr, Same H4 H5 ∧ H5 pd2 = some (.lst (us.map V.ref)) ∧ StsAt K H5 us ((prevs ds S).take k)) ⟨[], spd2, upd_same, rfl, fun _ _ _ h => by simp at h⟩ ?_ ?_
  · rintro k H5 hk ⟨us, s5, hp5, st5⟩
    rw [Int.zero_add]
    obtain ⟨X, hX⟩ : ∃ X, (prevs ds S)[k]? = some X := get_of rfl hk
    obtain ⟨x, hx, _, eX, lm⟩ := prevs_get ok hX
    have s15 := s14.trans s5
    refine ⟨rfl, lcYes ⟨_, rfl, _, rfl, _, rfl, a, t, ds, n, k, S, x, rfl, hH.same s15, tree, by omega, st.same s15, ok, ?_, hx, fun H6 q6 s6 h6 => ?_⟩⟩
    · have := hk
      rw [pcl] at this
      exact this
    · rw [← eX] at h6
      have hp6 := s6 _ _ hp5
      refine ⟨us.map V.ref, hp6, by rw [List.length_map, st5.1, List.length_take]; omega, us ++ [q6], (s5.trans s6).at npd2, by rw [upd_same, List.map_append]; rfl, ?_⟩
      rw [List.take_add_one, hX]
      exact ((st5.same s6).app h6).put hp6
  rintro H5 ⟨us2, s5, hp5, st5⟩
  rw [List.take_length] at st5
  have s15 := s14.trans s5
  refine ⟨_, rfl, .list ((prevs ds S).map dS), .list ((prevs ds S).map dS), dp_addrs hp5 st5, dp_addrs (s5 _ _ hp4) (stp4.same s5), dSs_shaped _, dSs_shaped _, _, rfl, ?_⟩
  rw [d_refl (dSs_shaped (prevs ds S))]
  refine iteF ?_
  refine ⟨_, rfl, _, rfl, a, t, ds, n, S, rfl, hH.same s15, tree, by omega, st.same s15, ok, fun H6 q6 M J s6 nq6 hq6 mk cl => ?_⟩
  have s16 := s15.trans s6
  refine ⟨_, rfl, _, rfl, d, t, xs, f, ds, l, S, rfl, bef.same s16, st.same s16, ro, hSl, fun X hX => ((ag.mem X).mp hX).2.2.1, hl, by omega, fun H7 q7 us7 s7 nq7 hq7 ex7 l7 => ?_⟩
  have s17 := s16.trans s7
  refine ⟨q7, rfl, ⟨_, SqL.of hq7⟩, fun pd3 npd3 => ?_⟩
  refine lc_it (walk_list (K := K) (a := q7) (xs := nv us7)) (fun j H8 => Same H7 H8 ∧ H8 pd3 = some (.lst [])) ⟨Same.upd npd3, upd_same⟩ (fun j H8 _ ⟨s8, _⟩ => SqL.of (s8 _ _ hq7)) ?_ ?_
  · rintro j x H9 H8 hj ⟨s8, hp8⟩ ⟨rfl, ex⟩
    obtain ⟨e, he, rfl⟩ := nv_some ex
    have s18 := s17.trans s8
    have hee := ex7 e (List.mem_of_getElem? he)
    have elt : e < ds.length := by
      cases hee with
      | mk _ _ j _ _ => exact joins_lt j
    refine ⟨rfl, _, rfl, _, rfl, q6, nv (exd M ds), rfl, .inl (SqL.of (s8 _ _ (s7 _ _ hq6))), rfl, flat_nv _, _, rfl, ?_⟩
    rw [inV_nv, decide_eq_true (mem_exd tree mk.1 cl elt hee)]
    exact iteF ⟨s8, hp8⟩
  rintro H8 ⟨s8, hp8⟩
  have s18 := s17.trans s8
  refine ⟨Nat.zero_le _, fun pe npe => ?_⟩
  have sE := Same.upd (o := .lst []) npe
  refine ⟨.list [], .list [], .lst (SqL.of (sE _ _ hp8)) .nil, .lst (SqL.of upd_same) .nil, by decide +kernel, by decide +kernel, _, rfl, ?_⟩
  rw [show (!PyData.eqv (.list []) (.list [])) = false by decide +kernel]
  have s19 := s18.trans sE
  refine iteF ?_
  refine ⟨_, rfl, _, rfl, a, t, ds, n, S, rfl, hH.same s19, tree, by omega, st.same s19, ok, fun H10 q10 M5 J5 s10 nl5 mk5 cl5 => ?_⟩
  obtain rfl := (mk5.1.unique tree cl5 mk.1 cl).symm
  obtain ⟨rs5, hq5, l5, _⟩ := nl5
  have s20 := s19.trans s10
  have hq6' := s10 _ _ (sE _ _ (s8 _ _ (s7 _ _ hq6)))
  refine ⟨_, rfl, q10, _, rfl, .inl (SqL.of hq5), _, rfl, a, _, rfl, .inr (s20.tup hrs), _, _, rfl, rfl, _, rfl, q6, _, rfl, .inl (SqL.of hq6'), _, _, rfl, rfl, rfl, ?_⟩
  have cnt := mk.2
  have eln := exd_len tree mk.1
  have gl : (grps M).length = (rt M n).length := by
    unfold grps
    rw [List.length_map, mk.1.len]
  show Q (.bl (decide (V.int _ = V.int _))) H10
  rw [decide_eq_true (congrArg V.int (by rw [List.length_map, l5, gl, List.length_map, hlen, nv_len, eln]; omega))]
  exact qn H10 s20
end
end K5

namespace K5
open PySem PySem.Spec PyProof.Rows L2
theorem step_inj {ds : List (Nat × Nat)} {S : S2} {m m' : Q4} (l2 : S.2.length = ds.length) (o : QOk ds S m) (o' : QOk ds S m') (h : stepS S m = stepS S m') : m = m' := by
  obtain ⟨p, a, b, d⟩ := m
  obtain ⟨p', a', b', d'⟩ := m'
  obtain ⟨o1, o2, o3⟩ := o
  obtain ⟨q1, q2, q3⟩ := o'
  dsimp only at o1 o2 o3 q1 q2 q3
  have e1 : S.1.set p b = S.1.set p' b' := congrArg Prod.fst h
  have e2 : S.2.set d p = S.2.set d' p' := congrArg Prod.snd h
  have ld : d < S.2.length := by rw [l2]; exact joins_lt o2
  have ld' : d' < S.2.length := by rw [l2]; exact joins_lt q2
  have ed : d = d' := Classical.byContradiction fun z => by
    have h1 : (S.2.set d p)[d]? = some p := List.getElem?_set_self ld
    rw [e2, List.getElem?_set_ne (Ne.symm z)] at h1
    exact o3 h1
  subst ed
  have ep : p = p' := by
    have h1 : (S.2.set d p)[d]? = some p := List.getElem?_set_self ld
    rw [e2, List.getElem?_set_self ld] at h1
    exact (Option.some.inj h1).symm
  subst ep
  rw [o1] at q1
  have ea := Option.some.inj q1
  subst ea
  have lp := get_lt o1
  have h1 : (S.1.set p b)[p]? = some b := List.getElem?_set_self lp
  rw [e1, List.getElem?_set_self lp] at h1
  rw [Option.some.inj h1]
theorem take_no {α : Type} {l : List α} {k : Nat} {x : α} (nd : l.Nodup) (h : l[k]? = some x) : x ∉ l.take k := fun z => by
  obtain ⟨j, hj⟩ := List.mem_iff_getElem?.mp z
  have lt := get_lt hj
  rw [List.length_take] at lt
  rw [List.getElem?_take] at hj
  have jk : j < k := by omega
  rw [if_pos jk] at hj
  have := (List.getElem?_inj (get_lt hj) nd).mp (hj.trans h.symm)
  omega
/-- the rows while a state's moves are gone through -/
structure RowsI (ds : List (Nat × Nat)) (l0 : List S2) (S : S2) (ms : List Q4) (f : S2 → List (S2 × Nat)) : Prop where
  mem : ∀ T X e, (X, e) ∈ f T ↔ (X ∈ l0 ∧ ∃ m, QOk ds X m ∧ stepS X m = T ∧ m.2.2.2 = e) ∨ (X = S ∧ ∃ m ∈ ms, stepS S m = T ∧ m.2.2.2 = e)
  nd : ∀ T, ((f T).map Prod.fst).Nodup
theorem RowsI.start {ds : List (Nat × Nat)} {l0 : List S2} {f : S2 → List (S2 × Nat)} (h : Rows2 ds l0 f) (S : S2) : RowsI ds l0 S [] f := ⟨fun T X e => by rw [h.mem]; simp, h.nd⟩
theorem RowsI.step {ds : List (Nat × Nat)} {l0 : List S2} {S : S2} {ms : List Q4} {m : Q4} {f : S2 → List (S2 × Nat)} (h : RowsI ds l0 S ms f) (l2 : S.2.length = ds.length) (hS : S ∉ l0) (om : QOk ds S m) (oms : ∀ x ∈ ms, QOk ds S x) (hm : m ∉ ms) :
    RowsI ds l0 S (ms ++ [m]) (fun T => if T = stepS S m then f T ++ [(S, m.2.2.2)] else f T) := by
  refine ⟨fun T X e => ?_, fun T => ?_⟩
  · by_cases c : T = stepS S m
    · simp only [if_pos c]
      rw [List.mem_append, h.mem, List.mem_singleton]
      constructor
      · rintro ((z | ⟨z1, x, z2, z3⟩) | z)
        · exact .inl z
        · exact .inr ⟨z1, x, List.mem_append_left _ z2, z3⟩
        · obtain ⟨z1, z2⟩ := Prod.mk.inj z
          exact .inr ⟨z1, m, List.mem_append_right _ List.mem_cons_self, c.symm, z2.symm⟩
      · rintro (z | ⟨z1, x, z2, z3, z4⟩)
        · exact .inl (.inl z)
        · rcases List.mem_append.mp z2 with z2 | z2
          · exact .inl (.inr ⟨z1, x, z2, z3, z4⟩)
          · rw [List.mem_singleton] at z2
            subst z2
            rw [z1, ← z4]
            exact .inr rfl
    · simp only [if_neg c]
      rw [h.mem]
      constructor
      · rintro (z | ⟨z1, x, z2, z3⟩)
        · exact .inl z
        · exact .inr ⟨z1, x, List.mem_append_left _ z2, z3⟩
      · rintro (z | ⟨z1, x, z2, z3, z4⟩)
        · exact .inl z
        · rcases List.mem_append.mp z2 with z2 | z2
          · exact .inr ⟨z1, x, z2, z3, z4⟩
          · rw [List.mem_singleton] at z2
            subst z2
            exact absurd z3.symm c
  · by_cases c : T = stepS S m
    · simp only [if_pos c]
      rw [List.map_append, List.map_singleton]
      refine List.nodup_append.mpr ⟨h.nd T, by simp, fun a ha b hb z => ?_⟩
      rw [List.mem_singleton] at hb
      subst z
      obtain ⟨⟨Y, e⟩, hY, e1⟩ := List.mem_map.mp ha
      have e1 : Y = a := e1
      have hb : a = S := hb
      subst e1
      subst hb
      rcases (h.mem T Y e).mp hY with ⟨z, _⟩ | ⟨_, x, z2, z3, _⟩
      · exact hS z
      · have := step_inj l2 (oms x z2) om (z3.trans c)
        rw [this] at z2
        exact hm z2
    · simp only [if_neg c]
      exact h.nd T
theorem RowsI.done {ds : List (Nat × Nat)} {l : List S2} {k : Nat} {S : S2} {ms : List Q4} {f : S2 → List (S2 × Nat)} (h : RowsI ds (l.take k) S ms f) (hS : l[k]? = some S) (all : ∀ m, m ∈ ms ↔ QOk ds S m) : Rows2 ds (l.take (k + 1)) f := by
  refine ⟨fun T X e => ?_, h.nd⟩
  rw [h.mem, List.take_add_one, hS, List.mem_append]
  constructor
  · rintro (⟨z1, z2⟩ | ⟨z1, m, z2, z3⟩)
    · exact ⟨.inl z1, z2⟩
    · subst z1
      exact ⟨.inr (by simp), m, (all m).mp z2, z3⟩
  · rintro ⟨z1 | z1, m, z2, z3⟩
    · exact .inl ⟨z1, m, z2, z3⟩
    · have z1 : X = S := by simpa using z1
      subst z1
      exact .inr ⟨rfl, m, (all m).mpr z2, z3⟩
theorem RowsI.len {ds : List (Nat × Nat)} {l : List S2} {k : Nat} {S : S2} {ms : List Q4} {f : S2 → List (S2 × Nat)} (h : RowsI ds (l.take k) S ms f) (hS : l[k]? = some S) (T : S2) : (f T).length ≤ l.length := by
  have := nodup_sub ((f T).map Prod.fst) l (h.nd T) fun X hX => by
    obtain ⟨⟨Y, e⟩, hY, e1⟩ := List.mem_map.mp hX
    have e1 : Y = X := e1
    subst e1
    rcases (h.mem T Y e).mp hY with ⟨z, _⟩ | ⟨z, _⟩
    · exact List.mem_of_mem_take z
    · rw [z]
      exact List.mem_of_getElem? hS
  rwa [List.length_map] at this
def spLaw (K : PySem.W.Frag) : Sp := fun vs H Q _ => ∃ (a : Addr) (ns : List Int), vs = [.ref a] ∧ SqL K H a (ns.map V.int) ∧ ns.length ≤ 63 ∧ ∀ H', Q (.bl true) H'
section
variable {P : Program} {w : World} {K : PySem.W.Frag}
      {mg : Str → Option Value} {base : Heap}
theorem ok_law {f0 : Addr} {fd0 : FuncData} (T : Bl mg) (F : Fun K "law" "law" s_law f0 fd0) (C_l_generator : Cal P w K mg base "_law_generator" ["_law_script", "_law_index"] 2 (spGen K)) (C_l_random : Cal P w K mg base "_law_random" ["_law_generator_here", "_law_bound"] 2 spRand)
    (C_l_random_house : Cal P w K mg base "_law_random_house" ["_law_generator_here", "_law_size"] 4 (spHouse K)) (C_l_all_states : Cal P w K mg base "_law_all_states" ["_law_layout", "_law_count"] 1 (spAll K)) (C_l_moves : Cal P w K mg base "_law_moves" ["_law_layout", "_law_situation"] 1 (spMoves K))
    (C_l_after_move : Cal P w K mg base "_law_after_move" ["_law_situation", "_law_move"] 1 (spAfter K)) (C_l_holds : Cal P w K mg base "_law_holds" ["_law_layout", "_law_before", "_law_target"] 10 (spHoldN K P w)) : FnOk P w K mg base CX0 11 f0 fd0 ["_law_script"] (spLaw K) := by
  refine F.ok sc_law (fun vs H Q E h => ?_) (fun cdv A outer s0 H vs Q E hr h => ?_)
  · obtain ⟨a, ns, rfl, _⟩ := h
    rfl
  obtain ⟨a, ns, rfl, hs, hns, qn⟩ := h
  obtain ⟨f_l_generator, fd_l_generator, g_l_generator, k_l_generator, b_l_generator, G_l_generator⟩ := C_l_generator
  obtain ⟨f_l_random_house, fd_l_random_house, g_l_random_house, k_l_random_house, b_l_random_house, G_l_random_house⟩ := C_l_random_house
  obtain ⟨f_l_random, fd_l_random, g_l_random, k_l_random, b_l_random, G_l_random⟩ := C_l_random
  obtain ⟨f_l_all_states, fd_l_all_states, g_l_all_states, k_l_all_states, b_l_all_states, G_l_all_states⟩ := C_l_all_states
  obtain ⟨f_l_moves, fd_l_moves, g_l_moves, k_l_moves, b_l_moves, G_l_moves⟩ := C_l_moves
  obtain ⟨f_l_after_move, fd_l_after_move, g_l_after_move, k_l_after_move, b_l_after_move, G_l_after_move⟩ := C_l_after_move
  obtain ⟨f_l_holds, fd_l_holds, g_l_holds, k_l_holds, b_l_holds, G_l_holds⟩ := C_l_holds
  refine ⟨_, (pss_cons (ps_for PassesOwn.never rfl (pi_range1 rfl T.range (pa_cons pe_int pa_nil)) (pg_name (i := 1) sc_law.nd rfl (.inl rfl))
    (pss_cons (ps_set (i := 2) sc_law.nd rfl (.inl rfl) (pe_call G_l_generator (hr.mono (by decide)) (by rfl) g_l_generator k_l_generator b_l_generator .nil pass0 (pa_cons (pv 0) (pa_cons (pv 1) pa_nil))))
    (pss_cons (ps_set (i := 3) sc_law.nd rfl (.inl rfl) (pe_call G_l_random_house (hr.mono (by decide)) (by rfl) g_l_random_house k_l_random_house b_l_random_house .nil pass0 (pa_cons (pv 2) (pa_cons (pe_op op_add pe_int (pe_call G_l_random (hr.mono (by decide)) (by rfl) g_l_random k_l_random b_l_random .nil pass0 (pa_cons (pv 2) (pa_cons pe_int pa_nil)))) pa_nil))))
    (pss_cons (ps_set (i := 4) sc_law.nd rfl (.inl rfl) (pe_call G_l_all_states (hr.mono (by decide)) (by rfl) g_l_all_states k_l_all_states b_l_all_states .nil pass0 (pa_cons (pv 3) (pa_cons (pe_op op_add pe_int (pe_call G_l_random (hr.mono (by decide)) (by rfl) g_l_random k_l_random b_l_random .nil pass0 (pa_cons (pv 2) (pa_cons pe_int pa_nil)))) pa_nil))))
    (pss_cons (ps_set (i := 5) sc_law.nd rfl (.inl rfl) (ne_new P w rfl rfl))
    (pss_cons (ps_for PassesOwn.never rfl (pi_list (pv 4)) (pg_name (i := 6) sc_law.nd rfl (.inl rfl))
    (pss_one (ps_for PassesOwn.never rfl (pi_list (pe_call G_l_moves (hr.mono (by decide)) (by rfl) g_l_moves k_l_moves b_l_moves .nil pass0 (pa_cons (pv 3) (pa_cons (pv 6) pa_nil)))) (pg_name (i := 7) sc_law.nd rfl (.inl rfl))
    (pss_cons (ps_set (i := 8) sc_law.nd rfl (.inl rfl) (pe_call G_l_after_move (hr.mono (by decide)) (by rfl) g_l_after_move k_l_after_move b_l_after_move .nil pass0 (pa_cons (pv 6) (pa_cons (pv 7) pa_nil))))
    (pss_one (ne_put P w rfl rfl (hu64 hr) (pv 5) (pv 8) (pe_op op_cat (ne_get2 P w rfl rfl (hu64 hr) (pv 5) (pv 8) (pe_lst pa_nil) ⟨rfl, rfl, rfl, rfl⟩) (pe_lst (pa_cons (pe_tup (pa_cons (pv 6) (pa_cons (pe_ix ix_tup (pv 7) pe_int (fun _ _ => rfl)) pa_nil))) pa_nil))) rfl))))))
    (pss_one (ps_for PassesOwn.never rfl (pi_range1 rfl T.range (pa_cons pe_int pa_nil)) (pg_name (i := 9) sc_law.nd rfl (.inl rfl))
    (pss_one (ps_if (pt_not (pt_val (pe_call G_l_holds (hr.mono (by decide)) (by rfl) g_l_holds k_l_holds b_l_holds .nil pass0 (pa_cons (pv 3) (pa_cons (pv 5) (pa_cons (pe_ix ix_list (pv 4) (pe_call G_l_random (hr.mono (by decide)) (by rfl) g_l_random k_l_random b_l_random .nil pass0 (pa_cons (pv 2) (pa_cons (pe_callB call_len_seq (by rfl) T.len PySem.boot_len (pa_cons (pv 4) pa_nil)) pa_nil))) (fun _ _ => rfl)) pa_nil)))))) (pss_one (ps_ret pe_bl)) pss_nil))))))))))
    (pss_one (ps_ret pe_bl))), ?_⟩
  refine ⟨2, rfl, by decide, by decide, ?_⟩
  refine for_range (lo := 0) (n := 2) (fun i σ H1 => ∃ y1 y2 y3 y4 y5 y6 y7 y8 y9, σ = [some (.ref a), y1, y2, y3, y4, y5, y6, y7, y8, y9] ∧ Same H H1) ⟨_, _, _, _, _, _, _, _, _, rfl, Same.refl _⟩ ?_ ?_
  · rintro i σ H1 hi ⟨y1, y2, y3, y4, y5, y6, y7, y8, y9, rfl, s1⟩
    rw [Int.zero_add]
    refine ⟨_, rfl, _, rfl, a, ns, i, rfl, s1.seq hs, by omega, fun H2 g s2 ng gen => ?_⟩
    refine ⟨_, rfl, _, rfl, g, 1000000, 4, rfl, gen, by decide, by decide, by decide, fun H3 u bt3 g3 hu => ?_⟩
    refine ⟨_, _, rfl, rfl, g, 1000001, 1 + u, congrArg (fun z : Int => [V.ref g, V.int z]) (show (1 : Int) + (u : Int) = ((1 + u : Nat) : Int) by omega), g3, by omega, by omega, by decide, fun H4 a4 ds bt4 g4 nag hH tree => ?_⟩
    have hn4 : 1 + u ≤ 4 := by omega
    generalize hsz : 1 + u = n at hn4 tree
    refine ⟨_, rfl, _, rfl, g, 1001001, 3, rfl, g4, by decide, by decide, by decide, fun H5 v bt5 g5 hv => ⟨_, _, rfl, rfl, ?_⟩⟩
    obtain ⟨gx, hgx⟩ := g4.lst
    have hH5 := hH.but hgx bt5
    obtain ⟨c, hc⟩ : ∃ c, c = 1 + v := ⟨_, rfl⟩
    refine ⟨a4, ds, n, c, congrArg (fun z : Int => [V.ref a4, V.int z]) (show (1 : Int) + (v : Int) = ((c : Nat) : Int) by omega), hH5, tree, hn4, by omega, fun H6 qs ts l s6 nqs hqs sts ag hl => ?_⟩
    have g6 := g5.same s6
    have hH6 := hH5.same s6
    have sall : Same H H6 := (s1.trans (But.same s2 ng ((bt3.trans bt4).trans bt5))).trans s6
    have ng6 : H g = none := s1.free ng
    have hqg : qs ≠ g := g5.ne nqs
    clear bt3 bt4 bt5 g3 g4 g5
    refine fun d nd => ?_
    have s7 := Same.upd (o := nD P w d []) nd
    have bef0 : Bef K P w (upd H6 d (nD P w d [])) d [] (fun _ => []) := ⟨upd_same, (fun _ h => nomatch h), fun T _ => rfl, fun T z => absurd rfl z⟩
    have hq7 := s7 _ _ hqs
    have st7 := sts.same s7
    have h3' : c ≤ 3 := by omega
    have h1' : 1 ≤ c := by omega
    have stsl := sts.1
    change tSeq _ _ _ _ (upd H6 d (nD P w d []))
    generalize upd H6 d (nD P w d []) = H7 at s7 bef0 hq7 st7
    refine ⟨_, rfl, qs, rfl, ⟨_, SqL.of hq7⟩, ?_⟩
    refine for_it (walk_list (K := K) (a := qs) (xs := ts.map V.ref)) (fun k σ H8 => ∃ (xs : NX) (f : S2 → List (S2 × Nat)) (y6 y7 y8 y9 : Option V), σ = [some (.ref a), some (.int (i : Int)), some (.ref g), some (.ref a4), some (.ref qs), some (.ref d), y6, y7, y8, y9] ∧ Same H6 H8 ∧ Bef K P w H8 d xs f ∧ xs.length ≤ 1000 * k ∧ Rows2 ds (l.take k) f)
      ⟨[], _, _, _, _, _, rfl, s7, bef0, Nat.zero_le _, ⟨fun T X e => by simp, fun T => List.nodup_nil⟩⟩ (fun k H8 _ _ ⟨_, _, _, _, _, _, _, s8, _⟩ => SqL.of (s8 _ _ hqs)) ?_ ?_
    · rintro k x σ H9 H8 hk ⟨xs, f, y6, y7, y8, y9, rfl, s8, bef, xl, ro⟩ ⟨rfl, ex⟩
      rw [List.getElem?_map] at ex
      obtain ⟨t, ht, rfl⟩ := Option.map_eq_some_iff.mp ex
      obtain ⟨S, hS⟩ : ∃ S, l[k]? = some S := get_of stsl.symm (get_lt ht)
      have kl := get_lt hS
      have gS := (ag.mem S).mp (List.mem_of_getElem? hS)
      have okS := gs_ok gS h1' h3'
      have l2 := okS.doors
      have hdn := tree.len
      have stS := sts.2 k t S ht hS
      refine ⟨_, rfl, _, rfl, a4, t, n, ds, S, rfl, hH6.same s8, tree, by omega, stS.same s8, okS, fun H10 qm tm qs' s10 nqm hqm tql qall qlen => ?_⟩
      have s610 := s8.trans s10
      have hd10 := (bef.same s10).at_
      refine ⟨qm, rfl, ⟨_, SqL.of hqm⟩, ?_⟩
      refine for_it (walk_list (K := K) (a := qm) (xs := tm.map V.ref)) (fun j σ H11 => ∃ (xs : NX) (f : S2 → List (S2 × Nat)) (y7 y8 y9 : Option V), σ = [some (.ref a), some (.int (i : Int)), some (.ref g), some (.ref a4), some (.ref qs), some (.ref d), some (.ref t), y7, y8, y9] ∧ Same H6 H11 ∧ (∀ b o, b ≠ d → H10 b = some o → H11 b = some o) ∧ Bef K P w H11 d xs f ∧ xs.length ≤ 1000 * k + j ∧ RowsI ds (l.take k) S (qs'.take j) f)
        ⟨xs, f, _, _, _, rfl, s610, fun b o _ e => e, bef.same s10, by omega, RowsI.start ro S⟩ (fun j H11 _ _ ⟨_, _, _, _, _, _, _, b11, _⟩ => SqL.of (b11 _ _ (ne_of hqm (bef.same s10).at_ (by intro q; cases q)) hqm)) ?_ ?_
      · rintro j x σ H12 H11 hj ⟨xs, f, y7, y8, y9, rfl, s11, b11, bef, xl, ri⟩ ⟨rfl, ex⟩
        rw [List.getElem?_map] at ex
        obtain ⟨t2, ht2, rfl⟩ := Option.map_eq_some_iff.mp ex
        obtain ⟨m, hm⟩ : ∃ m, qs'[j]? = some m := get_of tql.1.symm (get_lt ht2)
        have jl := get_lt hm
        have om := (qall.2 m).mp (List.mem_of_getElem? hm)
        have ld := joins_lt om.2.1
        have ht2' := tql.2 j t2 m ht2 hm
        have ht11 := b11 _ _ (ne_of ht2' hd10 (by intro q; cases q)) ht2'
        refine ⟨_, rfl, _, rfl, t, t2, S, m, rfl, stS.same s11, ht11, get_lt om.1, by omega, by have := okS.few; omega, by omega, fun H13 tl s13 stl => ?_⟩
        have s613 := s11.trans s13
        refine get_bef rfl rfl (bef.same s13) stl fun H14 qx es s14 hqx el => ?_
        have s614 := s613.trans s14
        refine ⟨_, rfl, _, rfl, t2, _, _, _, rfl, rfl, SqT.of (s14 _ _ (s13 _ _ ht11)), atI_nat (j := 3) rfl, by show 2 ≤ sizeLine; decide, fun p1 np1 => ⟨by show 1 ≤ sizeLine; decide, fun p2 np2 => ?_⟩⟩
        have sa := Same.upd (o := .tup [.ref t, .int (m.2.2.2 : Int)]) np1
        have sb := Same.upd (o := .lst [.ref p1]) np2
        have hp1 := sb _ _ (upd_same (H := H14) (a := p1) (o := .tup [.ref t, .int (m.2.2.2 : Int)]))
        have hp2 := upd_same (H := upd H14 p1 (.tup [.ref t, .int (m.2.2.2 : Int)])) (a := p2) (o := .lst [.ref p1])
        have sab := sa.trans sb
        have fl := ri.len hS (stepS S m)
        refine ⟨qx, p2, es.map V.ref, [.ref p1], rfl, rfl, sab _ _ hqx, hp2, by rw [List.length_map, el.1]; show _ + 1 ≤ sizeLine; rw [sizeLine_eq]; omega, fun p3 np3 => ?_⟩
        have sc := Same.upd (o := .lst (es.map V.ref ++ [.ref p1])) np3
        have sabc := sab.trans sc
        have hp3 := upd_same (H := upd (upd H14 p1 (.tup [.ref t, .int (m.2.2.2 : Int)])) p2 (.lst [.ref p1])) (a := p3) (o := .lst (es.map V.ref ++ [.ref p1]))
        have hp1' := sc _ _ hp1
        have s615 := s614.trans sabc
        have b15 := ((bef.same s13).same s14).same sabc
        have el15 := el.same sabc
        have st15 := (stl.same s14).same sabc
        have b1115 : ∀ b o, b ≠ d → H10 b = some o → _ := fun b o ne e => sabc _ _ (s14 _ _ (s13 _ _ (b11 b o ne e)))
        generalize upd (upd (upd H14 p1 (.tup [.ref t, .int (m.2.2.2 : Int)])) p2 (.lst [.ref p1])) p3 (.lst (es.map V.ref ++ [.ref p1])) = H15 at hp3 hp1' s615 b15 el15 st15 b1115
        refine ⟨_, rfl, _, rfl, d, tl, xs, dS (stepS S m), rfl, rfl, b15.at_, dp_S st15, keyable_S _, kdepth_S _, b15.ks.dp, by rw [sizeLine_eq]; omega, fun z hz => ?_⟩
        have hz : z = .ref p3 := hz
        have bnew := b15.put (us := es ++ [p1]) (e := (S, m.2.2.2)) (u := z) st15 (by rw [hp3, List.map_append]; rfl) (el15.app hp1' (stS.same s615)) hz
        refine ⟨_, _, _, _, _, rfl, s615.at nd, fun b o ne e => ?_, bnew, ?_, ?_⟩
        · rw [upd_ne ne]
          exact b1115 b o ne e
        · have := storedH_length xs (kS (stepS S m)) tl z
          omega
        · rw [List.take_add_one, hm]
          refine ri.step l2 (take_no ag.nd hS) om (fun x hx => (qall.2 x).mp (List.mem_of_mem_take hx)) (take_no qall.1 hm)
      · rintro σ H11 ⟨xs, f, y7, y8, y9, rfl, s11, b11, bef, xl, ri⟩
        have et : qs'.take (tm.map V.ref).length = qs' := by rw [List.length_map, tql.1, List.take_length]
        rw [et] at ri
        rw [List.length_map, tql.1] at xl
        exact ⟨xs, f, _, _, _, _, rfl, s11, bef, by omega, ri.done hS qall.2⟩
    · rintro σ H8 ⟨xs, f, y6, y7, y8, y9, rfl, s8, bef, xl, ro⟩
      rw [show l.take (ts.map V.ref).length = l by rw [List.length_map, stsl, List.take_length]] at ro
      have g8 := g6.same s8
      have hH8 := hH6.same s8
      have st8 := sts.same s8
      have hq8 := s8 _ _ hqs
      have lpos : 0 < l.length := by
        have : (List.replicate c 0, List.replicate ds.length 0) ∈ l := (ag.mem _).mpr ⟨List.length_replicate, fun x hx => by
          rw [(List.mem_replicate.mp hx).2]
          have := tree.len
          omega, List.length_replicate, fun x hx => by
          rw [(List.mem_replicate.mp hx).2]
          omega⟩
        exact List.length_pos_of_mem this
      refine ⟨12, rfl, by decide, by decide, ?_⟩
      refine for_range (lo := 0) (n := 12) (fun j σ H9 => ∃ (y6 y7 y8 y9 : Option V), σ = [some (.ref a), some (.int (i : Int)), some (.ref g), some (.ref a4), some (.ref qs), some (.ref d), y6, y7, y8, y9] ∧ But g H8 H9 ∧ GenAt H9 g (1001002 + j))
        ⟨_, _, _, _, rfl, But.refl _ _, g8⟩ ?_ ?_
      · rintro j σ H9 hj ⟨y6, y7, y8, y9, rfl, bt9, g9⟩
        obtain ⟨gz, hgz⟩ := g8.lst
        have hq9 := bt9 _ _ hqg hq8
        refine ⟨_, rfl, _, rfl, _, rfl, _, rfl, _, rfl, qs, _, rfl, .inl (SqL.of hq9), g, 1001002 + j, l.length, congrArg (fun z : Nat => [V.ref g, V.int (z : Int)]) (by rw [List.length_map, stsl]), g9, lpos, by omega, by omega, fun H10 x bt10 g10 hx => ?_⟩
        have bt := bt9.trans bt10
        have hq10 := bt _ _ hqg hq8
        obtain ⟨S, hS⟩ : ∃ S, l[x]? = some S := get_of rfl hx
        obtain ⟨t, ht⟩ : ∃ t, ts[x]? = some t := get_of stsl hx
        have gS := (ag.mem S).mp (List.mem_of_getElem? hS)
        have okS := gs_ok gS h1' h3'
        have hdn := tree.len
        refine ⟨qs, _, _, V.ref t, rfl, rfl, SqL.of hq10, atI_nat (v := V.ref t) (by rw [List.getElem?_map, ht]; rfl), a4, d, t, xs, f, ds, n, l, S, rfl, hH8.but hgz bt, tree, hn4, bef.gen g8 bt, (st8.2 x t S ht hS).but hgz bt, okS, by rw [gS.1]; exact h3', ro, by rw [gS.1]; exact ag, hl, fun H11 s11 => ⟨_, rfl, iteF ?_⟩⟩
        exact ⟨_, _, _, _, rfl, fun b o ne e => s11 _ _ (bt b o ne e), (g10.same s11).mono (by omega)⟩
      · rintro σ H9 ⟨y6, y7, y8, y9, rfl, bt9, g9⟩
        exact ⟨_, _, _, _, _, _, _, _, _, rfl, But.same (sall.trans s8) ng6 bt9⟩
  · rintro σ H1 ⟨y1, y2, y3, y4, y5, y6, y7, y8, y9, rfl, s1⟩
    exact qn H1
end
end K5

namespace K5
open PySem PySem.Spec PyProof.Rows L2
theorem def_mk {K : PySem.W.Frag} {h : Heap} {mg : Str → Option Value} {x : Str} {st : Stmt} (X : K.In h) (G : h.Ns mainGlobals mg) {f : Addr} {oc : Value} {od an : Option Addr} {osl : Array (Option Value)} {kV doc pm cdv ct : Value} (a : PySem.W.nsIn K mainGlobals x = some (some (.ref f)))
    (l : K.lookup f = some ⟨oc, od, .func (PySem.W.fnOf x x (defArgs st) (defBody st) (defScope st) .none kV doc pm an cdv ct), osl⟩) (c : PySem.W.codeIn K cdv x = true) (k : PySem.W.keepIn K (.ref f) = true) : Def K mg x st :=
  ⟨f, _, fun_mk l c k, PySem.W.mg_of X G a⟩
theorem all_mk {l : PySem.W.OpenLaw} {w : World} {K : PySem.W.Frag} {h : Heap} {mg : Str → Option Value} {fa : Addr} (X : K.In h) (G : h.Ns mainGlobals mg) (hfa : mg "law" = some (.ref fa))
    {f0 : Addr} {od0 an0 : Option Addr} {sl0 : Array (Option Value)} {oc0 kV0 dc0 pm0 cd0 ct0 : Value}
    (a0 : PySem.W.nsIn K mainGlobals "is_whole" = some (some (.ref f0))) (l0 : K.lookup f0 = some ⟨oc0, od0, .func (PySem.W.fnOf "is_whole" "is_whole" (defArgs s_is_whole) (defBody s_is_whole) (defScope s_is_whole) .none kV0 dc0 pm0 an0 cd0 ct0), sl0⟩) (c0 : PySem.W.codeIn K cd0 "is_whole" = true) (k0 : PySem.W.keepIn K (.ref f0) = true)
    {f1 : Addr} {od1 an1 : Option Addr} {sl1 : Array (Option Value)} {oc1 kV1 dc1 pm1 cd1 ct1 : Value}
    (a1 : PySem.W.nsIn K mainGlobals "is_index" = some (some (.ref f1))) (l1 : K.lookup f1 = some ⟨oc1, od1, .func (PySem.W.fnOf "is_index" "is_index" (defArgs s_is_index) (defBody s_is_index) (defScope s_is_index) .none kV1 dc1 pm1 an1 cd1 ct1), sl1⟩) (c1 : PySem.W.codeIn K cd1 "is_index" = true) (k1 : PySem.W.keepIn K (.ref f1) = true)
    {f2 : Addr} {od2 an2 : Option Addr} {sl2 : Array (Option Value)} {oc2 kV2 dc2 pm2 cd2 ct2 : Value}
    (a2 : PySem.W.nsIn K mainGlobals "is_door" = some (some (.ref f2))) (l2 : K.lookup f2 = some ⟨oc2, od2, .func (PySem.W.fnOf "is_door" "is_door" (defArgs s_is_door) (defBody s_is_door) (defScope s_is_door) .none kV2 dc2 pm2 an2 cd2 ct2), sl2⟩) (c2 : PySem.W.codeIn K cd2 "is_door" = true) (k2 : PySem.W.keepIn K (.ref f2) = true)
    {f3 : Addr} {od3 an3 : Option Addr} {sl3 : Array (Option Value)} {oc3 kV3 dc3 pm3 cd3 ct3 : Value}
    (a3 : PySem.W.nsIn K mainGlobals "check_house" = some (some (.ref f3))) (l3 : K.lookup f3 = some ⟨oc3, od3, .func (PySem.W.fnOf "check_house" "check_house" (defArgs s_check_house) (defBody s_check_house) (defScope s_check_house) .none kV3 dc3 pm3 an3 cd3 ct3), sl3⟩) (c3 : PySem.W.codeIn K cd3 "check_house" = true) (k3 : PySem.W.keepIn K (.ref f3) = true)
    {f4 : Addr} {od4 an4 : Option Addr} {sl4 : Array (Option Value)} {oc4 kV4 dc4 pm4 cd4 ct4 : Value}
    (a4 : PySem.W.nsIn K mainGlobals "first_ring" = some (some (.ref f4))) (l4 : K.lookup f4 = some ⟨oc4, od4, .func (PySem.W.fnOf "first_ring" "first_ring" (defArgs s_first_ring) (defBody s_first_ring) (defScope s_first_ring) .none kV4 dc4 pm4 an4 cd4 ct4), sl4⟩) (c4 : PySem.W.codeIn K cd4 "first_ring" = true) (k4 : PySem.W.keepIn K (.ref f4) = true)
    {f5 : Addr} {od5 an5 : Option Addr} {sl5 : Array (Option Value)} {oc5 kV5 dc5 pm5 cd5 ct5 : Value}
    (a5 : PySem.W.nsIn K mainGlobals "find_root" = some (some (.ref f5))) (l5 : K.lookup f5 = some ⟨oc5, od5, .func (PySem.W.fnOf "find_root" "find_root" (defArgs s_find_root) (defBody s_find_root) (defScope s_find_root) .none kV5 dc5 pm5 an5 cd5 ct5), sl5⟩) (c5 : PySem.W.codeIn K cd5 "find_root" = true) (k5 : PySem.W.keepIn K (.ref f5) = true)
    {f6 : Addr} {od6 an6 : Option Addr} {sl6 : Array (Option Value)} {oc6 kV6 dc6 pm6 cd6 ct6 : Value}
    (a6 : PySem.W.nsIn K mainGlobals "need_house" = some (some (.ref f6))) (l6 : K.lookup f6 = some ⟨oc6, od6, .func (PySem.W.fnOf "need_house" "need_house" (defArgs s_need_house) (defBody s_need_house) (defScope s_need_house) .none kV6 dc6 pm6 an6 cd6 ct6), sl6⟩) (c6 : PySem.W.codeIn K cd6 "need_house" = true) (k6 : PySem.W.keepIn K (.ref f6) = true)
    {f7 : Addr} {od7 an7 : Option Addr} {sl7 : Array (Option Value)} {oc7 kV7 dc7 pm7 cd7 ct7 : Value}
    (a7 : PySem.W.nsIn K mainGlobals "has_state_shape" = some (some (.ref f7))) (l7 : K.lookup f7 = some ⟨oc7, od7, .func (PySem.W.fnOf "has_state_shape" "has_state_shape" (defArgs s_has_state_shape) (defBody s_has_state_shape) (defScope s_has_state_shape) .none kV7 dc7 pm7 an7 cd7 ct7), sl7⟩) (c7 : PySem.W.codeIn K cd7 "has_state_shape" = true) (k7 : PySem.W.keepIn K (.ref f7) = true)
    {f8 : Addr} {od8 an8 : Option Addr} {sl8 : Array (Option Value)} {oc8 kV8 dc8 pm8 cd8 ct8 : Value}
    (a8 : PySem.W.nsIn K mainGlobals "check_state" = some (some (.ref f8))) (l8 : K.lookup f8 = some ⟨oc8, od8, .func (PySem.W.fnOf "check_state" "check_state" (defArgs s_check_state) (defBody s_check_state) (defScope s_check_state) .none kV8 dc8 pm8 an8 cd8 ct8), sl8⟩) (c8 : PySem.W.codeIn K cd8 "check_state" = true) (k8 : PySem.W.keepIn K (.ref f8) = true)
    {f9 : Addr} {od9 an9 : Option Addr} {sl9 : Array (Option Value)} {oc9 kV9 dc9 pm9 cd9 ct9 : Value}
    (a9 : PySem.W.nsIn K mainGlobals "need_state" = some (some (.ref f9))) (l9 : K.lookup f9 = some ⟨oc9, od9, .func (PySem.W.fnOf "need_state" "need_state" (defArgs s_need_state) (defBody s_need_state) (defScope s_need_state) .none kV9 dc9 pm9 an9 cd9 ct9), sl9⟩) (c9 : PySem.W.codeIn K cd9 "need_state" = true) (k9 : PySem.W.keepIn K (.ref f9) = true)
    {f10 : Addr} {od10 an10 : Option Addr} {sl10 : Array (Option Value)} {oc10 kV10 dc10 pm10 cd10 ct10 : Value}
    (a10 : PySem.W.nsIn K mainGlobals "replaced" = some (some (.ref f10))) (l10 : K.lookup f10 = some ⟨oc10, od10, .func (PySem.W.fnOf "replaced" "replaced" (defArgs s_replaced) (defBody s_replaced) (defScope s_replaced) .none kV10 dc10 pm10 an10 cd10 ct10), sl10⟩) (c10 : PySem.W.codeIn K cd10 "replaced" = true) (k10 : PySem.W.keepIn K (.ref f10) = true)
    {f11 : Addr} {od11 an11 : Option Addr} {sl11 : Array (Option Value)} {oc11 kV11 dc11 pm11 cd11 ct11 : Value}
    (a11 : PySem.W.nsIn K mainGlobals "group_marks" = some (some (.ref f11))) (l11 : K.lookup f11 = some ⟨oc11, od11, .func (PySem.W.fnOf "group_marks" "group_marks" (defArgs s_group_marks) (defBody s_group_marks) (defScope s_group_marks) .none kV11 dc11 pm11 an11 cd11 ct11), sl11⟩) (c11 : PySem.W.codeIn K cd11 "group_marks" = true) (k11 : PySem.W.keepIn K (.ref f11) = true)
    {f12 : Addr} {od12 an12 : Option Addr} {sl12 : Array (Option Value)} {oc12 kV12 dc12 pm12 cd12 ct12 : Value}
    (a12 : PySem.W.nsIn K mainGlobals "groups" = some (some (.ref f12))) (l12 : K.lookup f12 = some ⟨oc12, od12, .func (PySem.W.fnOf "groups" "groups" (defArgs s_groups) (defBody s_groups) (defScope s_groups) .none kV12 dc12 pm12 an12 cd12 ct12), sl12⟩) (c12 : PySem.W.codeIn K cd12 "groups" = true) (k12 : PySem.W.keepIn K (.ref f12) = true)
    {f13 : Addr} {od13 an13 : Option Addr} {sl13 : Array (Option Value)} {oc13 kV13 dc13 pm13 cd13 ct13 : Value}
    (a13 : PySem.W.nsIn K mainGlobals "explained_doors" = some (some (.ref f13))) (l13 : K.lookup f13 = some ⟨oc13, od13, .func (PySem.W.fnOf "explained_doors" "explained_doors" (defArgs s_explained_doors) (defBody s_explained_doors) (defScope s_explained_doors) .none kV13 dc13 pm13 an13 cd13 ct13), sl13⟩) (c13 : PySem.W.codeIn K cd13 "explained_doors" = true) (k13 : PySem.W.keepIn K (.ref f13) = true)
    {f14 : Addr} {od14 an14 : Option Addr} {sl14 : Array (Option Value)} {oc14 kV14 dc14 pm14 cd14 ct14 : Value}
    (a14 : PySem.W.nsIn K mainGlobals "last_moves" = some (some (.ref f14))) (l14 : K.lookup f14 = some ⟨oc14, od14, .func (PySem.W.fnOf "last_moves" "last_moves" (defArgs s_last_moves) (defBody s_last_moves) (defScope s_last_moves) .none kV14 dc14 pm14 an14 cd14 ct14), sl14⟩) (c14 : PySem.W.codeIn K cd14 "last_moves" = true) (k14 : PySem.W.keepIn K (.ref f14) = true)
    {f15 : Addr} {od15 an15 : Option Addr} {sl15 : Array (Option Value)} {oc15 kV15 dc15 pm15 cd15 ct15 : Value}
    (a15 : PySem.W.nsIn K mainGlobals "count_previous" = some (some (.ref f15))) (l15 : K.lookup f15 = some ⟨oc15, od15, .func (PySem.W.fnOf "count_previous" "count_previous" (defArgs s_count_previous) (defBody s_count_previous) (defScope s_count_previous) .none kV15 dc15 pm15 an15 cd15 ct15), sl15⟩) (c15 : PySem.W.codeIn K cd15 "count_previous" = true) (k15 : PySem.W.keepIn K (.ref f15) = true)
    {f16 : Addr} {od16 an16 : Option Addr} {sl16 : Array (Option Value)} {oc16 kV16 dc16 pm16 cd16 ct16 : Value}
    (a16 : PySem.W.nsIn K mainGlobals "state_before" = some (some (.ref f16))) (l16 : K.lookup f16 = some ⟨oc16, od16, .func (PySem.W.fnOf "state_before" "state_before" (defArgs s_state_before) (defBody s_state_before) (defScope s_state_before) .none kV16 dc16 pm16 an16 cd16 ct16), sl16⟩) (c16 : PySem.W.codeIn K cd16 "state_before" = true) (k16 : PySem.W.keepIn K (.ref f16) = true)
    {f17 : Addr} {od17 an17 : Option Addr} {sl17 : Array (Option Value)} {oc17 kV17 dc17 pm17 cd17 ct17 : Value}
    (a17 : PySem.W.nsIn K mainGlobals "previous_at" = some (some (.ref f17))) (l17 : K.lookup f17 = some ⟨oc17, od17, .func (PySem.W.fnOf "previous_at" "previous_at" (defArgs s_previous_at) (defBody s_previous_at) (defScope s_previous_at) .none kV17 dc17 pm17 an17 cd17 ct17), sl17⟩) (c17 : PySem.W.codeIn K cd17 "previous_at" = true) (k17 : PySem.W.keepIn K (.ref f17) = true)
    {f18 : Addr} {od18 an18 : Option Addr} {sl18 : Array (Option Value)} {oc18 kV18 dc18 pm18 cd18 ct18 : Value}
    (a18 : PySem.W.nsIn K mainGlobals "_law_cell" = some (some (.ref f18))) (l18 : K.lookup f18 = some ⟨oc18, od18, .func (PySem.W.fnOf "_law_cell" "_law_cell" (defArgs s_l_cell) (defBody s_l_cell) (defScope s_l_cell) .none kV18 dc18 pm18 an18 cd18 ct18), sl18⟩) (c18 : PySem.W.codeIn K cd18 "_law_cell" = true) (k18 : PySem.W.keepIn K (.ref f18) = true)
    {f19 : Addr} {od19 an19 : Option Addr} {sl19 : Array (Option Value)} {oc19 kV19 dc19 pm19 cd19 ct19 : Value}
    (a19 : PySem.W.nsIn K mainGlobals "_law_hash" = some (some (.ref f19))) (l19 : K.lookup f19 = some ⟨oc19, od19, .func (PySem.W.fnOf "_law_hash" "_law_hash" (defArgs s_l_hash) (defBody s_l_hash) (defScope s_l_hash) .none kV19 dc19 pm19 an19 cd19 ct19), sl19⟩) (c19 : PySem.W.codeIn K cd19 "_law_hash" = true) (k19 : PySem.W.keepIn K (.ref f19) = true)
    {f20 : Addr} {od20 an20 : Option Addr} {sl20 : Array (Option Value)} {oc20 kV20 dc20 pm20 cd20 ct20 : Value}
    (a20 : PySem.W.nsIn K mainGlobals "_law_generator" = some (some (.ref f20))) (l20 : K.lookup f20 = some ⟨oc20, od20, .func (PySem.W.fnOf "_law_generator" "_law_generator" (defArgs s_l_generator) (defBody s_l_generator) (defScope s_l_generator) .none kV20 dc20 pm20 an20 cd20 ct20), sl20⟩) (c20 : PySem.W.codeIn K cd20 "_law_generator" = true) (k20 : PySem.W.keepIn K (.ref f20) = true)
    {f21 : Addr} {od21 an21 : Option Addr} {sl21 : Array (Option Value)} {oc21 kV21 dc21 pm21 cd21 ct21 : Value}
    (a21 : PySem.W.nsIn K mainGlobals "_law_random" = some (some (.ref f21))) (l21 : K.lookup f21 = some ⟨oc21, od21, .func (PySem.W.fnOf "_law_random" "_law_random" (defArgs s_l_random) (defBody s_l_random) (defScope s_l_random) .none kV21 dc21 pm21 an21 cd21 ct21), sl21⟩) (c21 : PySem.W.codeIn K cd21 "_law_random" = true) (k21 : PySem.W.keepIn K (.ref f21) = true)
    {f22 : Addr} {od22 an22 : Option Addr} {sl22 : Array (Option Value)} {oc22 kV22 dc22 pm22 cd22 ct22 : Value}
    (a22 : PySem.W.nsIn K mainGlobals "_law_shuffled" = some (some (.ref f22))) (l22 : K.lookup f22 = some ⟨oc22, od22, .func (PySem.W.fnOf "_law_shuffled" "_law_shuffled" (defArgs s_l_shuffled) (defBody s_l_shuffled) (defScope s_l_shuffled) .none kV22 dc22 pm22 an22 cd22 ct22), sl22⟩) (c22 : PySem.W.codeIn K cd22 "_law_shuffled" = true) (k22 : PySem.W.keepIn K (.ref f22) = true)
    {f23 : Addr} {od23 an23 : Option Addr} {sl23 : Array (Option Value)} {oc23 kV23 dc23 pm23 cd23 ct23 : Value}
    (a23 : PySem.W.nsIn K mainGlobals "_law_random_house" = some (some (.ref f23))) (l23 : K.lookup f23 = some ⟨oc23, od23, .func (PySem.W.fnOf "_law_random_house" "_law_random_house" (defArgs s_l_random_house) (defBody s_l_random_house) (defScope s_l_random_house) .none kV23 dc23 pm23 an23 cd23 ct23), sl23⟩) (c23 : PySem.W.codeIn K cd23 "_law_random_house" = true) (k23 : PySem.W.keepIn K (.ref f23) = true)
    {f26 : Addr} {od26 an26 : Option Addr} {sl26 : Array (Option Value)} {oc26 kV26 dc26 pm26 cd26 ct26 : Value}
    (a26 : PySem.W.nsIn K mainGlobals "_law_moves" = some (some (.ref f26))) (l26 : K.lookup f26 = some ⟨oc26, od26, .func (PySem.W.fnOf "_law_moves" "_law_moves" (defArgs s_l_moves) (defBody s_l_moves) (defScope s_l_moves) .none kV26 dc26 pm26 an26 cd26 ct26), sl26⟩) (c26 : PySem.W.codeIn K cd26 "_law_moves" = true) (k26 : PySem.W.keepIn K (.ref f26) = true)
    {f27 : Addr} {od27 an27 : Option Addr} {sl27 : Array (Option Value)} {oc27 kV27 dc27 pm27 cd27 ct27 : Value}
    (a27 : PySem.W.nsIn K mainGlobals "_law_after_move" = some (some (.ref f27))) (l27 : K.lookup f27 = some ⟨oc27, od27, .func (PySem.W.fnOf "_law_after_move" "_law_after_move" (defArgs s_l_after_move) (defBody s_l_after_move) (defScope s_l_after_move) .none kV27 dc27 pm27 an27 cd27 ct27), sl27⟩) (c27 : PySem.W.codeIn K cd27 "_law_after_move" = true) (k27 : PySem.W.keepIn K (.ref f27) = true)
    {f29 : Addr} {od29 an29 : Option Addr} {sl29 : Array (Option Value)} {oc29 kV29 dc29 pm29 cd29 ct29 : Value}
    (a29 : PySem.W.nsIn K mainGlobals "_law_all_states" = some (some (.ref f29))) (l29 : K.lookup f29 = some ⟨oc29, od29, .func (PySem.W.fnOf "_law_all_states" "_law_all_states" (defArgs s_l_all_states) (defBody s_l_all_states) (defScope s_l_all_states) .none kV29 dc29 pm29 an29 cd29 ct29), sl29⟩) (c29 : PySem.W.codeIn K cd29 "_law_all_states" = true) (k29 : PySem.W.keepIn K (.ref f29) = true)
    {f30 : Addr} {od30 an30 : Option Addr} {sl30 : Array (Option Value)} {oc30 kV30 dc30 pm30 cd30 ct30 : Value}
    (a30 : PySem.W.nsIn K mainGlobals "_law_used_doors" = some (some (.ref f30))) (l30 : K.lookup f30 = some ⟨oc30, od30, .func (PySem.W.fnOf "_law_used_doors" "_law_used_doors" (defArgs s_l_used_doors) (defBody s_l_used_doors) (defScope s_l_used_doors) .none kV30 dc30 pm30 an30 cd30 ct30), sl30⟩) (c30 : PySem.W.codeIn K cd30 "_law_used_doors" = true) (k30 : PySem.W.keepIn K (.ref f30) = true)
    {f31 : Addr} {od31 an31 : Option Addr} {sl31 : Array (Option Value)} {oc31 kV31 dc31 pm31 cd31 ct31 : Value}
    (a31 : PySem.W.nsIn K mainGlobals "_law_holds" = some (some (.ref f31))) (l31 : K.lookup f31 = some ⟨oc31, od31, .func (PySem.W.fnOf "_law_holds" "_law_holds" (defArgs s_l_holds) (defBody s_l_holds) (defScope s_l_holds) .none kV31 dc31 pm31 an31 cd31 ct31), sl31⟩) (c31 : PySem.W.codeIn K cd31 "_law_holds" = true) (k31 : PySem.W.keepIn K (.ref f31) = true)
    {f32 : Addr} {od32 an32 : Option Addr} {sl32 : Array (Option Value)} {oc32 kV32 dc32 pm32 cd32 ct32 : Value}
    (a32 : PySem.W.nsIn K mainGlobals "law" = some (some (.ref f32))) (l32 : K.lookup f32 = some ⟨oc32, od32, .func (PySem.W.fnOf "law" "law" (defArgs s_law) (defBody s_law) (defScope s_law) .none kV32 dc32 pm32 an32 cd32 ct32), sl32⟩) (c32 : PySem.W.codeIn K cd32 "law" = true) (k32 : PySem.W.keepIn K (.ref f32) = true)
    (z0 : PySem.W.nsIn K mainGlobals "len" = some none)
    (z1 : PySem.W.nsIn K mainGlobals "isinstance" = some none)
    (z2 : PySem.W.nsIn K mainGlobals "enumerate" = some none)
    (z3 : PySem.W.nsIn K mainGlobals "range" = some none)
    (z4 : PySem.W.nsIn K mainGlobals "list" = some none)
    (z5 : PySem.W.nsIn K mainGlobals "set" = some none)
    (z6 : PySem.W.nsIn K mainGlobals "sorted" = some none)
    (z7 : PySem.W.nsIn K mainGlobals "max" = some none)
    (z8 : PySem.W.nsIn K mainGlobals "min" = some none)
    (z9 : PySem.W.nsIn K mainGlobals "tuple" = some none)
    (z10 : PySem.W.nsIn K mainGlobals "int" = some none)
    (z11 : PySem.W.nsIn K mainGlobals "bool" = some none)
    (z12 : PySem.W.nsIn K mainGlobals "sum" = some none)
    (z13 : PySem.W.nsIn K mainGlobals "repr" = some none)
    (z14 : PySem.W.nsIn K mainGlobals "divmod" = some none)
    : ∃ fd : FuncData, (∀ (s : Shared) (v : Value), BindsTo s fd ⟨[v], []⟩ [("_law_script", v)]) ∧ ∀ base : Heap, K.In base → base.Ns mainGlobals mg → FnOk l.prog w K mg base CX0 11 fa fd ["_law_script"] (spLaw K) := by
  have e := hfa.symm.trans (PySem.W.mg_of X G a32)
  cases e
  have T : Bl mg := ⟨PySem.W.mg_none_of X G z0, PySem.W.mg_none_of X G z1, PySem.W.mg_none_of X G z2, PySem.W.mg_none_of X G z3, PySem.W.mg_none_of X G z4, PySem.W.mg_none_of X G z5, PySem.W.mg_none_of X G z6, PySem.W.mg_none_of X G z7, PySem.W.mg_none_of X G z8, PySem.W.mg_none_of X G z9, PySem.W.mg_none_of X G z10, PySem.W.mg_none_of X G z11, PySem.W.mg_none_of X G z12, PySem.W.mg_none_of X G z13, PySem.W.mg_none_of X G z14⟩
  have D_is_whole : Def K mg "is_whole" s_is_whole := def_mk X G a0 l0 c0 k0
  have D_is_index : Def K mg "is_index" s_is_index := def_mk X G a1 l1 c1 k1
  have D_is_door : Def K mg "is_door" s_is_door := def_mk X G a2 l2 c2 k2
  have D_check_house : Def K mg "check_house" s_check_house := def_mk X G a3 l3 c3 k3
  have D_first_ring : Def K mg "first_ring" s_first_ring := def_mk X G a4 l4 c4 k4
  have D_find_root : Def K mg "find_root" s_find_root := def_mk X G a5 l5 c5 k5
  have D_need_house : Def K mg "need_house" s_need_house := def_mk X G a6 l6 c6 k6
  have D_has_state_shape : Def K mg "has_state_shape" s_has_state_shape := def_mk X G a7 l7 c7 k7
  have D_check_state : Def K mg "check_state" s_check_state := def_mk X G a8 l8 c8 k8
  have D_need_state : Def K mg "need_state" s_need_state := def_mk X G a9 l9 c9 k9
  have D_replaced : Def K mg "replaced" s_replaced := def_mk X G a10 l10 c10 k10
  have D_group_marks : Def K mg "group_marks" s_group_marks := def_mk X G a11 l11 c11 k11
  have D_groups : Def K mg "groups" s_groups := def_mk X G a12 l12 c12 k12
  have D_explained_doors : Def K mg "explained_doors" s_explained_doors := def_mk X G a13 l13 c13 k13
  have D_last_moves : Def K mg "last_moves" s_last_moves := def_mk X G a14 l14 c14 k14
  have D_count_previous : Def K mg "count_previous" s_count_previous := def_mk X G a15 l15 c15 k15
  have D_state_before : Def K mg "state_before" s_state_before := def_mk X G a16 l16 c16 k16
  have D_previous_at : Def K mg "previous_at" s_previous_at := def_mk X G a17 l17 c17 k17
  have D_l_cell : Def K mg "_law_cell" s_l_cell := def_mk X G a18 l18 c18 k18
  have D_l_hash : Def K mg "_law_hash" s_l_hash := def_mk X G a19 l19 c19 k19
  have D_l_generator : Def K mg "_law_generator" s_l_generator := def_mk X G a20 l20 c20 k20
  have D_l_random : Def K mg "_law_random" s_l_random := def_mk X G a21 l21 c21 k21
  have D_l_shuffled : Def K mg "_law_shuffled" s_l_shuffled := def_mk X G a22 l22 c22 k22
  have D_l_random_house : Def K mg "_law_random_house" s_l_random_house := def_mk X G a23 l23 c23 k23
  have D_l_moves : Def K mg "_law_moves" s_l_moves := def_mk X G a26 l26 c26 k26
  have D_l_after_move : Def K mg "_law_after_move" s_l_after_move := def_mk X G a27 l27 c27 k27
  have D_l_all_states : Def K mg "_law_all_states" s_l_all_states := def_mk X G a29 l29 c29 k29
  have D_l_used_doors : Def K mg "_law_used_doors" s_l_used_doors := def_mk X G a30 l30 c30 k30
  have D_l_holds : Def K mg "_law_holds" s_l_holds := def_mk X G a31 l31 c31 k31
  refine ⟨PySem.W.fnOf "law" "law" (defArgs s_law) (defBody s_law) (defScope s_law) .none kV32 dc32 pm32 an32 cd32 ct32, fun s v => .of_eq rfl, fun base _ _ => ?_⟩
  have H_cell : Cal l.prog w K mg base "_law_cell" ["_law_script", "_law_index"] 1 (spCell K) := ok_cell T D_l_cell
  have H_generator : Cal l.prog w K mg base "_law_generator" ["_law_script", "_law_index"] 2 (spGen K) := ok_generator T D_l_generator H_cell
  have H_hash : Cal l.prog w K mg base "_law_hash" ["_law_seed", "_law_index"] 1 spHash := ok_hash T D_l_hash
  have H_random : Cal l.prog w K mg base "_law_random" ["_law_generator_here", "_law_bound"] 2 spRand := ok_random T D_l_random H_hash
  have H_shuffled : Cal l.prog w K mg base "_law_shuffled" ["_law_generator_here", "_law_items"] 3 (spShuf K) := ok_shuffled T D_l_shuffled H_random
  have H_random_house : Cal l.prog w K mg base "_law_random_house" ["_law_generator_here", "_law_size"] 4 (spHouse K) := ok_random_house T D_l_random_house H_random H_shuffled
  have H_l_all_states : Cal l.prog w K mg base "_law_all_states" ["_law_layout", "_law_count"] 1 (spAll K) := ok_l_all_states T D_l_all_states
  have H_moves : Cal l.prog w K mg base "_law_moves" ["_law_layout", "_law_situation"] 1 (spMoves K) := ok_moves T D_l_moves
  have H_after_move : Cal l.prog w K mg base "_law_after_move" ["_law_situation", "_law_move"] 1 (spAfter K) := ok_after_move T D_l_after_move
  have H_is_whole : Cal l.prog w K mg base "is_whole" ["value"] 1 spWhole := ok_is_whole T D_is_whole
  have H_is_index : Cal l.prog w K mg base "is_index" ["value", "count"] 2 spIndex := ok_is_index T D_is_index H_is_whole
  have H_is_door : Cal l.prog w K mg base "is_door" ["value", "count"] 3 (spDoor K) := ok_is_door T D_is_door H_is_index
  have H_find_root : Cal l.prog w K mg base "find_root" ["links", "room"] 1 spFind := ok_find_root T D_find_root
  have H_first_ring : Cal l.prog w K mg base "first_ring" ["doors"] 2 (spRing K) := ok_first_ring T D_first_ring H_find_root
  have H_check_house : Cal l.prog w K mg base "check_house" ["value"] 4 (spRing K) := ok_check_house T D_check_house H_is_door H_first_ring
  have H_need_house : Cal l.prog w K mg base "need_house" ["house"] 5 (spRing K) := ok_need_house T D_need_house H_check_house
  have H_has_state_shape : Cal l.prog w K mg base "has_state_shape" ["house", "value"] 1 (spShape K) := ok_has_state_shape T D_has_state_shape
  have H_check_state : Cal l.prog w K mg base "check_state" ["house", "value"] 6 (spSt K) := ok_check_state T D_check_state H_need_house H_has_state_shape H_is_index
  have H_need_state : Cal l.prog w K mg base "need_state" ["house", "state"] 7 (spSt K) := ok_need_state T D_need_state H_check_state
  have H_replaced : Cal l.prog w K mg base "replaced" ["values", "index", "value"] 1 (spRepl K) := ok_replaced T D_replaced
  have H_last_moves : Cal l.prog w K mg base "last_moves" ["house", "state"] 2 (spLast K) := ok_last_moves T D_last_moves H_replaced
  have H_count_previous : CalK l.prog w K mg base "count_previous" ["house", "state"] 8 (spCount K) ["state", "house"] rev2 rev2 := ok_count_previous T D_count_previous H_need_state H_last_moves
  have H_state_before : Cal l.prog w K mg base "state_before" ["state", "rooms", "door", "before"] 2 (spBefore K) := ok_state_before T D_state_before H_replaced
  have H_previous_at : CalK l.prog w K mg base "previous_at" ["house", "state", "index"] 9 (spPrevAt K) ["index", "state", "house"] rev3 rev3 := ok_previous_at T D_previous_at H_count_previous.cal H_is_index H_last_moves H_state_before
  have H_group_marks : Cal l.prog w K mg base "group_marks" ["house", "state"] 1 (spMarks K) := ok_group_marks T D_group_marks
  have H_explained_doors : CalK l.prog w K mg base "explained_doors" ["house", "state"] 8 (spExplained K) ["state", "house"] rev2 rev2 := ok_explained_doors T D_explained_doors H_need_state H_group_marks
  have H_l_used_doors : Cal l.prog w K mg base "_law_used_doors" ["_law_before", "_law_target"] 1 (spUsed K l.prog w) := ok_l_used_doors T D_l_used_doors
  have H_groups : CalK l.prog w K mg base "groups" ["house", "state"] 8 (spGroups K) ["state", "house"] rev2 rev2 := ok_groups T D_groups H_need_state H_group_marks
  have H_l_holds : Cal l.prog w K mg base "_law_holds" ["_law_layout", "_law_before", "_law_target"] 10 (spHoldN K l.prog w) := ok_l_holds T D_l_holds H_count_previous.cal H_previous_at.cal H_explained_doors.cal H_l_used_doors H_groups.cal
  exact ok_law T (fun_mk (st := s_law) l32 c32 k32) H_generator H_random H_random_house H_l_all_states H_moves H_after_move H_l_holds
end K5

open PySem PySem.W PyProof.Rows
set_option maxHeartbeats 0 in
theorem PySem.Challenge.cw_lastthrough_k28_origins_against_all_stat_holds : PySem.Challenge.rw_lastthrough_k28_origins_against_all_stat.Holds := by
  w_on; o_law; k_head; (case hw => w_witness2)
  k_fill
  refine L2.walk_of (l := PySem.Challenge.rw_lastthrough_k28_origins_against_all_stat) (n := 63) (k := 11) (x := "_law_script") (CX := fun _ => L2.CX0) (sp := fun w => K5.spLaw _) rfl (by decide) rfl ⟨rfl, by decide, by decide⟩ (fun w h Y => PySem.W.kIn_of Y) ?F (fun _ _ a ns hl _ hS => ⟨a, ns, rfl, hS, hl, fun _ => rfl⟩) (fun _ _ _ _ _ h => h)
  case F =>
    intro w mg fa h KX G hmg
    refine' K5.all_mk KX G hmg ?a0 ?l0 ?c0 ?k0 ?a1 ?l1 ?c1 ?k1 ?a2 ?l2 ?c2 ?k2 ?a3 ?l3 ?c3 ?k3 ?a4 ?l4 ?c4 ?k4 ?a5 ?l5 ?c5 ?k5 ?a6 ?l6 ?c6 ?k6 ?a7 ?l7 ?c7 ?k7 ?a8 ?l8 ?c8 ?k8 ?a9 ?l9 ?c9 ?k9 ?a10 ?l10 ?c10 ?k10 ?a11 ?l11 ?c11 ?k11 ?a12 ?l12 ?c12 ?k12 ?a13 ?l13 ?c13 ?k13 ?a14 ?l14 ?c14 ?k14 ?a15 ?l15 ?c15 ?k15 ?a16 ?l16 ?c16 ?k16 ?a17 ?l17 ?c17 ?k17 ?a18 ?l18 ?c18 ?k18 ?a19 ?l19 ?c19 ?k19 ?a20 ?l20 ?c20 ?k20 ?a21 ?l21 ?c21 ?k21 ?a22 ?l22 ?c22 ?k22 ?a23 ?l23 ?c23 ?k23 ?a26 ?l26 ?c26 ?k26 ?a27 ?l27 ?c27 ?k27 ?a29 ?l29 ?c29 ?k29 ?a30 ?l30 ?c30 ?k30 ?a31 ?l31 ?c31 ?k31 ?a32 ?l32 ?c32 ?k32 ?z0 ?z1 ?z2 ?z3 ?z4 ?z5 ?z6 ?z7 ?z8 ?z9 ?z10 ?z11 ?z12 ?z13 ?z14
    (case a0 => k_is)
    (case l0 => k_is)
    (case c0 => k_is)
    (case k0 => k_is)
    (case a1 => k_is)
    (case l1 => k_is)
    (case c1 => k_is)
    (case k1 => k_is)
    (case a2 => k_is)
    (case l2 => k_is)
    (case c2 => k_is)
    (case k2 => k_is)
    (case a3 => k_is)
    (case l3 => k_is)
    (case c3 => k_is)
    (case k3 => k_is)
    (case a4 => k_is)
    (case l4 => k_is)
    (case c4 => k_is)
    (case k4 => k_is)
    (case a5 => k_is)
    (case l5 => k_is)
    (case c5 => k_is)
    (case k5 => k_is)
    (case a6 => k_is)
    (case l6 => k_is)
    (case c6 => k_is)
    (case k6 => k_is)
    (case a7 => k_is)
    (case l7 => k_is)
    (case c7 => k_is)
    (case k7 => k_is)
    (case a8 => k_is)
    (case l8 => k_is)
    (case c8 => k_is)
    (case k8 => k_is)
    (case a9 => k_is)
    (case l9 => k_is)
    (case c9 => k_is)
    (case k9 => k_is)
    (case a10 => k_is)
    (case l10 => k_is)
    (case c10 => k_is)
    (case k10 => k_is)
    (case a11 => k_is)
    (case l11 => k_is)
    (case c11 => k_is)
    (case k11 => k_is)
    (case a12 => k_is)
    (case l12 => k_is)
    (case c12 => k_is)
    (case k12 => k_is)
    (case a13 => k_is)
    (case l13 => k_is)
    (case c13 => k_is)
    (case k13 => k_is)
    (case a14 => k_is)
    (case l14 => k_is)
    (case c14 => k_is)
    (case k14 => k_is)
    (case a15 => k_is)
    (case l15 => k_is)
    (case c15 => k_is)
    (case k15 => k_is)
    (case a16 => k_is)
    (case l16 => k_is)
    (case c16 => k_is)
    (case k16 => k_is)
    (case a17 => k_is)
    (case l17 => k_is)
    (case c17 => k_is)
    (case k17 => k_is)
    (case a18 => k_is)
    (case l18 => k_is)
    (case c18 => k_is)
    (case k18 => k_is)
    (case a19 => k_is)
    (case l19 => k_is)
    (case c19 => k_is)
    (case k19 => k_is)
    (case a20 => k_is)
    (case l20 => k_is)
    (case c20 => k_is)
    (case k20 => k_is)
    (case a21 => k_is)
    (case l21 => k_is)
    (case c21 => k_is)
    (case k21 => k_is)
    (case a22 => k_is)
    (case l22 => k_is)
    (case c22 => k_is)
    (case k22 => k_is)
    (case a23 => k_is)
    (case l23 => k_is)
    (case c23 => k_is)
    (case k23 => k_is)
    (case a26 => k_is)
    (case l26 => k_is)
    (case c26 => k_is)
    (case k26 => k_is)
    (case a27 => k_is)
    (case l27 => k_is)
    (case c27 => k_is)
    (case k27 => k_is)
    (case a29 => k_is)
    (case l29 => k_is)
    (case c29 => k_is)
    (case k29 => k_is)
    (case a30 => k_is)
    (case l30 => k_is)
    (case c30 => k_is)
    (case k30 => k_is)
    (case a31 => k_is)
    (case l31 => k_is)
    (case c31 => k_is)
    (case k31 => k_is)
    (case a32 => k_is)
    (case l32 => k_is)
    (case c32 => k_is)
    (case k32 => k_is)
    (case z0 => k_is)
    (case z1 => k_is)
    (case z2 => k_is)
    (case z3 => k_is)
    (case z4 => k_is)
    (case z5 => k_is)
    (case z6 => k_is)
    (case z7 => k_is)
    (case z8 => k_is)
    (case z9 => k_is)
    (case z10 => k_is)
    (case z11 => k_is)
    (case z12 => k_is)
    (case z13 => k_is)
    (case z14 => k_is)

