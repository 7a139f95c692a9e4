import PyProof.Rows.All
import Wide.All
import OpenK.AllK
import Wide.FinOn
import HandS.ForMost
import HandS.Walk
import HandS.IsInst
import HandS.Conv
import HandS.Strs
import HandS.Style
import HandS.Sort
import HandS.SortRule
import HandS.Wide
import HandS.WideBits
import HandS.TupAny
import KE.GoesMore
import KE.GoesEnum
import KE.GoesNew
import HandS.ForExc
import HandS.ExcInit
import HandS.ExcField
import HandS.ExcIs
import HandS.TupSets
import HandS.Evl
import HandS.Ends
import HandS.RaiseMore
import PyProof.ReprReads
import HandS.Flow
import PyProof.SumAny
import PyProof.ListOps
import PyProof.Commute
import PyProof.FactsAll.subtypes_4
import PySem.Challenge.RW_lastthrough_k20_regions_and_walks
set_option Elab.async false
set_option linter.all false
set_option maxRecDepth 100000
set_option maxHeartbeats 4000000
/-! trees: the mathematics -/
namespace K5
/-- doors es, each (parent, child), children all different; a bridge each; all connected -/
structure Tr0 (n : Nat) (es : List (Nat × Nat)) : Prop where
  len : es.length + 1 = n
  lt : ∀ e ∈ es, e.1 < n ∧ e.2 < n
  nd : (es.map Prod.snd).Nodup
  side : ∃ side : Nat → Nat → Bool, (∀ e ∈ es, side e.2 e.1 ≠ side e.2 e.2) ∧ ∀ e ∈ es, ∀ f ∈ es, e.2 ≠ f.2 → side e.2 f.1 = side e.2 f.2
  conn : ∀ S : Nat → Prop, (∀ e ∈ es, S e.1 ↔ S e.2) → ∀ x y, x < n → y < n → S x → S y
theorem Tr0.one : Tr0 1 [] where
  len := rfl
  lt := fun _ h => nomatch h
  nd := List.nodup_nil
  side := ⟨fun _ _ => true, fun _ h => (nomatch h), fun _ h => (nomatch h)⟩
  conn := fun S _ x y hx hy h => (show x = y by omega) ▸ h
theorem Tr0.grow {n : Nat} {es : List (Nat × Nat)} (T : Tr0 n es) (o : Nat) (ho : o < n) : Tr0 (n + 1) (es ++ [(o, n)]) := by
  obtain ⟨len, lt, nd, ⟨side, s1, s2⟩, conn⟩ := T
  have hn : ∀ e ∈ es, e.2 ≠ n := fun e h => by have := (lt e h).2; omega
  have hn1 : ∀ e ∈ es, e.1 ≠ n := fun e h => by have := (lt e h).1; omega
  refine ⟨by simp; omega, fun e h => ?_, ?_, ⟨fun c x => if c = n then decide (x = n) else if x = n then side c o else side c x, fun e h => ?_, fun e h f hf hne => ?_⟩, fun S hS x y hx hy h => ?_⟩
  · rcases List.mem_append.mp h with h | h
    · have := lt e h; omega
    · rw [List.mem_singleton.mp h]; exact ⟨Nat.lt_succ_of_lt ho, Nat.lt_succ_self _⟩
  · rw [List.map_append]
    refine List.nodup_append.mpr ⟨nd, by simp, fun a ha b hb => ?_⟩
    obtain ⟨e, he, rfl⟩ := List.mem_map.mp ha
    simp at hb
    rw [hb]
    exact hn e he
  · rcases List.mem_append.mp h with h | h
    · simp only [if_neg (hn e h), if_neg (hn1 e h)]
      exact s1 e h
    · rw [List.mem_singleton.mp h]
      simp only [if_pos rfl]
      rw [decide_eq_false (show ¬ o = n by omega)]
      simp
  · rcases List.mem_append.mp h with h | h
    · simp only [if_neg (hn e h)]
      rcases List.mem_append.mp hf with hf | hf
      · simp only [if_neg (hn f hf), if_neg (hn1 f hf)]
        exact s2 e h f hf hne
      · rw [List.mem_singleton.mp hf]
        simp only [if_neg (show ¬ o = n by omega), if_true]
    · rcases List.mem_append.mp hf with hf | hf
      · rw [List.mem_singleton.mp h]
        simp only [if_true]
        rw [decide_eq_false (hn f hf), decide_eq_false (hn1 f hf)]
      · rw [List.mem_singleton.mp h, List.mem_singleton.mp hf] at hne
        exact absurd rfl hne
  · have h0 : ∀ e ∈ es, S e.1 ↔ S e.2 := fun e he => hS e (List.mem_append.mpr (.inl he))
    have h1 : S o ↔ S n := hS (o, n) (List.mem_append.mpr (.inr (List.mem_singleton.mpr rfl)))
    by_cases ex : x = n
    · subst ex
      have so : S o := h1.mpr h
      by_cases ey : y = x
      · exact ey ▸ h
      · exact conn S h0 o y ho (by omega) so
    · have sx : S o := conn S h0 x o (by omega) ho h
      by_cases ey : y = n
      · exact ey ▸ h1.mp sx
      · exact conn S h0 x y (by omega) (by omega) h
theorem Tr0.perm {n : Nat} {es fs : List (Nat × Nat)} (T : Tr0 n es) (p : fs.Perm es) : Tr0 n fs := by
  obtain ⟨len, lt, nd, ⟨side, s1, s2⟩, conn⟩ := T
  exact ⟨by rw [p.length_eq]; exact len, fun e h => lt e (p.mem_iff.mp h), (p.map Prod.snd).nodup_iff.mpr nd,
    ⟨side, fun e h => s1 e (p.mem_iff.mp h), fun e h f hf => s2 e (p.mem_iff.mp h) f (p.mem_iff.mp hf)⟩,
    fun S hS => conn S fun e h => hS e (p.mem_iff.mpr h)⟩
/-- renamed by a list of names that is a rearrangement of 0 .. n - 1 -/
theorem Tr0.names {n : Nat} {es : List (Nat × Nat)} (T : Tr0 n es) (f g : Nat → Nat) (h1 : ∀ x, x < n → f x < n) (h2 : ∀ x, x < n → g (f x) = x) (h3 : ∀ y, y < n → g y < n ∧ f (g y) = y) :
    Tr0 n (es.map fun e => (f e.1, f e.2)) := by
  obtain ⟨len, lt, nd, ⟨side, s1, s2⟩, conn⟩ := T
  refine ⟨by rw [List.length_map]; exact len, fun e h => ?_, ?_, ⟨fun c x => side (g c) (g x), fun e h => ?_, fun e h e' h' hne => ?_⟩, fun S hS x y hx hy h => ?_⟩
  · obtain ⟨a, ha, rfl⟩ := List.mem_map.mp h
    exact ⟨h1 _ (lt a ha).1, h1 _ (lt a ha).2⟩
  · rw [List.map_map]
    have q : ∀ l : List (Nat × Nat), (∀ e ∈ l, e.2 < n) → (l.map Prod.snd).Nodup → (l.map (Prod.snd ∘ fun e => (f e.1, f e.2))).Nodup := by
      intro l
      induction l with
      | nil => intro _ _; exact List.nodup_nil
      | cons a r ih =>
        intro hl hd
        rw [List.map_cons] at hd ⊢
        obtain ⟨d1, d2⟩ := List.nodup_cons.mp hd
        refine List.nodup_cons.mpr ⟨fun m => d1 ?_, ih (fun e he => hl e (List.mem_cons_of_mem _ he)) d2⟩
        obtain ⟨b, hb, e⟩ := List.mem_map.mp m
        have e' : f b.2 = f a.2 := e
        have : b.2 = a.2 := by rw [← h2 b.2 (hl b (List.mem_cons_of_mem _ hb)), e', h2 a.2 (hl a List.mem_cons_self)]
        exact List.mem_map.mpr ⟨b, hb, this⟩
    exact q es (fun e he => (lt e he).2) nd
  · obtain ⟨a, ha, rfl⟩ := List.mem_map.mp h
    show side (g (f a.2)) (g (f a.1)) ≠ side (g (f a.2)) (g (f a.2))
    rw [h2 _ (lt a ha).1, h2 _ (lt a ha).2]
    exact s1 a ha
  · obtain ⟨a, ha, rfl⟩ := List.mem_map.mp h
    obtain ⟨b, hb, rfl⟩ := List.mem_map.mp h'
    show side (g (f a.2)) (g (f b.1)) = side (g (f a.2)) (g (f b.2))
    rw [h2 _ (lt a ha).2, h2 _ (lt b hb).1, h2 _ (lt b hb).2]
    exact s2 a ha b hb fun e => hne (by show f a.2 = f b.2; rw [e])
  · have q := conn (fun z => S (f z)) (fun e he => hS _ (List.mem_map.mpr ⟨e, he, rfl⟩)) (g x) (g y) (h3 x hx).1 (h3 y hy).1 (by show S (f (g x)); rw [(h3 x hx).2]; exact h)
    have q' : S (f (g y)) := q
    rw [(h3 y hy).2] at q'
    exact q'

/-- a house of n rooms that is a tree, its doors by their numbers, the ends in either order -/
structure Tree (n : Nat) (ds : List (Nat × Nat)) : Prop where
  len : ds.length + 1 = n
  lt : ∀ e ∈ ds, e.1 < n ∧ e.2 < n
  side : ∃ side : Nat → Nat → Bool, (∀ d e, ds[d]? = some e → side d e.1 ≠ side d e.2) ∧ ∀ c d e, ds[d]? = some e → c ≠ d → side c e.1 = side c e.2
  conn : ∀ S : Nat → Prop, (∀ e ∈ ds, S e.1 ↔ S e.2) → ∀ x y, x < n → y < n → S x → S y
/-- pointwise the same up to the order of the ends -/
inductive Flip : List (Nat × Nat) → List (Nat × Nat) → Prop
  | nil : Flip [] []
  | same {e es fs} (h : Flip es fs) : Flip (e :: es) (e :: fs)
  | turn {a b es fs} (h : Flip es fs) : Flip ((a, b) :: es) ((b, a) :: fs)
theorem Flip.len : ∀ {es fs}, Flip es fs → es.length = fs.length
  | _, _, .nil => rfl
  | _, _, .same h => by rw [List.length_cons, List.length_cons, h.len]
  | _, _, .turn h => by rw [List.length_cons, List.length_cons, h.len]
theorem Flip.get : ∀ {es fs}, Flip es fs → ∀ {d : Nat} {f : Nat × Nat}, fs[d]? = some f → ∃ e, es[d]? = some e ∧ (f = e ∨ f = (e.2, e.1))
  | _, _, .nil, d, f, h => by simp at h
  | _, _, .same h, 0, f, e => ⟨_, rfl, .inl (Option.some.inj e).symm⟩
  | _, _, .turn h, 0, f, e => ⟨_, rfl, .inr (Option.some.inj e).symm⟩
  | _, _, .same h, d + 1, f, e => h.get (d := d) e
  | _, _, .turn h, d + 1, f, e => h.get (d := d) e
theorem Flip.get' : ∀ {es fs}, Flip es fs → ∀ {d : Nat} {e : Nat × Nat}, es[d]? = some e → ∃ f, fs[d]? = some f ∧ (f = e ∨ f = (e.2, e.1))
  | _, _, .nil, d, f, h => by simp at h
  | _, _, .same h, 0, f, e => ⟨_, rfl, .inl (Option.some.inj e)⟩
  | _, _, .turn h, 0, f, e => ⟨_, rfl, .inr (by rw [← Option.some.inj e])⟩
  | _, _, .same h, d + 1, f, e => h.get' (d := d) e
  | _, _, .turn h, d + 1, f, e => h.get' (d := d) e
theorem Flip.snoc : ∀ {es fs} (e : Nat × Nat), Flip es fs → Flip (es ++ [e]) (fs ++ [e])
  | _, _, _, .nil => .same .nil
  | _, _, e, .same h => .same (h.snoc e)
  | _, _, e, .turn h => .turn (h.snoc e)
theorem Flip.snocT : ∀ {es fs} (a b : Nat), Flip es fs → Flip (es ++ [(a, b)]) (fs ++ [(b, a)])
  | _, _, _, _, .nil => .turn .nil
  | _, _, a, b, .same h => .same (h.snocT a b)
  | _, _, a, b, .turn h => .turn (h.snocT a b)
theorem Flip.refl : ∀ es, Flip es es
  | [] => .nil
  | _ :: r => .same (Flip.refl r)
theorem Tr0.tree {n : Nat} {es ds : List (Nat × Nat)} (T : Tr0 n es) (F : Flip es ds) : Tree n ds := by
  obtain ⟨len, lt, nd, ⟨side, s1, s2⟩, conn⟩ := T
  refine ⟨by rw [← F.len]; exact len, fun f h => ?_, ⟨fun d x => match es[d]? with | some e => side e.2 x | none => true, fun d f h => ?_, fun c d f h hne => ?_⟩, fun S hS => conn S fun e he => ?_⟩
  · obtain ⟨d, hd⟩ := List.mem_iff_getElem?.mp h
    obtain ⟨e, he, q⟩ := F.get hd
    have := lt e (List.mem_of_getElem? he)
    rcases q with q | q <;> subst q
    · exact this
    · exact ⟨this.2, this.1⟩
  · obtain ⟨e, he, q⟩ := F.get h
    have := s1 e (List.mem_of_getElem? he)
    simp only [he]
    rcases q with q | q <;> subst q
    · exact this
    · exact this.symm
  · obtain ⟨e, he, q⟩ := F.get h
    cases hc : es[c]? with
    | none => simp only [hc]
    | some e' =>
      simp only [hc]
      have hne2 : e'.2 ≠ e.2 := fun z => by
        apply hne
        obtain ⟨hd, hed⟩ := List.getElem?_eq_some_iff.mp he
        obtain ⟨hc', hec⟩ := List.getElem?_eq_some_iff.mp hc
        exact (List.getElem_inj (xs := es.map Prod.snd) (h₀ := by simpa using hc') (h₁ := by simpa using hd) nd).mp (by simp [hed, hec, z])
      have := s2 e' (List.mem_of_getElem? hc) e (List.mem_of_getElem? he) hne2
      rcases q with q | q <;> subst q
      · exact this
      · exact this.symm
  · obtain ⟨d, hd⟩ := List.mem_iff_getElem?.mp he
    obtain ⟨f, hf, q⟩ := F.get' hd
    have := hS f (List.mem_of_getElem? hf)
    rcases q with q | q <;> subst q
    · exact this
    · exact this.symm

/-- door d joins x and y -/
def Joins (ds : List (Nat × Nat)) (d x y : Nat) : Prop := ds[d]? = some (x, y) ∨ ds[d]? = some (y, x)
theorem Joins.symm {ds d x y} (j : Joins ds d x y) : Joins ds d y x := Or.symm j
theorem Joins.other {ds d x y z} (j : Joins ds d x y) (k : Joins ds d x z) (hxy : x ≠ y) : y = z := by
  rcases j with j | j <;> rcases k with k | k <;> rw [j] at k <;> cases k
  · rfl
  · exact absurd rfl hxy
  · exact absurd rfl hxy
  · rfl
/-- a way by the doors of the list -/
inductive Walk (ds : List (Nat × Nat)) : Nat → List Nat → Nat → Prop
  | nil (a) : Walk ds a [] a
  | cons {a c b d p} (j : Joins ds d a c) (w : Walk ds c p b) : Walk ds a (d :: p) b
theorem Walk.snoc {ds a p b d c} (w : Walk ds a p b) (j : Joins ds d b c) : Walk ds a (p ++ [d]) c := by
  induction w with
  | nil a => exact .cons j (.nil _)
  | cons j' w ih => exact .cons j' (ih j)
theorem Walk.app {ds a p b q c} (w : Walk ds a p b) (v : Walk ds b q c) : Walk ds a (p ++ q) c := by
  induction w with
  | nil a => exact v
  | cons j' w ih => exact .cons j' (ih v)
theorem Walk.rev {ds a p b} (w : Walk ds a p b) : Walk ds b p.reverse a := by
  induction w with
  | nil a => exact .nil _
  | cons j w ih =>
    rw [List.reverse_cons]
    exact ih.snoc j.symm
theorem Walk.split {ds} {e : Nat} : ∀ {a p b}, Walk ds a p b → e ∈ p → ∃ p1 p2 x y, p = p1 ++ e :: p2 ∧ Walk ds a p1 x ∧ Joins ds e x y ∧ Walk ds y p2 b
  | _, _, _, .nil a, h => by cases h
  | a, d :: p, b, .cons j w, h => by
    by_cases q : e = d
    · subst q
      exact ⟨[], p, a, _, rfl, .nil _, j, w⟩
    · have h' : e ∈ p := (List.mem_cons.mp h).resolve_left q
      obtain ⟨p1, p2, x, y, e1, w1, j1, w2⟩ := Walk.split w h'
      exact ⟨d :: p1, p2, x, y, by rw [e1]; rfl, .cons j w1, j1, w2⟩
section
variable {n : Nat} {ds : List (Nat × Nat)}
theorem side_join {side : Nat → Nat → Bool} (s1 : ∀ d e, ds[d]? = some e → side d e.1 ≠ side d e.2) {d x y : Nat} (j : Joins ds d x y) : side d x ≠ side d y := by
  rcases j with j | j
  · exact s1 _ _ j
  · exact (s1 _ _ j).symm
theorem side_other {side : Nat → Nat → Bool} (s2 : ∀ c d e, ds[d]? = some e → c ≠ d → side c e.1 = side c e.2) {c d x y : Nat} (j : Joins ds d x y) (h : c ≠ d) : side c x = side c y := by
  rcases j with j | j
  · exact s2 _ _ _ j h
  · exact (s2 _ _ _ j h).symm
theorem side_walk {side : Nat → Nat → Bool} (s2 : ∀ c d e, ds[d]? = some e → c ≠ d → side c e.1 = side c e.2) {c : Nat} : ∀ {a p b}, Walk ds a p b → c ∉ p → side c a = side c b
  | _, _, _, .nil a, _ => rfl
  | _, _, _, .cons j w, h => by
    rw [side_other s2 j fun e => h (by rw [e]; exact List.mem_cons_self)]
    exact side_walk s2 w fun m => h (List.mem_cons_of_mem _ m)
theorem side_use {side : Nat → Nat → Bool} (s1 : ∀ d e, ds[d]? = some e → side d e.1 ≠ side d e.2) (s2 : ∀ c d e, ds[d]? = some e → c ≠ d → side c e.1 = side c e.2) {c : Nat} {a p b} (w : Walk ds a p b) (nd : p.Nodup) (h : c ∈ p) : side c a ≠ side c b := by
  obtain ⟨p1, p2, x, y, rfl, w1, j, w2⟩ := w.split h
  obtain ⟨n1, n2, n3⟩ := List.nodup_append.mp nd
  have c1 : c ∉ p1 := fun m => n3 c m c List.mem_cons_self rfl
  have c2 : c ∉ p2 := (List.nodup_cons.mp n2).1
  rw [side_walk s2 w1 c1, ← side_walk s2 w2 c2]
  exact side_join s1 j
theorem way_unique (T : Tree n ds) : ∀ {p q a b}, Walk ds a p b → Walk ds a q b → p.Nodup → q.Nodup → p = q := by
  obtain ⟨side, s1, s2⟩ := T.side
  intro p
  induction p with
  | nil =>
    intro q a b w v np nq
    cases w
    cases v with
    | nil => rfl
    | cons j v => exact absurd rfl (side_use s1 s2 (.cons j v) nq List.mem_cons_self)
  | cons d p ih =>
    intro q a b w v np nq
    have hd := side_use s1 s2 w np List.mem_cons_self
    cases w with
    | @cons _ c _ _ _ j w =>
    cases v with
    | nil => exact absurd rfl hd
    | @cons _ c' _ e q j' v =>
      by_cases hde : d = e
      · subst hde
        have hac : a ≠ c := fun z => side_join s1 j (by rw [z])
        have := j.other j' hac
        subst this
        rw [ih w v (List.nodup_cons.mp np).2 (List.nodup_cons.mp nq).2]
      · exfalso
        have he := side_use s1 s2 (.cons j' v) nq List.mem_cons_self
        have hep : e ∈ p := by
          refine Classical.byContradiction fun hn => he ?_
          rw [side_other s2 j (Ne.symm hde)]
          exact side_walk s2 w hn
        obtain ⟨p1, p2, x, y, rfl, w1, j1, w2⟩ := w.split hep
        have n0 := List.nodup_cons.mp np
        obtain ⟨n1, n2, n3⟩ := List.nodup_append.mp n0.2
        have c1 : e ∉ p1 := fun m => n3 e m e List.mem_cons_self rfl
        have hx : side e x = side e a := by
          rw [← side_walk s2 w1 c1, ← side_other s2 j (Ne.symm hde)]
        have hxa : x = a := by
          rcases j1 with k | k <;> rcases j' with k' | k' <;> rw [k] at k' <;> cases k'
          · rfl
          · exact absurd hx.symm (s1 _ _ k).symm
          · exact absurd hx.symm (s1 _ _ k)
          · rfl
        subst hxa
        have c2 : d ∉ p1 := fun m => n0.1 (List.mem_append.mpr (.inl m))
        exact side_join s1 j (side_walk s2 w1 c2).symm
theorem way_uses (T : Tree n ds) {side : Nat → Nat → Bool} (s1 : ∀ d e, ds[d]? = some e → side d e.1 ≠ side d e.2) (s2 : ∀ c d e, ds[d]? = some e → c ≠ d → side c e.1 = side c e.2) {a p b d} (w : Walk ds a p b) (np : p.Nodup) : d ∈ p ↔ side d a ≠ side d b :=
  ⟨side_use s1 s2 w np, fun h => Classical.byContradiction fun hn => h (side_walk s2 w hn)⟩
theorem Joins.lt (T : Tree n ds) {d x y} (j : Joins ds d x y) : x < n ∧ y < n ∧ d + 1 < n ∧ x ≠ y := by
  obtain ⟨side, s1, s2⟩ := T.side
  have ne : x ≠ y := fun z => side_join s1 j (by rw [z])
  have hl := T.len
  rcases j with j | j
  · have := T.lt _ (List.mem_of_getElem? j)
    have h := (List.getElem?_eq_some_iff.mp j).1
    exact ⟨this.1, this.2, by omega, ne⟩
  · have := T.lt _ (List.mem_of_getElem? j)
    have h := (List.getElem?_eq_some_iff.mp j).1
    exact ⟨this.2, this.1, by omega, ne⟩
end
end K5

namespace K5
structure Uf (n : Nat) (L : List Nat) (rank : Nat → Nat) (R : Nat → Nat → Prop) : Prop where
  len : L.length = n
  at_ : ∀ x y, L[x]? = some y → y < n ∧ R x y ∧ (y ≠ x → rank y < rank x)
theorem get_lt {α : Type} {L : List α} {x : Nat} {y : α} (h : L[x]? = some y) : x < L.length := (List.getElem?_eq_some_iff.mp h).1
theorem get_set {α : Type} {L : List α} {x w : Nat} {z v : α} (h : (L.set x z)[w]? = some v) : (w = x ∧ v = z) ∨ (w ≠ x ∧ L[w]? = some v) := by
  rw [List.getElem?_set] at h
  by_cases e : x = w
  · rw [if_pos e] at h
    split at h
    · exact .inl ⟨e.symm, (Option.some.inj h).symm⟩
    · cases h
  · rw [if_neg e] at h
    exact .inr ⟨fun q => e q.symm, h⟩
theorem Uf.half {n L rank R} (u : Uf n L rank R) (tr : ∀ a b c, R a b → R b c → R a c) {x y z : Nat} (hx : L[x]? = some y) (hy : L[y]? = some z) : Uf n (L.set x z) rank R := by
  refine ⟨by rw [List.length_set]; exact u.len, fun w v h => ?_⟩
  rcases get_set h with ⟨rfl, rfl⟩ | ⟨_, h⟩
  · obtain ⟨a1, a2, a3⟩ := u.at_ _ _ hx
    obtain ⟨b1, b2, b3⟩ := u.at_ _ _ hy
    refine ⟨b1, tr _ _ _ a2 b2, fun ne => ?_⟩
    by_cases e : y = w
    · subst e
      rw [hx] at hy
      exact absurd (Option.some.inj hy).symm ne
    · have := a3 e
      by_cases e2 : v = y
      · subst e2; exact this
      · exact Nat.lt_trans (b3 e2) this
  · exact u.at_ _ _ h
theorem Uf.less {n L rank R} (u : Uf n L rank R) {x y z : Nat} (hx : L[x]? = some y) (hy : L[y]? = some z) (ne : y ≠ x) : rank z < rank x := by
  have h1 := (u.at_ _ _ hx).2.2 ne
  by_cases e : z = y
  · subst e; exact h1
  · exact Nat.lt_trans ((u.at_ _ _ hy).2.2 e) h1
theorem Uf.range (n : Nat) (R : Nat → Nat → Prop) (rf : ∀ a, R a a) : Uf n (List.range n) (fun _ => 0) R := by
  refine ⟨List.length_range, fun x y h => ?_⟩
  have hx : x < n := by simpa using get_lt h
  rw [List.getElem?_range hx] at h
  have e : x = y := Option.some.inj h
  subst e
  exact ⟨hx, rf _, fun z => absurd rfl z⟩
/-- alike for all doors from k on -/
def Rk (side : Nat → Nat → Bool) (k : Nat) (x y : Nat) : Prop := ∀ d, k ≤ d → side d x = side d y
theorem Rk.tr {side k} : ∀ a b c, Rk side k a b → Rk side k b c → Rk side k a c := fun a b c h1 h2 d hd => (h1 d hd).trans (h2 d hd)
theorem Rk.rf {side k} : ∀ a, Rk side k a a := fun a d _ => rfl
theorem Uf.union {n L rank side k} {ds : List (Nat × Nat)} (u : Uf n L rank (Rk side k)) (s1 : ∀ d e, ds[d]? = some e → side d e.1 ≠ side d e.2) (s2 : ∀ c d e, ds[d]? = some e → c ≠ d → side c e.1 = side c e.2)
    {x y ra rb : Nat} (hd : ds[k]? = some (x, y)) (ha : Rk side k x ra) (hb : Rk side k y rb) (hra : L[ra]? = some ra) (hrb : L[rb]? = some rb) :
    Uf n (L.set ra rb) (fun z => rank z + if side k z = side k x then rank rb + 1 else 0) (Rk side (k + 1)) := by
  refine ⟨by rw [List.length_set]; exact u.len, fun w v h => ?_⟩
  have hne : side k x ≠ side k y := s1 _ _ hd
  rcases get_set h with ⟨rfl, rfl⟩ | ⟨_, h⟩
  · refine ⟨(u.at_ _ _ hrb).1, fun d hd' => ?_, fun _ => ?_⟩
    · rw [← ha d (by omega), ← hb d (by omega)]
      exact s2 d k _ hd (by omega)
    · have e1 : side k w = side k x := (ha k (Nat.le_refl _)).symm
      have e2 : ¬ side k v = side k x := fun z => hne (z.symm.trans (hb k (Nat.le_refl _)).symm)
      simp only [e1, if_true, if_neg e2]
      omega
  · obtain ⟨b1, b2, b3⟩ := u.at_ _ _ h
    refine ⟨b1, fun d hd' => b2 d (by omega), fun ne => ?_⟩
    have := b3 ne
    have e : side k w = side k v := b2 k (Nat.le_refl _)
    rw [e]
    omega
theorem ring_no {side : Nat → Nat → Bool} {k} {ds : List (Nat × Nat)} (s1 : ∀ d e, ds[d]? = some e → side d e.1 ≠ side d e.2) {x y r : Nat} (hd : ds[k]? = some (x, y)) (ha : Rk side k x r) (hb : Rk side k y r) : False :=
  s1 _ _ hd ((ha k (Nat.le_refl _)).trans (hb k (Nat.le_refl _)).symm)
end K5

namespace K5
theorem nodup_le : ∀ (n : Nat) (l : List Nat), l.Nodup → (∀ x ∈ l, x < n) → l.length ≤ n
  | 0, [], _, _ => Nat.le_refl _
  | 0, a :: r, _, h => absurd (h a List.mem_cons_self) (Nat.not_lt_zero _)
  | n + 1, l, nd, h => by
    by_cases m : n ∈ l
    · have h1 := nodup_le n (l.erase n) (nd.erase n) fun x hx => by
        have q := (List.Nodup.mem_erase_iff nd).mp hx
        have := h x q.2
        have := q.1
        omega
      rw [List.length_erase_of_mem m] at h1
      have : 0 < l.length := List.length_pos_of_mem m
      omega
    · have h1 := nodup_le n l nd fun x hx => by
        have := h x hx
        have : x ≠ n := fun e => m (e ▸ hx)
        omega
      omega
/-- a search: kl the rooms found, ws those that wait -/
structure Dfs (n : Nat) (ds : List (Nat × Nat)) (shut kl ws : List Nat) : Prop where
  nd : kl.Nodup
  lt : ∀ x ∈ kl, x < n
  sub : ∀ x ∈ ws, x ∈ kl
  cl : ∀ x ∈ kl, x ∉ ws → ∀ d y, Joins ds d x y → d ∉ shut → y ∈ kl
structure DfsIn (n : Nat) (ds : List (Nat × Nat)) (shut kl ws : List Nat) (here : Nat) (don : List (Nat × Nat)) : Prop where
  nd : kl.Nodup
  lt : ∀ x ∈ kl, x < n
  sub : ∀ x ∈ ws, x ∈ kl
  cl : ∀ x ∈ kl, x ∉ ws → x ≠ here → ∀ d y, Joins ds d x y → d ∉ shut → y ∈ kl
  he : here ∈ kl
  dn : ∀ d y, (d, y) ∈ don → d ∉ shut → y ∈ kl
section
variable {n : Nat} {ds : List (Nat × Nat)} {shut kl ws : List Nat} {here : Nat} {don : List (Nat × Nat)}
theorem Dfs.start {x : Nat} (h : x < n) : Dfs n ds shut [x] [x] :=
  ⟨by simp, fun y hy => by rw [List.mem_singleton.mp hy]; exact h, fun y hy => hy, fun y hy hn => absurd hy hn⟩
theorem Dfs.pop (h : Dfs n ds shut kl (ws ++ [here])) : DfsIn n ds shut kl ws here [] :=
  ⟨h.nd, h.lt, fun x m => h.sub x (List.mem_append.mpr (.inl m)), fun x m nw ne d y j ns => h.cl x m (fun q => by
    rcases List.mem_append.mp q with q | q
    · exact nw q
    · exact ne (List.mem_singleton.mp q)) d y j ns, h.sub here (List.mem_append.mpr (.inr (List.mem_singleton.mpr rfl))), fun d y m => nomatch m⟩
theorem DfsIn.skip (h : DfsIn n ds shut kl ws here don) {d y : Nat} (q : d ∈ shut ∨ y ∈ kl) : DfsIn n ds shut kl ws here (don ++ [(d, y)]) :=
  ⟨h.nd, h.lt, h.sub, h.cl, h.he, fun d' y' m ns => by
    rcases List.mem_append.mp m with m | m
    · exact h.dn d' y' m ns
    · cases List.mem_singleton.mp m
      exact q.resolve_left ns⟩
theorem DfsIn.add (h : DfsIn n ds shut kl ws here don) {d y : Nat} (hy : y < n) (nk : y ∉ kl) : DfsIn n ds shut (kl ++ [y]) (ws ++ [y]) here (don ++ [(d, y)]) where
  nd := List.nodup_append.mpr ⟨h.nd, by simp, fun a ha b hb e => by
    rw [List.mem_singleton.mp hb] at e
    exact nk (e ▸ ha)⟩
  lt := fun x m => by
    rcases List.mem_append.mp m with m | m
    · exact h.lt x m
    · rw [List.mem_singleton.mp m]; exact hy
  sub := fun x m => by
    rcases List.mem_append.mp m with m | m
    · exact List.mem_append.mpr (.inl (h.sub x m))
    · exact List.mem_append.mpr (.inr m)
  cl := fun x m nw ne d' y' j ns => by
    rcases List.mem_append.mp m with m | m
    · exact List.mem_append.mpr (.inl (h.cl x m (fun q => nw (List.mem_append.mpr (.inl q))) ne d' y' j ns))
    · exact absurd (List.mem_append.mpr (.inr m)) nw
  he := List.mem_append.mpr (.inl h.he)
  dn := fun d' y' m ns => by
    rcases List.mem_append.mp m with m | m
    · exact List.mem_append.mpr (.inl (h.dn d' y' m ns))
    · cases List.mem_singleton.mp m
      exact List.mem_append.mpr (.inr (List.mem_singleton.mpr rfl))
theorem DfsIn.done (h : DfsIn n ds shut kl ws here don) (all : ∀ d y, Joins ds d here y → (d, y) ∈ don) : Dfs n ds shut kl ws :=
  ⟨h.nd, h.lt, h.sub, fun x m nw d y j ns => by
    by_cases e : x = here
    · subst e
      exact h.dn d y (all d y j) ns
    · exact h.cl x m nw e d y j ns⟩
theorem Dfs.le (h : Dfs n ds shut kl ws) : kl.length ≤ n := nodup_le n kl h.nd h.lt
theorem DfsIn.le (h : DfsIn n ds shut kl ws here don) : kl.length ≤ n := nodup_le n kl h.nd h.lt
/-- in the end: a closed set of rooms; without shut doors it is all -/
theorem Dfs.all (T : Tree n ds) (h : Dfs n ds [] kl []) {x : Nat} (hx : x ∈ kl) : ∀ y, y < n → y ∈ kl := by
  intro y hy
  refine T.conn (fun z => z ∈ kl) (fun e he => ?_) x y (h.lt x hx) hy hx
  obtain ⟨d, hd⟩ := List.mem_iff_getElem?.mp he
  exact ⟨fun m => h.cl _ m (by simp) d _ (.inl hd) (by simp), fun m => h.cl _ m (by simp) d _ (.inr hd) (by simp)⟩
theorem Dfs.walk (h : Dfs n ds shut kl []) : ∀ {x p y}, Walk ds x p y → (∀ d ∈ p, d ∉ shut) → x ∈ kl → y ∈ kl := by
  intro x p y w
  induction w with
  | nil a => intro _ m; exact m
  | cons j w ih => intro ns m; exact ih (fun d hd => ns d (List.mem_cons_of_mem _ hd)) (h.cl _ m (by simp) _ _ j (ns _ List.mem_cons_self))
end
/-- steps towards the beginning -/
structure Ptr (ds : List (Nat × Nat)) (shut : List Nat) (room : Nat) (ks : List (Nat × Option (Nat × Nat))) : Prop where
  st : ∀ x d y, (x, some (d, y)) ∈ ks → Joins ds d x y ∧ d ∉ shut ∧ y ∈ ks.map Prod.fst ∧ (ks.map Prod.fst).idxOf y < (ks.map Prod.fst).idxOf x
  fin : ∀ x, (x, none) ∈ ks → x = room
theorem Ptr.start {ds shut room} : Ptr ds shut room [(room, none)] :=
  ⟨fun x d y m => (by cases List.mem_singleton.mp m), fun x m => (by cases List.mem_singleton.mp m; rfl)⟩
theorem Ptr.add {ds shut room ks} (P : Ptr ds shut room ks) {x d y : Nat} (j : Joins ds d x y) (ns : d ∉ shut) (hy : y ∈ ks.map Prod.fst) (hx : x ∉ ks.map Prod.fst) : Ptr ds shut room (ks ++ [(x, some (d, y))]) := by
  refine ⟨fun x' d' y' m => ?_, fun x' m => ?_⟩
  · rw [List.map_append]
    rcases List.mem_append.mp m with m | m
    · obtain ⟨a, b, c, e⟩ := P.st x' d' y' m
      have hx' : x' ∈ ks.map Prod.fst := List.mem_map.mpr ⟨_, m, rfl⟩
      refine ⟨a, b, List.mem_append.mpr (.inl c), ?_⟩
      rw [List.idxOf_append, if_pos c, List.idxOf_append, if_pos hx']
      exact e
    · cases List.mem_singleton.mp m
      refine ⟨j, ns, List.mem_append.mpr (.inl hy), ?_⟩
      rw [List.idxOf_append, if_pos hy, List.idxOf_append, if_neg hx]
      have := List.idxOf_lt_length_iff.mpr hy
      omega
  · rcases List.mem_append.mp m with m | m
    · exact P.fin x' m
    · cases List.mem_singleton.mp m
/-- the way made so far from a to here along the steps -/
structure Made (ds : List (Nat × Nat)) (kl : List Nat) (a : Nat) (p : List Nat) (here : Nat) : Prop where
  w : Walk ds a p here
  nd : p.Nodup
  up : ∀ d ∈ p, ∀ x y, Joins ds d x y → kl.idxOf here ≤ kl.idxOf x ∧ kl.idxOf here ≤ kl.idxOf y
theorem Made.start {ds kl a} : Made ds kl a [] a := ⟨.nil _, List.nodup_nil, fun _ h => nomatch h⟩
theorem Made.step {ds shut room ks a p here d y} (T : ∃ n, Tree n ds) (M : Made ds (ks.map Prod.fst) a p here) (P : Ptr ds shut room ks) (h : (here, some (d, y)) ∈ ks) : Made ds (ks.map Prod.fst) a (p ++ [d]) y := by
  obtain ⟨j, ns, hy, lt⟩ := P.st here d y h
  refine ⟨M.w.snoc j, ?_, fun d' m x z k => ?_⟩
  · refine List.nodup_append.mpr ⟨M.nd, by simp, fun c hc b hb e => ?_⟩
    rw [List.mem_singleton.mp hb] at e
    subst e
    have := (M.up _ hc here y j).2
    omega
  · rcases List.mem_append.mp m with m | m
    · have := M.up d' m x z k
      omega
    · cases List.mem_singleton.mp m
      obtain ⟨n, T⟩ := T
      rcases j with j | j <;> rcases k with k | k <;> rw [j] at k <;> cases k
      · exact ⟨Nat.le_of_lt lt, Nat.le_refl _⟩
      · exact ⟨Nat.le_refl _, Nat.le_of_lt lt⟩
      · exact ⟨Nat.le_refl _, Nat.le_of_lt lt⟩
      · exact ⟨Nat.le_of_lt lt, Nat.le_refl _⟩
/-- the ways that the law makes: kl with the way to each -/
def Pth (ds : List (Nat × Nat)) (a : Nat) (ks : List (Nat × List Nat)) : Prop :=
  ∀ x p, (x, p) ∈ ks → Walk ds a p x ∧ p.Nodup ∧ ∀ d ∈ p, ∀ u v, Joins ds d u v → u ∈ ks.map Prod.fst ∧ v ∈ ks.map Prod.fst
theorem Pth.start {ds a} : Pth ds a [(a, [])] := fun x p m => by
  cases List.mem_singleton.mp m
  exact ⟨.nil _, List.nodup_nil, fun _ h => nomatch h⟩
theorem Pth.add {ds a ks x y p d} (P : Pth ds a ks) (h : (x, p) ∈ ks) (j : Joins ds d x y) (hy : y ∉ ks.map Prod.fst) : Pth ds a (ks ++ [(y, p ++ [d])]) := by
  intro x' p' m
  rw [List.map_append]
  rcases List.mem_append.mp m with m | m
  · obtain ⟨a, b, c⟩ := P x' p' m
    exact ⟨a, b, fun d hd u v k => ⟨List.mem_append.mpr (.inl (c d hd u v k).1), List.mem_append.mpr (.inl (c d hd u v k).2)⟩⟩
  · cases List.mem_singleton.mp m
    obtain ⟨a, b, c⟩ := P x p h
    have hx : x ∈ ks.map Prod.fst := List.mem_map.mpr ⟨_, h, rfl⟩
    refine ⟨a.snoc j, List.nodup_append.mpr ⟨b, by simp, fun c' hc b' hb e => ?_⟩, fun d' hd u v k => ?_⟩
    · rw [List.mem_singleton.mp hb] at e
      subst e
      exact hy (c _ hc x y j).2
    · rcases List.mem_append.mp hd with hd | hd
      · exact ⟨List.mem_append.mpr (.inl (c d' hd u v k).1), List.mem_append.mpr (.inl (c d' hd u v k).2)⟩
      · cases List.mem_singleton.mp hd
        have e1 := List.mem_append.mpr (.inl hx : x ∈ ks.map Prod.fst ∨ x ∈ [y])
        have e2 : y ∈ ks.map Prod.fst ++ [y] := List.mem_append.mpr (.inr (List.mem_singleton.mpr rfl))
        rcases j with j | j <;> rcases k with k | k <;> rw [j] at k <;> cases k
        · exact ⟨e1, e2⟩
        · exact ⟨e2, e1⟩
        · exact ⟨e2, e1⟩
        · exact ⟨e1, e2⟩
end K5

namespace K5
theorem perm_of_map {α β : Type} (f : α → β) : ∀ (l : List α) (ys : List β), ys.Perm (l.map f) → ∃ l' : List α, ys = l'.map f ∧ l'.Perm l
  | [], ys, h => ⟨[], h.eq_nil, List.Perm.refl _⟩
  | a :: r, ys, h => by
    have ha : f a ∈ ys := h.mem_iff.mpr List.mem_cons_self
    obtain ⟨s, t, rfl⟩ := List.append_of_mem ha
    have h2 : (s ++ t).Perm (r.map f) := (List.perm_middle.symm.trans h).cons_inv
    obtain ⟨r', e, p⟩ := perm_of_map f r _ h2
    refine ⟨r'.take s.length ++ a :: r'.drop s.length, ?_, ?_⟩
    · rw [List.map_append, List.map_cons, List.map_take, List.map_drop, ← e, List.take_left, List.drop_left]
    · have : (r'.take s.length ++ a :: r'.drop s.length).Perm (a :: r') := by
        have q := @List.perm_middle _ a (r'.take s.length) (r'.drop s.length)
        rw [List.take_append_drop] at q
        exact q
      exact this.trans (p.cons a)
theorem Tr0.nv {n : Nat} {es : List (Nat × Nat)} (T : Tr0 n es) {L : List Nat} (p : L.Perm (List.range n)) : Tr0 n (es.map fun e => (L.getD e.1 0, L.getD e.2 0)) := by
  have nd : L.Nodup := p.symm.nodup List.nodup_range
  have hl : L.length = n := by rw [p.length_eq, List.length_range]
  have hm : ∀ y, y ∈ L ↔ y < n := fun y => by rw [p.mem_iff, List.mem_range]
  have gd : ∀ x (h : x < n), L.getD x 0 = L[x]'(by omega) := fun x h => by
    rw [List.getD_eq_getElem?_getD, List.getElem?_eq_getElem (by omega)]
    rfl
  refine T.names (fun x => L.getD x 0) (fun y => L.idxOf y) (fun x h => ?_) (fun x h => ?_) (fun y h => ?_)
  · show L.getD x 0 < n
    rw [gd x h]
    exact (hm _).mp (List.getElem_mem _)
  · show L.idxOf (L.getD x 0) = x
    rw [gd x h]
    exact nd.idxOf_getElem x (by omega)
  · have hy := (hm y).mpr h
    have hi := List.idxOf_lt_length_iff.mpr hy
    refine ⟨by show L.idxOf y < n; omega, ?_⟩
    show L.getD (L.idxOf y) 0 = y
    rw [gd _ (by omega)]
    exact List.getElem_idxOf hi
end K5

/-! rules of our own: powers of any size, enumerate of a tuple, a pair turned by its step, a set made of a list of numbers -/
namespace L2
open PySem PySem.Spec PyProof.Rows
theorem op_powX {X : Cx} : OpR X (binaryOp .Pow) (rI (fun i j => 0 ≤ j ∧ (Builtin.Int.intBits i : Int) * j ≤ 2 ^ 27) fun i j => .int (i ^ j.toNat)) := opI fun _ _ _ _ _ _ _ hc q => pow_int hc.1 hc.2 q

/-! ### enumerate of a tuple: by what its iterator draws (GoesN) -/
def IteT (K : PySem.W.Frag) (a : Addr) : It where
  go i H := ∃ (xs : List V) (x : V), SqT K H a xs ∧ xs[i]? = some x
  yld i H v H' := ∃ T x, v = .ref T ∧ H T = none ∧ H' = upd H T (.tup [.int (i : Nat), x]) ∧ ∀ xs, SqT K H a xs → xs[i]? = some x
  stop i H := ∃ xs : List V, SqT K H a xs ∧ xs.length = i
/-- the three objects differ: their classes do -/
theorem enum_apart {h : Heap} {e it t : Addr} {i : Int} {old : Value} {j : Nat} {items : Array Value} (he : IsEnum h e it i old) (hi : h.IsTupleIter it t j) (ht : h.IsTuple t items) : e ∉ [it, t] ∧ t ≠ it := by
  obtain ⟨o, ho, hc, _⟩ := ht
  obtain ⟨oi, hoi, hci, _⟩ := hi
  have he' : h.get? e = some _ := he
  have n1 : e ≠ t := fun z => by
    rw [z, ho] at he'
    rw [← Option.some.inj he'.symm] at hc
    exact absurd (Value.type.inj hc) (by decide)
  have n2 : t ≠ it := fun z => by
    rw [z, hoi] at ho
    rw [← Option.some.inj ho, hci] at hc
    exact absurd (Value.type.inj hc) (by decide)
  have n3 : e ≠ it := fun z => by
    rw [z, hoi] at he'
    rw [← Option.some.inj he'.symm] at hci
    exact absurd (Value.type.inj hci) (by decide)
  exact ⟨by simp [n1, n3], n2⟩
/-- where the walk stands at its i-th turn -/
def EnT (a e it : Addr) (i : Nat) (h : Heap) : Prop := (∃ old, IsEnum h e it (0 + (i : Int)) old) ∧ h.IsTupleIter it a i ∧ e ≠ it
theorem EnT.lts {a e it : Addr} {i : Nat} {h : Heap} (st : EnT a e it i h) : ∀ b ∈ [e, it], b < h.objs.size := fun b hb => by
  obtain ⟨⟨old, he⟩, ⟨u, hu, _⟩, _⟩ := st
  rcases (List.mem_cons.mp hb : b = e ∨ b ∈ [it]) with z | z
  · exact z ▸ Heap.lt_size he
  · exact (List.mem_singleton.mp z) ▸ Heap.lt_size hu
theorem goesT {prog : Program} {w : World} {A : Around} {elts : List Expr} {kk : Nat} {tpos : Pos} (hh : A.handled = none) {a e it : Addr} {items : Array Value} (ne : e ≠ it) (ap : e ∉ [it, a] ∧ a ≠ it) :
    GoesN prog w A (.Tuple elts kk tpos) e [e, it, a] [e, it] items.size (fun i h0 v h => ∃ T t x, v = .ref T ∧ h0.objs.size ≤ T ∧ items[i]? = some x ∧ h.IsTuple T #[.int (0 + (i : Int)) t, x])
      (fun i h => (∃ old, IsEnum h e it (0 + (i : Int)) old) ∧ h.IsTupleIter it a i ∧ h.IsTuple a items) :=
  GoesN.enumFrom 0 (Draws.tuple (A := A.in1) hh it a ap.2 items) e ne ap.1 (by simp)
theorem turn_enumT {P : Program} {w : World} {K : PySem.W.Frag} {elts : List Expr} {kk : Nat} {tpos : Pos} (a e it : Addr) : Turn P w K (.Tuple elts kk tpos) (IteT K a) [e, it] e (EnT a e it) where
  mem := List.mem_cons_self
  obj := by
    rintro i h ⟨⟨old, he⟩, ⟨u, hu, _, hd⟩, _⟩ b hb
    rcases (List.mem_cons.mp hb : b = e ∨ b ∈ [it]) with rfl | m
    · exact ⟨_, he, by intro v z; cases z⟩
    · rw [List.mem_singleton.mp m]
      exact ⟨u, hu, by intro v z; rw [hd] at z; cases z⟩
  keep := by
    rintro i h h' ⟨⟨old, he⟩, ht, hn⟩ k
    exact ⟨⟨old, k _ List.mem_cons_self _ he⟩, ht.at (k it (List.mem_cons_of_mem _ (List.mem_singleton.mpr rfl))), hn⟩
  item := by
    rintro X rfl rfl rfl calm i pins s σ H E I hf st ⟨xs, x, hq, hx⟩
    have lts := st.lts
    obtain ⟨⟨old, he⟩, ht, hn⟩ := st
    obtain ⟨its, vals, tup, _⟩ := I.tuple hq
    obtain ⟨u, hu, ru⟩ := vals.get hx
    have hu' : its.toArray[i]? = some u := by
      rw [List.getElem?_toArray]
      exact hu
    have len : i < its.toArray.size := (Array.getElem?_eq_some_iff.mp hu').1
    refine (goesT (I.ok.hd calm) hn (enum_apart he ht tup)).goes i s _ _ len ⟨⟨old, he⟩, ht, tup⟩ fun v h' tk hY st' keep _ => ?_
    obtain ⟨T, t, y, rfl, nT, hy, hT⟩ := hY
    cases hu'.symm.trans hy
    have ok : ObjOk X.prog X.w (upd H T (.tup [.int (i : Nat), x])) h' T (.tup [.int (i : Nat), x]) :=
      ⟨by show 2 ≤ sizeLine; decide, [.int (0 + (i : Int)) t, u], .cons ⟨t, by rw [Int.zero_add]⟩ (.cons ru .nil), hT⟩
    refine ⟨.ref T, _, I.turnedNew keep hf nT ok, rfl, ⟨T, x, rfl, I.hok.fresh nT, rfl, fun ys hy => ?_⟩, ⟨st'.1, st'.2.1, hn⟩, fun b hb => ?_⟩
    · rw [I.tuple_inj hy hq]
      exact hx
    · rw [upd_ne (Nat.ne_of_lt (Nat.lt_of_lt_of_le (lts b hb) nT))]
      exact (hf b hb).1
  done := by
    rintro X rfl rfl rfl calm i pins s σ H E I hf ⟨⟨old, he⟩, ht, hn⟩ ⟨xs, hq, rfl⟩
    obtain ⟨its, vals, tup, _⟩ := I.tuple hq
    have sz : its.toArray.size = xs.length := by rw [List.size_toArray, vals.length]
    have g := goesT (prog := X.prog) (w := X.w) (elts := elts) (kk := kk) (tpos := tpos) (items := its.toArray) (I.ok.hd calm) hn (enum_apart he ht tup)
    refine g.stops s _ _ ⟨⟨old, by rw [sz]; exact he⟩, by rw [sz]; exact ht, tup⟩ fun h' tk keep _ => I.turnedL keep hf
  self := by
    rintro A i s Q E ⟨⟨old, he⟩, _⟩ q
    exact wpAny_pyIter_enum he q
/-- the object that enumerate makes over the iterator at i -/
abbrev enumOver (i : Addr) : Obj := { cls := .type "enumerate", data := .fields #[.none, .bool false, .ref i, rawInt 0, .none, .none] }
set_option maxHeartbeats 1200000 in
theorem enum_made {v : Value} {o : Obj} {C : Heap → Prop} (B : Begins v o C) : Meets (Builtin.«enumerate.__new__» ⟨[.type "enumerate", v], []⟩) (fun _ R s =>
    C s.heap ∧ R (.ok (.ret (.ref (s.heap.push o).objs.size))) { s with heap := (s.heap.push o).push (enumOver s.heap.objs.size) }) := by
  refine .of_wp fun prog w A R s ⟨c, h⟩ => ?_
  obtain ⟨hp, gs, dr, tk, os⟩ := s
  have sub := sub_enumerate
  have begun : ∀ {A' : Around} {E Q : Value → Shared → Prop}, Q (.ref hp.objs.size) ⟨hp.push o, gs, dr, tk, os⟩ → wpAny (model prog w) A' (pyIter v) Q E ⟨hp, gs, dr, tk, os⟩ := fun q => B.iter prog w _ _ _ _ c q
  wp_walk using begun
  refine wpAny_stack_any fun _ => ?_
  refine wpAny_pure ?_
  split
  · rename_i k _ _ _ _ _
    cases (k == Value.type "enumerate") <;> (wp_walk using begun; exact ⟨_, rfl, h⟩)
  · wp_walk using begun
    exact ⟨_, rfl, h⟩
theorem enum_call {prog : Program} {w : World} {A : Around} {E : Value → Shared → Prop} {s : Shared} {v : Value} {o : Obj} {C : Heap → Prop} (B : Begins v o C) (c : C s.heap) {Q : Value → Shared → Prop}
    (h : Q (.ref (s.heap.objs.size + 1)) { s with heap := (s.heap.push o).push (enumOver s.heap.objs.size) }) : wpAny (model prog w) A (call (.type "enumerate") [v]) Q E s := by
  have sz : (s.heap.push o).objs.size = s.heap.objs.size + 1 := Heap.size_push ..
  refine callType_new F.called_enumerate (by decide) (F.typeCall_enumerate_1 _) (F.newCall_enumerate_1 _)
    (fun obj => F.args_object_init_2 obj _) F.entry_enumerate_new (enum_made B) ⟨c, ?_⟩
  rw [← sz] at h
  refine ⟨?_, h⟩
  exact ⟨_, Heap.get?_push_size _ rfl, rfl⟩
def iEnumT (K : PySem.W.Frag) (ta : TA) : TI := fun σ H R => ta σ H fun vs H1 => ∃ a xs, vs = [.ref a] ∧ SqT K H1 a xs ∧ R (IteT K a) H1
theorem pi_enumT {X : Cx} {e : Expr} {ta : TA} {p pos tpos : Pos} {elts : List Expr} {kk : Nat} (hg : Gl X "enumerate") (hm : X.mg "enumerate" = none) (ha : PA X [e] ta) (one : starEach [e] X.env = [(false, eval e X.env)] := by rfl) :
    PI X (.Tuple elts kk tpos) (.Call (.Name "enumerate" p) [e] [] pos) (iEnumT X.K ta) := by
  constructor
  intro pins s σ H R I h
  refine Call_ (ld_blt I hg hm boot_enumerate (callWith_type1 (thn (ha.run pos pins s σ H _ I h) ?_) one rfl))
  rintro us s1 ⟨vs, H1, I1, r1, a, xs, rfl, hq, q⟩
  obtain ⟨u, rfl, (ru : u = .ref a)⟩ := vals1 r1
  subst ru
  obtain ⟨its, vals, tup, _⟩ := I1.tuple hq
  refine enum_call (begins_tuple a its.toArray) tup (wpAny_pyIter_enum (i := 0) (old := .none) (it := s1.heap.objs.size) ?_ ?_)
  all_goals have sz : (s1.heap.push { cls := .type "tuple_iterator", data := .fields #[.ref a, .int 0 0] }).objs.size = s1.heap.objs.size + 1 := Heap.size_push ..
  all_goals have get := Heap.get?_push_size (s1.heap.push { cls := .type "tuple_iterator", data := .fields #[.ref a, .int 0 0] }) (o := enumOver s1.heap.objs.size) rfl
  all_goals rw [sz] at get
  · exact get
  · have I2 : Inv X pins σ H1 { s1 with heap := (s1.heap.push { cls := .type "tuple_iterator", data := .fields #[.ref a, .int 0 0] }).push (enumOver s1.heap.objs.size) } :=
      I1.kept (t' := s1.toks) fun b ob k => Heap.get?_push_of_some _ (Heap.get?_push_of_some _ k)
    refine ⟨s1.heap.objs.size + 1, [s1.heap.objs.size + 1, s1.heap.objs.size], _, _, H1, rfl, I2, turn_enumT a _ s1.heap.objs.size, ⟨⟨.none, get⟩, ⟨_, Heap.get?_push_of_some _ (Heap.get?_push_size _ rfl), rfl, rfl⟩, Nat.succ_ne_self _⟩, fun b hb => ?_, q⟩
    have above : s1.heap.objs.size ≤ b := by
      rcases (List.mem_cons.mp hb : b = s1.heap.objs.size + 1 ∨ _) with rfl | m
      · exact Nat.le_succ _
      · exact Nat.le_of_eq (List.mem_singleton.mp m).symm
    exact I1.fpOk above (I1.hok.fresh above)
theorem walk_enumT {K : PySem.W.Frag} {a : Addr} {xs : List V} : Walk (IteT K a) xs.length (fun H => SqT K H a xs) (YPair (fun i => some (.int (i : Nat))) (fun i => xs[i]?)) where
  goes := fun i _ hi q => ⟨xs, _, q, List.getElem?_eq_getElem hi⟩
  stops := fun _ q => ⟨xs, q, rfl⟩
  yields := by
    rintro i H v H' _ q ⟨T, x, e1, e2, e3, e4⟩
    exact ⟨T, _, x, e1, e2, e3, rfl, e4 xs q⟩

/-! ### a pair turned by its step: t[::k], k one or minus one -/
section
variable {prog : Program} {w : World} {A : Around} {s : Shared} {E : Value → Shared → Prop}
/-- the slice object [::k] applied to n items -/
theorem applied_stp {sl : Addr} {vs : Value} {k : Int} {n : Nat} {Q : Int × Int × Nat → Shared → Prop} (hs : s.heap.IsSliceOf sl .none .none vs) (ps : IsPart vs (some k)) (h0 : ¬ (k == 0) = true)
    (h : Q ((Builtin.Slice.sliceAdjust none none k (n : Int)).1, k, Builtin.Slice.slicePlaces (Builtin.Slice.sliceAdjust none none k (n : Int)).1 (Builtin.Slice.sliceAdjust none none k (n : Int)).2 k) s) : wpAny (model prog w) A (Builtin.Slice.sliceApplied (.ref sl) (pure (n : Int))) Q E s := by
  obtain ⟨so, hso, _, dso⟩ := id hs
  delta Builtin.Slice.sliceApplied Builtin.Slice.sliceFields
  have read : ∀ {j : Nat} {y : Value} {α : Type} {f : Value → Sem α} {R : α → Shared → Prop}, #[Value.none, Value.none, vs][j]? = some y → wpAny (model prog w) A (f y) R E s → wpAny (model prog w) A (field (.ref sl) j >>= f) R E s := fun e q => wpAny_bind (wpAny_field hso dso e q)
  refine wpAny_bind (read rfl (read rfl (read rfl (wpAny_pure ?_))))
  refine wpAny_bind (HT.slicePart_ ps ?_)
  show wpAny _ _ (if (k == 0) = true then _ else _) _ _ s
  rw [if_neg h0]
  exact wpAny_bind (HT.slicePart_ .none (wpAny_bind (HT.slicePart_ .none (wpAny_bind (wpAny_pure (wpAny_pure h))))))
theorem pair_stp {t sl : Addr} {x y : Value} {vs : Value} {k : Int} {Q : Value → Shared → Prop} (ht : IsTup s.heap t #[x, y]) (hs : s.heap.IsSliceOf sl .none .none vs) (ps : IsPart vs (some k))
    (h : (k = 1 ∧ Q (.ref t) s) ∨ (k = -1 ∧ Q (.ref s.heap.objs.size) { s with heap := s.heap.push { cls := .type "tuple", data := .seq #[y, x] } })) : wpAny (model prog w) A (getItem (.ref t) (.ref sl)) Q E s := by
  have isS : s.TypeIs (.ref sl) "slice" := let ⟨so, a, b, _⟩ := id hs; ⟨so, a, b⟩
  unfold getItem
  refine wpAny_holding (wpAny_bind (wpAny_sequenceKey ht.typeIs (by decide) (wpAny_bind ?_)))
  refine wpAny_callSpecial?_slot (name := Str.ofString "__getitem__") ht.typeIs slot_tuple_getitem ?_
  refine wpAny_call_entry slot_tuple_getitem ht.typeIs entry_tuple_getitem ?_ (args_tuple_getitem _ _)
  show wpAny _ _ (Builtin.Tuple.tupleItemsOf _ >>= _) _ _ s
  refine wpAny_bind (tupleItemsOf_ ht (wpAny_bind (wpAny_typeOf isS ?_)))
  rw [if_pos (by decide)]
  rcases h with ⟨rfl, h⟩ | ⟨rfl, h⟩ <;> refine wpAny_bind (applied_stp (n := 2) hs ps (by decide) ?_)
  · show wpAny _ _ (if (((0 : Int) == 0 && (1 : Int) == 1 && (2 : Nat) == 2) = true) then _ else _) _ _ s
    rw [if_pos (by decide)]
    have whole : wpAny (model prog w) A.in1 (Builtin.Tuple.tupleIsExact (.ref t)) (fun b s' => b = true ∧ s' = s) (fun _ _ => False) s := by
      show wpAny _ _ (typeOf (.ref t) >>= _) _ _ s
      exact wpAny_bind (wpAny_typeOf ht.typeIs (wpAny_pure ⟨by decide, rfl⟩))
    refine wpAny_bind (wpAny_mono whole ?_ fun _ _ z => z.elim)
    rintro b s' ⟨rfl, rfl⟩
    rw [if_pos rfl]
    first | exact wpAny_bind (wpAny_rule (wpAny_pure ⟨_, rfl, wpAny_pure h⟩)) | exact wpAny_bind (wpAny_rule (wpAny_bind (wpAny_pure (wpAny_pure ⟨_, rfl, wpAny_pure h⟩))))
  · show wpAny _ _ (if (((1 : Int) == 0 && (-1 : Int) == 1 && (2 : Nat) == 2) = true) then _ else _) _ _ s
    rw [if_neg (by decide)]
    have sz : sizeOk (.seq #[y, x]) := by show 2 ≤ sizeLine; decide
    first
      | exact wpAny_bind (m := Builtin.Tuple.tupleExact #[y, x]) (wpAny_newObj_type (wpAny_pure ⟨_, rfl, wpAny_pure h⟩) sz)
      | exact wpAny_bind (m := Builtin.Tuple.tupleExact #[y, x]) (wpAny_newObj_type (wpAny_bind (wpAny_pure (wpAny_pure ⟨_, rfl, wpAny_pure h⟩))) sz)
      | exact wpAny_bind (wpAny_bind (m := Builtin.Tuple.tupleExact #[y, x]) (wpAny_newObj_type (wpAny_pure (wpAny_pure ⟨_, rfl, wpAny_pure h⟩)) sz))
      | exact wpAny_bind (wpAny_bind (m := Builtin.Tuple.tupleExact #[y, x]) (wpAny_newObj_type (wpAny_pure ⟨_, rfl, wpAny_pure h⟩) sz))
end
def tStp (K : PySem.W.Frag) (te tk : TE) : TE := fun σ H Q => te σ H fun x H1 => tk σ H1 fun z H2 => ∃ a u v, x = .ref a ∧ SqT K H2 a [u, v] ∧ ((z = .int 1 ∧ Q (.ref a) H2) ∨ (z = .int (-1) ∧ ∀ p, H2 p = none → Q (.ref p) (upd H2 p (.tup [v, u]))))
theorem no_part {X : Cx} {pins : List (Addr × Obj)} {σ : St} {H : Hp} {s : Shared} {Q : Value → Shared → Prop} (I : Inv X pins σ H s) (h : Q .none s) : wpAny (model X.prog X.w) X.A (evalPart none X.env) Q X.xe s := by
  rw [evalPart_none]
  exact wpAny_pure h
theorem pe_stp {X : Cx} {e st : Expr} {te tk : TE} {p3 pos : Pos} (he : PE X e te) (hk : PE X st tk) (hp : ∀ o i, subscripted (.Slice none none (some st) p3) false o i = operate [o, i] (getItem o i) := by intro _ _; rfl) : PE X (.Subscript e (.Slice none none (some st) p3) pos) (tStp X.K te tk) := by
  constructor
  intro pins s σ H Q I h
  refine Subscript_ (thn (he.run pins s σ H _ I h) ?_)
  rintro v s1 ⟨x, H1, I1, r1, q1⟩
  refine wpAny_Slice (no_part I1 (no_part I1 ?_))
  rw [evalPart_some]
  refine thn (hk.run pins s1 σ H1 _ I1 q1) ?_
  rintro vs s2 ⟨z, H2, I2, rz, a, y1, y2, rfl, hx, q⟩
  obtain rfl : v = .ref a := r1
  have I3 : Inv X pins σ H2 { s2 with heap := s2.heap.push { cls := .type "slice", data := .fields #[.none, .none, vs] } } := I2.kept (t' := s2.toks) fun b ob k => Heap.get?_push_of_some _ k
  obtain ⟨its, r, ht, _⟩ := I3.tuple hx
  obtain ⟨w1, w2, rfl, rw1, rw2⟩ := vals2 r
  have isS := Heap.IsSliceOf.new s2.heap .none .none vs
  have isT : Shared.TypeIs { s2 with heap := s2.heap.push { cls := .type "slice", data := .fields #[.none, .none, vs] } } (.ref a) "tuple" := ht.typeIs
  rcases q with ⟨rfl, q⟩ | ⟨rfl, q⟩ <;> obtain ⟨t, rfl⟩ := rz
  · exact tail_any isT slot_tuple_getitem.lookup (pair_stp ht isS (.int 1 t) (.inl ⟨rfl, .ref a, H2, I3, rfl, q⟩)) (hp _ _)
  · have laid := I3.laid (t' := s2.toks) (o := .tup [y2, y1]) (fun b ob k => Heap.get?_push_of_some { cls := .type "tuple", data := .seq #[w2, w1] } k) (Nat.le_refl _) ⟨by show 2 ≤ sizeLine; decide, [w2, w1], .cons rw2 (.cons rw1 .nil), IsTup.new _ _⟩
    exact tail_any isT slot_tuple_getitem.lookup (pair_stp ht isS (.int (-1) t) (.inr ⟨rfl, .ref _, _, laid, rfl, q _ (I3.hok.fresh (Nat.le_refl _))⟩)) (hp _ _)

/-! ### set(list of ints), k not in it -/
def rSetI (K : PySem.W.Frag) : List V → Hp → VK → Prop := fun xs H Q => ∃ (a : Addr) (ns : List Int), xs = [.ref a] ∧ SqL K H a (ns.map V.int) ∧ ns.length + 1 < scanBound ∧ ∀ p S n, H p = none → (∀ k, S k = decide (k ∈ ns)) → Q (.ref p) (upd H p (.set S n))
theorem getD_any (k : Int) : ∀ ns : List Int, (((List.range ns.length).map fun i => ns.getD i 0).any (· == k)) = decide (k ∈ ns) := by
  intro ns
  have e : ((List.range ns.length).map fun i => ns.getD i 0) = ns := by
    apply List.ext_getElem?
    intro i
    rw [List.getElem?_map]
    by_cases h : i < ns.length
    · rw [List.getElem?_range h, List.getElem?_eq_getElem h]
      simp [List.getD_eq_getElem?_getD, List.getElem?_eq_getElem h]
    · rw [List.getElem?_eq_none (by simpa using Nat.le_of_not_lt h), List.getElem?_eq_none (Nat.le_of_not_lt h)]
      rfl
  rw [e]
  by_cases h : k ∈ ns
  · rw [decide_eq_true h]
    exact List.any_eq_true.mpr ⟨k, h, beq_self_eq_true k⟩
  · rw [decide_eq_false h]
    refine List.any_eq_false.mpr fun x hx hb => h ?_
    rw [← eq_of_beq hb]
    exact hx
theorem cr_setI {X : Cx} (hc : X.calm = true) : CallR X (.type "set") (rSetI X.K) := by
  rintro pins s σ H xs us Q I r ⟨a, ns, rfl, hs, hn, q⟩
  obtain ⟨u, rfl, (ru : u = .ref a)⟩ := vals1 r
  subst ru
  obtain ⟨its, rv, hl, few⟩ := I.list hs
  have len : its.length = ns.length := by rw [← rv.length, List.length_map]
  refine call_set_list (I.ok.hd hc) hl.isList (intsAre_of rv) (by rw [List.size_toArray, len]; exact hn) fun h' tk hS hk => ?_
  have laid := I.laid (t' := tk) (o := .set _ _) (fun b o e => hk b o (Heap.lt_size e) e) (Nat.le_refl _) hS
  refine ⟨.ref _, _, laid, rfl, q _ _ _ (I.hok.fresh (Nat.le_refl _)) fun k => ?_⟩
  rw [firstMet_any, List.size_toArray, len]
  exact getD_any k ns
def rSNotI : V → V → Hp → VK → Prop := fun x y H Q => ∃ k a S n, x = V.int k ∧ y = V.ref a ∧ H a = some (.set S n) ∧ Q (.bl (!S k)) H
theorem op_notset {X : Cx} : OpR X (compareOp .NotIn) rSNotI := by
  rintro pins s σ H x y v u Q I rx ry ⟨k, a, S, n, rfl, rfl, ha, q⟩
  obtain ⟨tk, rfl⟩ := rx
  obtain rfl : u = .ref a := ry
  have at_a : s.heap.SetOf (intKind X.prog X.w) a S n := I.hok a _ ha
  exact wpAny_notInSet_of (intKind_is _ _ _ _) rfl at_a ⟨.bl (!S k), H, I.tok _, rfl, q⟩

/-! a def that the top holds; what a caller uses of it -/
def Def (K : PySem.W.Frag) (mg : Str → Option Value) (x : Str) (st : Stmt) : Prop := ∃ (f : Addr) (fd : FuncData), Fun K x x st f fd ∧ mg x = some (.ref f)
def Cal (P : Program) (w : World) (K : PySem.W.Frag) (mg : Str → Option Value) (base : Heap) (x : Str) (ps : List Str) (k : Nat) (sp : Sp) : Prop :=
  ∃ (f : Addr) (fd : FuncData), mg x = some (.ref f) ∧ PySem.W.keepIn K (.ref f) = true ∧ Binds K fd ps [] ∧ FnOk P w K mg base CX0 k f fd ps sp
theorem Def.ok {P : Program} {w : World} {K : PySem.W.Frag} {mg : Str → Option Value} {base : Heap} {x : Str} {st : Stmt} {N ps : List Str} {k : Nat} {sp : Sp} (D : Def K mg x st) (S : FnScope N ps (defScope st))
    (hb : ∀ (kV doc pm : Value) (an : Option Addr) (cdv ct : Value) (us : List Value), us.length = ps.length → bindArgs (PySem.W.fnOf x x (defArgs st) (defBody st) (defScope st) .none kV doc pm an cdv ct) ⟨us, []⟩ = pure (ps.zip us))
    (ar : ∀ vs H Q E, sp vs H Q E → vs.length = ps.length)
    (hbody : ∀ (f : Addr) (cdv : Value) (A : Around) (outer : List Env) (s : Shared) (H : Hp) (vs : List V) (Q : VK) (E : XK), Room k (A.deeper (envOfC x (defScope st) s.heap.objs.size f cdv)) → sp vs H Q E →
      ∃ t, PSs (cxOf CX0 P w K mg base N x (defScope st) f cdv A outer s H E).nox (defBody st) t ∧ t { nx := fun _ H' => Q .non H', rt := Q } (start N vs) H) : Cal P w K mg base x ps (k + 1) sp := by
  obtain ⟨f, fd, F, m⟩ := D
  exact ⟨f, fd, m, F.kp, F.binds hb, F.ok S ar fun cdv A outer s H vs Q E hr h => hbody f cdv A outer s H vs Q E hr h⟩

/-! heaps -/
/-- all but what stands at a is as it was -/
def But (a : Addr) (H H' : Hp) : Prop := ∀ b o, b ≠ a → H b = some o → H' b = some o
theorem Same.but {a : Addr} {H H' : Hp} (s : Same H H') : But a H H' := fun b o _ e => s b o e
theorem But.trans {a : Addr} {H H1 H2 : Hp} (x : But a H H1) (y : But a H1 H2) : But a H H2 := fun b o n e => y b o n (x b o n e)
theorem Same.upd {H : Hp} {p : Addr} {o : HO} (h : H p = none) : Same H (upd H p o) := fun b x e => by
  rw [upd_ne (ne_of_none e h)]
  exact e
theorem But.upd {a : Addr} {H H' : Hp} (x : But a H H') (o : HO) : But a H (upd H' a o) := fun b u n e => by
  rw [upd_ne n]
  exact x b u n e
/-- what is new at p may change: all that stood in H stands -/
theorem Same.at {H H' : Hp} {p : Addr} {o : HO} (s : Same H H') (h : H p = none) : Same H (L2.upd H' p o) := fun b x e => by
  rw [upd_ne (ne_of_none e h)]
  exact s b x e
theorem But.same {a : Addr} {H0 H H' : Hp} (s : Same H0 H) (n : H0 a = none) (b : But a H H') : Same H0 H' := fun c o e => b c o (ne_of_none e n) (s c o e)
theorem Same.tup {K : PySem.W.Frag} {H H' : Hp} {a : Addr} {xs : List V} (e : Same H H') (h : SqT K H a xs) : SqT K H' a xs := by
  rcases h with (z | ⟨o, z⟩) | z
  · exact .inl (.inl (e _ _ z))
  · exact .inl (.inr ⟨o, e a _ z⟩)
  · exact .inr z
theorem But.tup {K : PySem.W.Frag} {H H' : Hp} {g a : Addr} {xs ys : List V} (e : But g H H') (hg : H g = some (.lst ys)) (h : SqT K H a xs) : SqT K H' a xs := by
  rcases h with (z | ⟨o, z⟩) | z
  · exact .inl (.inl (e _ _ (ne_of z hg (by intro q; cases q)) z))
  · exact .inl (.inr ⟨o, e _ _ (ne_of z hg (by intro q; cases q)) z⟩)
  · exact .inr z
theorem ref_same {H H' : Hp} {a : Addr} {o : HO} (s : Same H H') (h : H a = some o) : H' a = some o := s _ _ h
end L2

/-! own rules: an error that a clause has caught and a local keeps behind the clause; its fields, isinstance of it by its own class -/
namespace L2
open PySem PySem.Spec PyProof.Rows
/-- a caught error, kept: its class, its own dict's address -/
def exk (a : Addr) (cls : Value) (d : Option Addr) : HO :=
  .ext fun g => ∃ ob fs, g.get? a = some ob ∧ Zc cls d ob ∧ ob.data = Data.fields fs
theorem exk_ok {P : Program} {w : World} {H : Hp} {g : Heap} {a : Addr} {cls : Value} {d : Option Addr} {ob : Obj} {fs : Array Value} (e : g.get? a = some ob) (z : Zc cls d ob) (f : ob.data = Data.fields fs) : ObjOk P w H g a (exk a cls d) := by
  refine ⟨⟨ob, fs, e, z, f⟩, ⟨ob, e⟩, ?_⟩
  rintro g1 g2 ⟨ob1, fs1, e1, z1, f1⟩ st
  exact ⟨ob1, fs1, st ob1 e1, z1, f1⟩
theorem exk_at {P : Program} {w : World} {H : Hp} {g : Heap} {a : Addr} {cls : Value} {d : Option Addr} (ok : HOk P w H g) (e : H a = some (exk a cls d)) : ∃ ob fs, g.get? a = some ob ∧ Zc cls d ob ∧ ob.data = Data.fields fs := by
  have z : ObjOk P w H g a (.ext _) := ok a _ e
  exact z.1
section
variable {X : Cx} {H : Hp} {s : Shared} {pins : List (Addr × Obj)} {σ : St}
/-- behind the clause the error is an object of the heap as any other -/
theorem Inv.regain {a : Addr} {cls : Value} {d : Option Addr} {ob : Obj} {fs : Array Value} (I : Inv X pins σ H s) (e : s.heap.get? a = some ob) (z : Zc cls d ob) (f : ob.data = Data.fields fs) (n0 : X.s_0.heap.get? a = none)
    (nl : a ≠ X.env.locals) (np : ∀ p ∈ X.pn ++ pins, p.1 ≠ a) (na : H a = none) : Inv X pins σ (upd H a (exk a cls d)) s where
  ok := I.ok
  os := I.os
  bare := I.bare
  base :=
    { keep := I.base.keep
      slot := I.base.slot
      free := fun b o q n x => by
        have ne : b ≠ a := fun y => by rw [y, n0] at q; cases q
        rw [upd_ne ne]
        exact I.base.free b o q n x
      there := I.base.there
      tups := fun b xs q => by
        have q1 := I.base.tups b xs q
        rw [upd_ne (ne_of_none q1 na)]
        exact q1
      frzs := fun b o u q => by
        have q1 := I.base.frzs b o u q
        rw [upd_ne (ne_of_none q1 na)]
        exact q1
      tbls := fun b ps q => by
        obtain ⟨m, q1⟩ := I.base.tbls b ps q
        rw [upd_ne (ne_of_none q1 na)]
        exact ⟨m, q1⟩ }
  loc := I.loc
  cell := I.cell
  free := by
    rw [upd_ne (Ne.symm nl)]
    exact I.free
  freeC := fun x c q => by
    have ne : c ≠ a := fun y => by
      obtain ⟨v, o, q1, q2⟩ := I.cell x c q
      rw [y, e] at q1
      cases q1
      rw [f] at q2
      exact nomatch q2
    rw [upd_ne ne]
    exact I.freeC x c q
  pin := fun p hp => by
    obtain ⟨q1, q2, q3⟩ := I.pin p hp
    rw [upd_ne (np p hp)]
    exact ⟨q1, q2, q3⟩
  hok := fun b o q => by
    by_cases y : b = a
    · subst y
      rw [upd_same] at q
      cases q
      exact exk_ok e z f
    · rw [upd_ne y] at q
      refine (I.hok b o q).stay (fun _ _ _ r => r) (fun c r => ?_) fun c xs r => ?_
      · rw [upd_ne (ne_of_none r na)]
        exact r
      · rw [upd_ne (ne_of_none r na)]
        exact r
  len := I.len
/-- the wish of the clause 'except x as n', the error kept -/
def wKeep (K : PySem.W.Frag) (c : Value) (i : Nat) (ts : Addr → Value → Option Addr → TS) (Wout : WX) (D : Ends) : WX := fun cls d σ H =>
  ∃ y, PySem.W.exmOne K cls c = some y ∧ (y = false → Wout cls d σ H) ∧ (y = true → ∀ a, H a = none →
    ts a cls d ⟨fun σ1 H1 => D.nx (σ1.set i none) (upd H1 a (exk a cls d)), fun v H1 => D.rt v (upd H1 a (exk a cls d)), fun σ1 H1 => D.bk (σ1.set i none) (upd H1 a (exk a cls d)), fun σ1 H1 => D.ct (σ1.set i none) (upd H1 a (exk a cls d))⟩ (σ.set i (some (.ref a))) H)

variable {x n : Str} {c : Value} {i : Nat} {work suite : List Stmt} {st0 : Stmt} {np q1 q2 : Pos} {tw : WX → TS} {ts : Addr → Value → Option Addr → TS} {Wout : WX}
/-- try: work / except x as n: suite, the error kept behind it -/
theorem ps_try_keep (e1 : X.stack = X.env :: X.outer) (e2 : X.env.frame = some X.env.locals) (e3 : X.ex = []) (nd : X.N.Nodup) (ni : X.N[i]? = some n) (nk : X.env.kindOf n = some .local) (nm : Names X x c) (tk : Takes X Wout)
    (W1 : ∀ (W : WX) (pn : List (Addr × Obj)) (xe : Value → Shared → Prop), Takes (X.tr pn xe) W → PassesOwn (model X.prog X.w) X.A X.env xe → PSs (X.tr pn xe) work (tw W))
    (W2 : ∀ (a : Addr) (ob : Obj) (cls : Value) (d : Option Addr) (pn : List (Addr × Obj)), Zc cls d ob → (∃ fs, ob.data = .fields fs) → PSs (X.suite a ((a, ob) :: pn)) (st0 :: suite) (ts a cls d)) :
    PS X (.Try work [.ExceptHandler (some (.Name x np)) (some n) (st0 :: suite) q1] [] [] q2) (fun D σ H => tw (wKeep X.K c i ts Wout D) D σ H) := by
  constructor
  intro pins s σ H D I h
  have ok := I.ok
  have frm : X.A.frames = some (X.env :: X.outer) := ok.frames.trans (congrArg some e1)
  apply wpAny_Try_except
  have caught : ∀ (xe0 : Value → Shared → Prop) (er : Value) (s9 : Shared), XE (X.tr (X.pn ++ pins) xe0) (wKeep X.K c i ts Wout D) er s9 →
      wpAny (model X.prog X.w) X.A (noteFrame er X.env) (fun _ s₂ => wpAny (model X.prog X.w) X.A (setFlight er none) (fun _ s₃ =>
        wpAny (model X.prog X.w) X.A (handleBy er X.env [.ExceptHandler (some (.Name x np)) (some n) (st0 :: suite) q1]) (SP X pins D) X.xe s₃) X.xe s₂) X.xe s9 := by
    rintro xe0 er s9 ⟨a, B, sI, pins1, σ1, H1, cls, d, rfl, J0, nb, up, sky, na, os, ag, y, ey, no, yes⟩
    have J1 : Inv X pins σ1 H1 sI := J0.ofTry ok
    have sky1 : Sky B (X.env :: X.outer) a (Zc cls d) X.env.locals s9.heap := e1 ▸ sky
    refine Sky.land Zc.steady frm e2 sky1 fun g3 fl3 up3 => ?_
    have J3 : Inv X pins σ1 H1 { s9 with heap := g3 } := J1.landed nb fl3.1 (up.trans up3) os ag
    obtain ⟨ob3, fs3, at3, z3, d3⟩ := fl3.there
    have off : ∀ {g : Heap} {ob : Obj} {fs : Array Value}, g.FunFrames B (X.env :: X.outer) → g.get? a = some ob → ob.data = Data.fields fs → a ∉ frs (X.env :: X.outer) := by
      intro g ob fs ff q r m
      obtain ⟨_, o1, r1, r2⟩ := ff.mem m
      rw [q] at r1
      cases r1
      exact r2 _ r
    have n1 := off fl3.2.2.1 at3 d3
    have nL : a ≠ X.env.locals := by
      intro y
      refine n1 (List.mem_filterMap.mpr ⟨X.env, List.mem_cons_self, ?_⟩)
      rw [e2, y]
    have nF : a ∉ X.fs := by
      intro m
      obtain ⟨v, m1, m2⟩ := List.mem_filterMap.mp m
      exact n1 (List.mem_filterMap.mpr ⟨v, List.mem_cons_of_mem _ m1, m2⟩)
    -- the error is new: it stood neither in the state at the raise nor at the def's start
    have nI : sI.heap.get? a = none := by
      cases q : sI.heap.get? a with
      | none => rfl
      | some o =>
        have r := nb a o q (by rw [e1]; exact n1)
        rw [fl3.2.1] at r
        cases r
    have unborn : X.s_0.heap.get? a = none := by
      cases q : X.s_0.heap.get? a with
      | none => rfl
      | some o =>
        obtain ⟨o1, r⟩ := J1.base.there a o q (by rw [e3]; simp)
        rw [nI] at r
        cases r
    have nP : ∀ p ∈ X.pn ++ pins, p.1 ≠ a := by
      intro p m y
      obtain ⟨r, _⟩ := J1.pin p m
      rw [y, nI] at r
      cases r
    have S3 := J3.suite at3 d3 na nL nF
    refine wpAny_handleBy_cons (codeAny_handlers_test ?_) (fun q => by cases q)
    have lt : PySem.W.Looks (model X.prog X.w) g3 (typeOf (.ref a)) cls := by
      intro A Q E sx k q
      refine wpAny_typeOf_ref (k _ _ at3) ?_
      rw [z3.1]
      exact q
    have lm := PySem.W.exm_one (M := model X.prog X.w) J3.kIn lt ey
    have named : ∀ {Q : Value → Shared → Prop} {E : Value → Shared → Prop}, Q c { s9 with heap := g3 } → wpAny (model X.prog X.w) (X.A.mark (some (.ref a))) (eval (.Name x np) X.env) Q E { s9 with heap := g3 } := by
      intro Q E q
      obtain ⟨m1, m2, m3⟩ := nm
      rcases m3 with m3 | ⟨m3, m4, m5⟩
      · exact ld_glob (X := X.suite a ((a, ob3) :: (X.pn ++ pins))) S3 m1 m3 q m2
      · exact ld_blt (X := X.suite a ((a, ob3) :: (X.pn ++ pins))) S3 m1 m3 m4 q m5 m2
    apply named
    apply lm.here
    cases y with
    | true =>
      apply codeAny_handlers_suite_as
      refine HandSPX.lands_againZ fl3 fun g4 fl4 up4 => ?_
      have J4 : Inv X pins σ1 H1 { s9 with heap := g4 } := J1.landed nb fl4.1 ((up.trans up3).trans up4) os ag
      obtain ⟨ob4, fs4, at4, z4, d4⟩ := fl4.there
      have S4 := J4.suite at4 d4 na nL nF
      refine store_ok (X := X.suite a ((a, ob4) :: (X.pn ++ pins))) (v := .ref a) S4 nd ni (.inl nk) rfl (fun s5 S5 => ?_) (.inr nk)
      refine wpAny_mono ((W2 a ob4 cls d (X.pn ++ pins) z4 ⟨_, d4⟩).run [] s5 _ H1 _ S5 (yes rfl a na)) (fun f s6 sp6 => ?_) (fun _ _ z => z.elim)
      have past : ∀ {σ6 : St} {H6 : Hp} {G : Shared → Prop}, Inv (X.suite a ((a, ob4) :: (X.pn ++ pins))) [] σ6 H6 s6 → (∀ s7, Inv X pins (σ6.set i none) (upd H6 a (exk a cls d)) s7 → G s7) →
          wpAny (model X.prog X.w) X.A (do bindName X.env n .none; unbindBehindTheSuite X.env n q1) (fun _ s7 => G s7) X.xe s6 := by
        intro σ6 H6 G S6 g
        obtain ⟨p1, p2, _⟩ := S6.pin (a, ob4) (List.mem_append_left _ List.mem_cons_self)
        exact gone_ok ((S6.unsuite ok).regain p1 z4 d4 unborn nL nP p2) nd ni nk g
      cases f with
      | next =>
        obtain ⟨σ6, H6, S6, r⟩ := sp6
        exact past S6 fun s7 J7 => ⟨_, _, J7, r⟩
      | brk =>
        obtain ⟨σ6, H6, S6, r⟩ := sp6
        exact past S6 fun s7 J7 => ⟨_, _, J7, r⟩
      | cont =>
        obtain ⟨σ6, H6, S6, r⟩ := sp6
        exact past S6 fun s7 J7 => ⟨_, _, J7, r⟩
      | ret u =>
        obtain ⟨v6, σ6, H6, S6, rr, r⟩ := sp6
        exact past S6 fun s7 J7 => ⟨_, _, _, J7, rr, r⟩
    | false =>
      change wpAny _ X.A (handleBy (.ref a) X.env []) _ _ _
      apply wpAny_handleBy_nil
      obtain ⟨_, _, _, ob, fs, T, oT, ts', at_e, z_e, d_e, f_e, r_e⟩ := id fl3
      unfold PySem.passOn
      refine wpAny_bind (wpAny_field at_e d_e f_e ?_)
      rw [if_neg (by simp)]
      have onward : wpAny (model X.prog X.w) X.A (setFlight (.ref a) X.env.frame) (fun _ s4 => wpAny (model X.prog X.w) X.A (throw (.ref a) : Sem Flow) (SP X pins D) X.xe s4) X.xe { s9 with heap := g3 } := by
        rw [e2]
        refine HandSPX.setFlight_upZ fl3 fun g4 hh4 up4 => wpAny_throw (tk _ _ ⟨a, B, sI, pins, σ1, H1, cls, d, rfl, J1, nb, (up.trans up3).trans up4, .inr (.inr ?_), na, os, ag, no rfl⟩)
        rw [e1]
        exact hh4
      first
        | exact wpAny_bind (wpAny_pure (wpAny_bind onward))
        | exact wpAny_bind onward
  refine wpAny_mono ((W1 (wKeep X.K c i ts Wout D) (X.pn ++ pins) _ (fun u s9 xx => caught _ u s9 xx) PassesOwn.looking).run [] s σ H D (I.toTry _) h) (fun f s9 sp => ?_) (fun e s9 he => he)
  cases f with
  | next =>
    obtain ⟨σ1, H1, J1, q⟩ := sp
    exact wpAny_execs_nil ⟨σ1, H1, J1.ofTry ok, q⟩
  | brk =>
    obtain ⟨σ1, H1, J1, q⟩ := sp
    exact ⟨σ1, H1, J1.ofTry ok, q⟩
  | cont =>
    obtain ⟨σ1, H1, J1, q⟩ := sp
    exact ⟨σ1, H1, J1.ofTry ok, q⟩
  | ret u =>
    obtain ⟨v, σ1, H1, J1, r, q⟩ := sp
    exact ⟨v, σ1, H1, J1.ofTry ok, r, q⟩

/-- err.f, err a kept error of the class at C -/
def tKf (C : Addr) (f : Str) (te : TE) : TE := fun σ H Q => te σ H fun v H1 => ∃ (a d : Addr) (fs : List (Str × V)) (y : V), v = .ref a ∧ H1 a = some (exk a (.ref C) (some d)) ∧ H1 d = some (.xd fs) ∧ fs.lookup f = some y ∧ Q y H1
theorem pe_kf {C : Addr} {e : Expr} {te : TE} {pos : Pos} {f : Str} (T : XfC X.K C) (no : PySem.W.findIn X.K (.ref C) f = some none) (he : PE X e te) (hb : attributeBase e f X.env (eval e X.env) = eval e X.env := by rfl) : PE X (.Attribute e f pos) (tKf C f te) := by
  constructor
  intro pins s σ H Q I h
  refine attr_of hb (thn (he.run pins s σ H _ I h) ?_)
  rintro u s1 ⟨v, H1, I1, rv, a, d, fs, y, rfl, ha, hd, l, q⟩
  obtain rfl : u = Value.ref a := rv
  obtain ⟨ob, vs, g1, z, g2⟩ := exk_at I1.hok ha
  have od1 : ObjOk X.prog X.w H1 s1.heap d (.xd fs) := I1.hok d _ hd
  obtain ⟨m, ns, rl⟩ := od1
  obtain ⟨od, o1, o2⟩ := lookIn_ns ns
  have rl' := rl f
  rw [l] at rl'
  obtain ⟨u, hu, ru⟩ := RelO.some_of (v := y) (o := m f) rl'
  have J : PySem.W.InstAt s1.heap a ob C (some od) := by
    refine ⟨g1, z.1, ?_, ?_⟩
    · unfold PySem.W.notCls
      rw [g2] <;> rfl
    · rw [z.2]
      exact o1
  refine HandSPX.exc_get I1.kIn J T.ga T.gg T.exC (PySem.W.findObj_own T.hdC no rfl ?_) (handed_of ru) ⟨y, H1, I1.tok _, ru, q⟩
  rw [o2, hu]

/-- isinstance(err, C), err of just that class -/
def rIsK (C : Addr) : List V → Hp → VK → Prop := fun xs H Q => ∃ (a : Addr) (d : Option Addr), xs = [.ref a, .ref C] ∧ H a = some (exk a (.ref C) d) ∧ Q (.bl true) H
theorem answers_self {a : Addr} {c : Value} : Answers (fun s => ∃ ob, s.heap.get? a = some ob ∧ ob.cls = c) (.ref a) c true := by
  intro dep tk prog w A R s hs
  obtain ⟨g, g2, d, tt, os⟩ := s
  obtain ⟨⟨ob, e, z⟩, q⟩ := hs
  have lt : PySem.W.Looks (model prog w) g (typeOf (.ref a)) c := by
    intro A Q E sx k q
    refine wpAny_typeOf_ref (k _ _ e) ?_
    rw [z]
    exact q
  (unfold Builtin.«isinstance.nested»)
  refine wpAny_bind (lt.at ?_)
  rw [if_pos (beq_self_eq_true c)]
  first
    | exact wpAny_bind (wpAny_rule (q tt))
    | exact wpAny_bind (wpAny_rule (wpAny_pure (q tt)))
    | exact wpAny_pure (q tt)
theorem call_isK {C : Addr} : CallR X (.builtin "isinstance") (rIsK C) := by
  rintro pins s σ H xs us Q I r ⟨a, d, rfl, e, q⟩
  obtain ⟨y1, y2, rfl, ry1, ry2⟩ := vals2 r
  obtain rfl : y1 = Value.ref a := ry1
  obtain rfl : y2 = Value.ref C := ry2
  obtain ⟨ob, vs, g1, z, g2⟩ := exk_at I.hok e
  exact call_isinstance (S := fun _ R s => (∃ ob, s.heap.get? a = some ob ∧ ob.cls = .ref C) ∧ ∀ tk, R (.ok (.ret (.bool true))) { s with toks := tk })
    (fun prog w A R s hs => isinstance_outer (answers_self 0 _ prog w A R s hs) (fun z => nomatch z)) ⟨⟨ob, g1, z.1⟩, fun tk => ⟨.bl true, H, I.tok tk, rfl, q⟩⟩
end
end L2

/-! own rules: defs that are called while nothing is being shown (no guard stands), so that repr of nested data is its text -/
namespace L2
open PySem PySem.Spec PyProof.Rows
/-- a def's promise, told where no guard stands -/
structure FnG (P : Program) (w : World) (K : PySem.W.Frag) (mg : Str → Option Value) (base : Heap) (k : Nat) (f : Addr) (fd : FuncData) (ps : List Str) (sp : Sp) : Prop where
  ar : ∀ vs H Q E, sp vs H Q E → vs.length = ps.length
  go : ∀ (A : Around) (outer : List Env) (s : Shared) (H : Hp) (args : Args) (us : List Value) (vs : List V) (Q : VK) (E : XK), Room k A → A.guards = some [] → Env0 P w K mg base A outer s H → BindsTo s fd args (ps.zip us) → Vals vs us → sp vs H Q E →
    codeAny (model P w) A (.call (.ref f) args) (CR CX0 outer P w H s Q E) s
section
variable {P : Program} {w : World} {K : PySem.W.Frag}
      {mg : Str → Option Value} {base : Heap}
theorem Fun.okG {x qual : Str} {st : Stmt} {f : Addr} {fd : FuncData} {N ps : List Str} {k : Nat} {sp : Sp} (F : Fun K x qual st f fd) (S : FnScope N ps (defScope st)) (ar : ∀ vs H Q E, sp vs H Q E → vs.length = ps.length)
    (body : ∀ (cdv : Value) (A : Around) (outer : List Env) (s : Shared) (H : Hp) (vs : List V) (Q : VK) (E : XK), Room k (A.deeper (envOfC qual (defScope st) s.heap.objs.size f cdv)) → (A.deeper (envOfC qual (defScope st) s.heap.objs.size f cdv)).guards = some [] → sp vs H Q E →
      ∃ t, PSs (cxOf CX0 P w K mg base N qual (defScope st) f cdv A outer s H E).nox (defBody st) t ∧ t { nx := fun _ H' => Q .non H', rt := Q } (start N vs) H) : FnG P w K mg base (k + 1) f fd ps sp := by
  obtain ⟨oc, od, kV, doc, pm, an, cdv, ct, osl, rfl, at_f, code⟩ := F.ex
  refine ⟨ar, fun A outer s H args us vs Q E room quiet e0 bind rel h => ?_⟩
  have inK : K.In s.heap := e0.mod.kin.keeps fun b o e => (e0.bs b o e).1
  have noLim : s.heap.NoLimit := e0.mod.nolimit.keeps fun b o e => (e0.bs b o e).1
  have arity := ar _ _ _ _ h
  have kinds : ∀ y ∈ ps.zip us, (defScope st).names.lookup y.1 = some .local ∨ ((defScope st).names.lookup y.1 = some .cell ∧ ((cellsFrom (s.heap.objs.size + 1) (defScope st).names []).lookup y.1).isSome = true) := by
    rintro ⟨n, v⟩ hy
    rcases S.par n (List.of_mem_zip
          hy).1 with q | q
    · exact .inl q
    · exact .inr ⟨q, PySem.W.cellsFrom_some
          _ _ _ (.inl q)⟩
  refine codeAny_call_function room.depth (inK _ _ at_f) rfl S.co S.gen rfl (PySem.W.codeRec_of inK code) (bind _ _ _ _ ?_)
  refine wpAny_newFunctionEnv_cells S.kind kinds fun env same s1 made => ?_
  subst same
  refine ⟨noLim.keeps made.toInCall.keep, codeAny_func ?_⟩
  obtain ⟨t, der, rd⟩ := body cdv A outer s H vs Q E (room.deeper _) quiet h
  have I : Inv (cxOf CX0 P w K mg base N qual (defScope st) f cdv A outer s H E) [] (start N vs) H s1 := inv_start S room.hd e0 arity rel made
  refine wpAny_mono (der.nox.run [] s1 (start N vs) H _ I rd) (fun fl s2 z => ?_) fun _ _ z => z
  cases fl with
  | ret u =>
    obtain ⟨v, σ2, H2, J, rv, q⟩ := z
    exact ⟨v, H2, J.os, J.bare, J.base, J.hok, rv, q⟩
  | next =>
    obtain ⟨σ2, H2, J, q⟩ := z
    exact ⟨.non, H2, J.os, J.bare, J.base, J.hok, rfl, q⟩
  | brk =>
    obtain ⟨_, _, _, q⟩ := z
    exact q.elim
  | cont =>
    obtain ⟨_, _, _, q⟩ := z
    exact q.elim
/-- a call of such a def -/
theorem pe_callG {X : Cx} {k : Nat} {f : Addr} {fd : FuncData} {ps : List Str} {sp : Sp} {x : Str} {p pos : Pos} {e : Expr} {es : List Expr} {t : TA} (F : FnG X.prog X.w X.K X.mg X.base k f fd ps sp) (hr : Room k X.A) (hq : X.A.guards = some []) (hg : Gl X x) (hm : X.mg x = some (.ref f)) (hk : PySem.W.keepIn X.K (.ref f) = true)
    (hb : Binds X.K fd ps []) (ha : PA X (e :: es) t) (hdb : (x == ("__debug__" : Str)) = false := by decide) (he : starEach (e :: es) X.env = (false, eval e X.env) :: starEach es X.env := by rfl) (hpl : (backTo pos (starEach es X.env)).any (·.1) = false := by rfl) :
    PE X (.Call (.Name x p) (e :: es) [] pos) (tCall sp [] E0 t) := by
  constructor
  intro pins s σ H Q I h
  refine wpAny_Call_Name_kw
        (ld_glob I hg hm ?_ hdb)
  refine PySem.W.callWith_K (h₀ := X.base) I.ok.mod.kin hk (thn (ha.run pos pins s σ H _ I h) ?_) he hpl
  rintro us s1 ⟨vs, H1, I1, r, q⟩
  refine ⟨I1.kIn, ?_⟩
  have q' : sp vs H1 Q E0 := by
    have z : sp (vs ++ []) H1 Q E0 := q
    rwa [List.append_nil] at z
  have n : us.length = ps.length := by rw [← r.length]; exact F.ar _ _ _ _ q'
  have b := hb s1 us I1.kIn (by rw [List.append_nil]; exact n)
  rw [List.append_nil] at b
  refine wpAny_call (codeAny_mono (F.go X.A X.stack s1 H1 ⟨us, []⟩ us vs Q E0 hr hq I1.env0 b r q') fun res s2 z => ?_)
  cases res with
  | error er => exact (show False from z).elim
  | ok fl =>
    cases fl with
    | ret u => exact I1.after z
    | next => exact (show False from z).elim
    | brk => exact (show False from z).elim
    | cont => exact (show False from z).elim
/-- repr of nested data -/
def rRepD (K : PySem.W.Frag) : List V → Hp → VK → Prop := fun xs H Q => ∃ (a : Addr) (d : PyData), xs = [.ref a] ∧ Dp K H (.ref a) d ∧ d.showable = true ∧ d.hasDict = false ∧ d.depth ≤ 20 ∧ d.shown.length ≤ sizeLine ∧ Q (.str d.shown) H
theorem call_reprD {X : Cx} (hq : X.A.guards = some []) (hu : X.A.units + 64 < cLine) : CallR X (.builtin "repr") (rRepD X.K) := by
  rintro pins s σ H xs us Q I r ⟨a, d, rfl, dp, sh, nd, dep, sz, q⟩
  obtain ⟨u, rfl, (ru : u = .ref a)⟩ := vals1 r
  subst ru
  obtain ⟨as, rd⟩ := Dp.reads I d _ _ dp rfl
  refine repr_of_reads' rd sh (fun z => by rw [nd] at z; cases z) hq (by omega) (fun _ _ e => e) (fun h' u tk k => ?_) sz
  exact ⟨.str d.shown, H, I.kept k, ⟨u, rfl⟩, q⟩
/-- the law's own call -/
theorem law_callG {mb : Str → Option Value} {k : Nat} {fa a : Addr} {fd : FuncData} {x : Str} {sp : Sp} {s₁ : Shared} {vs : List Value} {ns : List Int} (inK : K.In s₁.heap) (glob : s₁.heap.Ns mainGlobals mg) (bi : s₁.heap.Ns builtinsNs mb) (bb : ∀ y : Str, y ≠ "__name__" → mb y = bootBuiltins y)
    (noLim : s₁.heap.NoLimit) (noGen : s₁.gens = #[]) (list : s₁.heap.get? a = some { cls := .type "list", data := .seq vs.toArray }) (wholes : IntsAre vs ns) (size : ns.length ≤ sizeLine) (room : Room k callerA)
    (F : ∀ base : Heap, K.In base → base.Ns mainGlobals mg → FnG P w K mg base k fa fd [x] sp) (bind : ∀ (s : Shared) (u : Value), BindsTo s fd ⟨[u], []⟩ [(x, u)]) (h : ∀ H : Hp, Only H → SqL K H a (ns.map V.int) → sp [.ref a] H (fun v _ => v = .bl true) fun _ _ _ => False) :
    codeAny (model P w) callerA (.call (.ref fa) ⟨[.ref a], []⟩) (fun r s' => r = .ok (.ret
          (.bool true)) ∧ OldK s₁.heap s'.heap ∧ s'.os = s₁.os ∧ AllBare s'.gens) s₁ := by
  have items := vals_ints wholes
  have few := wholes.length
  have main : ∀ H : Hp, Only H → SqL K H a (ns.map V.int) → HOk P w H s₁.heap → (∀ b u, H b = some u → b = a ∧ K.lookup a = none) →
      codeAny (model P w) callerA (.call (.ref fa) ⟨[.ref a], []⟩) (fun r s' => r = .ok (.ret
            (.bool true)) ∧ OldK s₁.heap s'.heap ∧ s'.os = s₁.os ∧ AllBare s'.gens) s₁ := by
    intro H only seq ok just
    have under : ∀ {b : Addr} {o : Obj}, s₁.heap.get? b = some o → H b = none → (hidT s₁.heap H).get? b = some o := fun e n => hidT_get e n
    have nsp : ∀ {b : Addr} {m : Str → Option Value}, s₁.heap.Ns b m → (hidT s₁.heap H).Ns b m := by
      rintro b m ⟨o, es, ep, e, d, r⟩
      refine ⟨o, es, ep, under e ?_, d, r⟩
      cases q : H b with
      | none => rfl
      | some u =>
        obtain ⟨rfl, _⟩ := just b u q
        rw [list] at e
        cases e
        exact nomatch (show Data.seq vs.toArray _ = Data.dict es ep from d)
    have inB : K.In (hidT s₁.heap H) := by
      intro b o e
      refine under (inK b o e) ?_
      cases q : H b with
      | none => rfl
      | some u =>
        obtain ⟨rfl, z⟩ := just b u q
        rw [z] at e
        cases e
    have modu : Mod K mg (hidT s₁.heap H) := by
      obtain ⟨mc, l1, l2⟩ := noLim
      exact ⟨inB, nsp glob, ⟨mb, nsp bi, bb⟩, ⟨mc, nsp l1, l2⟩⟩
    have e0 : Env0 P w K mg (hidT s₁.heap H) callerA [] s₁ H := ⟨rfl, modu, fun b o e => of_hidT e, Nat.le_of_eq (hidT_size _ _), trivial, fun b hb => absurd (show b ∈ ([] : List Addr) from hb) List.not_mem_nil, ok, .of_eq noGen⟩
    refine codeAny_mono ((F _ inB (nsp glob)).go callerA [] s₁ H ⟨[.ref a], []⟩ [.ref a] [.ref a] _ _ room rfl e0 (bind s₁ (.ref a)) (.cons rfl .nil) (h H only seq)) fun r s2 z => ?_
    cases r with
    | error e => exact (show False from z).elim
    | ok fl =>
      cases fl with
      | next => exact (show False from z).elim
      | brk => exact (show False from z).elim
      | cont => exact (show False from z).elim
      | ret u =>
        obtain ⟨v, H2, os, bare, un, ok2, rv, (q : v = .bl true)⟩ := z
        subst q
        obtain rfl : u = Value.bool true := rv
        refine ⟨rfl, OldK.of_keep fun
              b o e => ?_, os, bare⟩
        cases q : H b with
        | none => exact un.keep b o e q (by simp [frs]) (by simp)
        | some u =>
          rcases only b with y | ⟨ob, xs, y⟩
          · rw [q] at y
            cases y
          · have y2 := un.frzs b ob _ y
            obtain ⟨e1, _⟩ := ok b _ y
            obtain ⟨e2, _⟩ := ok2 b _ y2
            rw [e] at e1
            cases e1
            exact e2
  cases hk : K.lookup a with
  | some o =>
    have e := inK a o hk
    rw [list] at e
    cases e
    refine main (fun _ => none) (fun _ => .inl rfl) (.inr ⟨_, vs.toArray, _, hk, rfl, rfl, rfl, ?_, by simpa using items⟩) (fun b u z => nomatch (show (none : Option HO) = some u from z)) (fun b u z => nomatch (show (none : Option HO) = some u from z))
    rw [List.size_toArray, few]
    exact size
  | none =>
    have one : ∀ b u, (if b = a then some (HO.frz { cls := .type "list", data := .seq vs.toArray } (.lst (ns.map V.int))) else none) = some u → b = a ∧ u = HO.frz { cls := .type "list", data := .seq vs.toArray } (.lst (ns.map V.int)) := by
      intro b u z
      by_cases y : b = a
      · rw [if_pos y] at z
        exact ⟨y, (Option.some.inj z).symm⟩
      · rw [if_neg y] at z
        cases z
    refine main (fun b => if b = a then some (.frz { cls := .type "list", data := .seq vs.toArray } (.lst (ns.map V.int))) else none) (fun b => ?_) (.inl (.inr ⟨_, if_pos rfl⟩)) (fun b u z => ?_) (fun b u z => ⟨(one b u z).1, hk⟩)
    · by_cases y : b = a
      · exact .inr ⟨_, _, if_pos y⟩
      · exact .inl (if_neg y)
    · obtain ⟨rfl, rfl⟩ := one b u z
      exact ⟨list, by rw [List.length_map]; exact size, vs, _, items, list⟩
end
/-- the head's goal from such a promise -/
theorem walk_ofG {l : PySem.W.OpenLaw} {n k : Nat} {q : Program} {loose : List Str} {XP : (Str → Option Value) → Heap → Prop} {YP : World → Heap → Prop} {d : DefRec} {K : Params → PySem.W.Frag} {sp : World → Sp} {x : Str} (most : l.most = some n) (fits : n ≤ sizeLine) (noDef : d.params.defaults = []) (room : Room k callerA)
    (inK : ∀ (w : World) (h : Heap), YP w h → (K w.params).In h)
    (F : ∀ (w : World) (mg : Str → Option Value) (fa : Addr) (h : Heap), (K
          w.params).In h → h.Ns mainGlobals mg → mg d.name = some (.ref fa) →
      ∃ fd : FuncData, (∀ (s : Shared) (u : Value), BindsTo s fd ⟨[u], []⟩ [(x, u)]) ∧ ∀ base : Heap, (K w.params).In base → base.Ns mainGlobals mg → FnG l.prog w (K w.params) mg base k fa fd [x] (sp w))
    (h : ∀ (w : World) (H : Hp) (a : Addr) (ns : List Int), ns.length ≤ n → Only H → SqL (K w.params) H a (ns.map V.int) → sp w [.ref a] H (fun v _ => v = .bl true) fun _ _ _ => False) :
    PySem.W.WalkO q loose XP YP l.row.toRowW
          d [] (fun f vs => PySem.call f vs) := by
  refine Att.attach_call most noDef fun w s₀ s₁ mg mb fa o pm cd doc a vs ns G Y _ _ _ name list wholes len gens => ?_
  have KX := inK w _ Y
  obtain ⟨fd, bind, made⟩ := F w mg fa _ KX G.T.g name
  exact law_callG KX G.T.g G.T.b G.T.builtins G.T.nolimit gens list wholes (Nat.le_trans len fits) room made bind fun H only seq => h w H a ns len only seq
end L2

namespace L2
open PySem PySem.Spec PyProof.Rows
/-- how many have been met: all, where none is met twice -/
theorem met_len (f : Nat → Int) : ∀ i, (((List.range i).map f).Nodup → (firstMet f i).length = i) ∧ (¬ ((List.range i).map f).Nodup → (firstMet f i).length < i)
  | 0 => ⟨fun _ => rfl, fun h => absurd (by simp) h⟩
  | i + 1 => by
    obtain ⟨h1, h2⟩ := met_len f i
    have le := firstMet_length_le f i
    have key : (firstMet f i).any (· == f i) = ((List.range i).map f).any (· == f i) := firstMet_any f i (f i)
    rw [firstMet_succ, List.range_succ, List.map_append]
    unfold step_dedup
    rw [key]
    by_cases c : ((List.range i).map f).any (· == f i) = true
    · rw [if_pos c]
      obtain ⟨x, hx, e⟩ := List.any_eq_true.mp c
      have e : x = f i := eq_of_beq e
      subst e
      refine ⟨fun nd => ?_, fun _ => by omega⟩
      obtain ⟨_, _, z⟩ := List.nodup_append.mp nd
      exact absurd rfl (z _ hx _ (by simp))
    · rw [if_neg c, List.length_append, List.length_singleton]
      have nm : f i ∉ (List.range i).map f := fun hx => c (List.any_eq_true.mpr ⟨f i, hx, beq_self_eq_true _⟩)
      refine ⟨fun nd => ?_, fun nd => ?_⟩
      · rw [h1 (List.nodup_append.mp nd).1]
      · have := h2 fun y => nd (List.nodup_append.mpr ⟨y, by simp, fun a ha b hb => by
          simp only [List.map_cons, List.map_nil,
                List.mem_singleton] at hb
          rintro rfl
          exact nm (hb ▸ ha)⟩)
        omega
/-- len(set(xs)), xs whole numbers -/
def tLenSetA (K : PySem.W.Frag) (ta : TE) : TE := fun σ H Q => ta σ H fun x H1 => ∃ (l : Addr) (ns : List Int), x = V.ref l ∧ SqL K H1 l (ns.map V.int) ∧ ns.length + 1 < scanBound ∧ ∀ n : Nat, (ns.Nodup → n = ns.length) → (¬ ns.Nodup → n < ns.length) → Q (.int (n : Int)) H1
theorem pe_lenSetA {X : Cx} {a : Expr} {ta : TE} {p p2 q pos : Pos} (hc : X.calm = true) (gl : Gl X "len") (ml : X.mg "len" = none) (gs : Gl X "set") (ms : X.mg "set" = none) (ha : PE X a ta)
    (one : starEach [a] X.env = (false, eval a X.env) :: starEach [] X.env := by rfl) : PE X (.Call (.Name "len" p) [.Call (.Name "set" p2) [a] [] q] [] pos) (tLenSetA X.K ta) := by
  constructor
  intro pins s σ H Q I h
  refine Call_ (ld_blt I gl ml PySem.boot_len (PyProof.Rows.callWith_builtin1 (PyProof.Rows.args_cons ?_ rfl) rfl rfl))
  refine Call_ (ld_blt I gs ms PyProof.Rows.boot_set (PyProof.Rows.callWith_type1 (PyProof.Rows.args_cons (thn (ha.run pins s σ H _ I h) ?_) one) one rfl))
  rintro v s1 ⟨x, H1, I1, rx, l, ns, rfl, seq, few, z⟩
  obtain rfl : v = Value.ref l := rx
  refine PyProof.Rows.args_nil ?_
  obtain ⟨its, rv, at_l, _⟩ := I1.list seq
  have len : its.length = ns.length := by rw [← rv.length, List.length_map]
  refine call_set_list (I1.ok.hd hc) at_l.isList (intsAre_of rv) (by rw [List.size_toArray, len]; exact few) fun h' tk made keep => ?_
  have sz : its.toArray.size = ns.length := by rw [List.size_toArray, len]
  rw [sz] at made
  have all : (List.range ns.length).map (fun i => ns.getD i 0) = ns := by
    apply List.ext_getElem?
    intro i
    rw [List.getElem?_map]
    by_cases y : i < ns.length
    · rw [List.getElem?_range y, List.getElem?_eq_getElem y]
      simp [List.getD_eq_getElem?_getD, List.getElem?_eq_getElem y]
    · rw [List.getElem?_eq_none (by simpa using Nat.le_of_not_lt y), List.getElem?_eq_none (Nat.le_of_not_lt y)]
      rfl
  obtain ⟨m1, m2⟩ := met_len (fun i => ns.getD i 0) ns.length
  rw [all] at m1 m2
  have bound := firstMet_length_le (fun i => ns.getD i 0) ns.length
  have small : scanBound ≤ 2 ^ 62 := by decide
  refine PyProof.Rows.args_nil ?_
  obtain ⟨o, es, ep, t, ho, ex, hd, _, _, _, hf, hn⟩ := made
  have I2 : Inv X pins σ H1 { s1 with heap := h', toks := tk } := I1.kept fun b o e => keep b o (Heap.lt_size e) e
  exact call_len_set ho ex hd hf (by rw [hn]; omega) ⟨.int _, H1, I2.tok _, ⟨_, by rw [hn]⟩, z _ m1 m2⟩
end L2

namespace L2
open PySem PySem.Spec PyProof.Rows
/-- f(c = .., b = .., a = ..): all by name, in the reverse order -/
def rev3 {α : Type} : List α → List α → List α
  | [], [c, b, a] => [a, b, c]
  | _, _ => []
theorem rev3_vals {vs zs : List V} {us ws : List Value} (r : Vals vs us) (q : Vals zs ws) : Vals (rev3 vs zs) (rev3 us ws) := by
  cases r with
  | nil =>
    cases q with
    | nil => exact .nil
    | cons h1 q =>
      cases q with
      | nil => exact .nil
      | cons h2 q =>
        cases q with
        | nil => exact .nil
        | cons h3 q =>
          cases q with
          | nil => exact .cons h3 (.cons h2 (.cons h1 .nil))
          | cons h4 q => exact .nil
  | cons h r => exact .nil
def rev4 {α : Type} : List α → List α → List α
  | [], [d, c, b, a] => [a, b, c, d]
  | _, _ => []
theorem rev4_vals {vs zs : List V} {us ws : List Value} (r : Vals vs us) (q : Vals zs ws) : Vals (rev4 vs zs) (rev4 us ws) := by
  cases r with
  | nil =>
    cases q with
    | nil => exact .nil
    | cons h1 q =>
      cases q with
      | nil => exact .nil
      | cons h2 q =>
        cases q with
        | nil => exact .nil
        | cons h3 q =>
          cases q with
          | nil => exact .nil
          | cons h4 q =>
            cases q with
            | nil => exact .cons h4 (.cons h3 (.cons h2 (.cons h1 .nil)))
            | cons h5 q => exact .nil
  | cons h r => exact .nil
/-- as Cal, and how a call by names binds -/
def CalK (P : Program) (w : World) (K : PySem.W.Frag) (mg : Str → Option Value) (base : Heap) (x : Str) (ps : List Str) (k : Nat) (sp : Sp) (ks : List Str) (g : List Value → List Value → List Value) (gV : List V → List V → List V) : Prop :=
  ∃ (f : Addr) (fd : FuncData), mg x = some (.ref f) ∧ PySem.W.keepIn K (.ref f) = true ∧ Binds K fd ps [] ∧ FnOk P w K mg base CX0 k f fd ps sp ∧ KBinds K fd ps ks g gV
theorem CalK.cal {P w K mg base x ps k sp ks g gV} (C : CalK P w K mg base x ps k sp ks g gV) : Cal P w K mg base x ps k sp := by
  obtain ⟨f, fd, a, b, c, d, _⟩ := C
  exact ⟨f, fd, a, b, c, d⟩
theorem Def.okK {P : Program} {w : World} {K : PySem.W.Frag} {mg : Str → Option Value} {base : Heap} {x : Str} {st : Stmt} {N ps ks : List Str} {k : Nat} {sp : Sp} {g : List Value → List Value → List Value} {gV : List V → List V → List V} (D : Def K mg x st) (S : FnScope N ps (defScope st))
    (hkb : ∀ (kV doc pm : Value) (an : Option Addr) (cdv ct : Value) (us ws : List Value), (g us ws).length = ps.length → bindArgs (PySem.W.fnOf x x (defArgs st) (defBody st) (defScope st) .none kV doc pm an cdv ct) ⟨us, ks.zip ws⟩ = pure (ps.zip (g us ws)))
    (hrel : ∀ {vs : List V} {us : List Value} {zs : List V} {ws : List Value}, Vals vs us → Vals zs ws → Vals (gV vs zs) (g us ws))
    (hb : ∀ (kV doc pm : Value) (an : Option Addr) (cdv ct : Value) (us : List Value), us.length = ps.length → bindArgs (PySem.W.fnOf x x (defArgs st) (defBody st) (defScope st) .none kV doc pm an cdv ct) ⟨us, []⟩ = pure (ps.zip us))
    (ar : ∀ vs H Q E, sp vs H Q E → vs.length = ps.length)
    (hbody : ∀ (f : Addr) (cdv : Value) (A : Around) (outer : List Env) (s : Shared) (H : Hp) (vs : List V) (Q : VK) (E : XK), Room k (A.deeper (envOfC x (defScope st) s.heap.objs.size f cdv)) → sp vs H Q E →
      ∃ t, PSs (cxOf CX0 P w K mg base N x (defScope st) f cdv A outer s H E).nox (defBody st) t ∧ t { nx := fun _ H' => Q .non H', rt := Q } (start N vs) H) : CalK P w K mg base x ps (k + 1) sp ks g gV := by
  obtain ⟨f, fd, F, m⟩ := D
  refine ⟨f, fd, m, F.kp, F.binds hb, F.ok S ar fun cdv A outer s H vs Q E hr h => hbody f cdv A outer s H vs Q E hr h, ?_, hrel⟩
  obtain ⟨oc, od, kV, doc, pm, an, cdv,
        ct, osl, rfl, lk, hcd⟩ := F.ex
  intro s us ws _ hl
  exact BindsTo.of_eq (hkb kV doc pm an cdv ct us ws hl)
section
variable {X : Cx} {CX : CXT} {k : Nat} {f : Addr} {fd : FuncData} {ps ks : List Str} {sp : Sp} {E : XK} {x : Str} {p pos : Pos} {kws : List Keyword} {tk : TA} {g : List Value → List Value → List Value} {gV : List V → List V → List V}
/-- f(k = v, ..), nothing by position -/
theorem pe_callK0 (F : FnOk X.prog X.w X.K X.mg X.base CX k f fd ps sp) (hr : Room k X.A) (hg : Gl X x) (hm : X.mg x = some (.ref f)) (hk : PySem.W.keepIn X.K (.ref f) = true) (hb : KBinds X.K fd ps ks g gV) (hx : Passes CX X E)
    (hkw : PK X kws tk) (hall : (backToKw pos (keywordEach kws X.env)).all (·.1.isSome) = true := by rfl) (hks : (backToKw pos (keywordEach kws X.env)).filterMap (·.1) = ks := by rfl)
    (hdb : (x == ("__debug__" : Str)) = false := by decide)
    (hpl : ((backTo pos (starEach [] X.env)).any (·.1) || (backToKw pos
          (keywordEach kws X.env)).any (·.1.isNone)) = false := by rfl) :
    PE X (.Call (.Name x p) [] kws pos) (tCallK sp gV E tNil tk) := by
  refine ⟨fun pins s σ H Q I h => ?_⟩
  refine wpAny_Call_Name_kw
        (ld_glob I hg hm ?_ hdb)
  have h : tk σ H (fun zs H2 => sp (gV [] zs) H2 Q E) := h
  refine PySem.W.callWith_KW0 (h₀ := X.base) I.ok.mod.kin hk hall (thn (hkw.run pos pins s σ H _ I h) fun ws s2 ⟨zs, H2, I2, rz, q2⟩ => ⟨I2.kIn, ?_⟩) hpl
  rw [hks]
  exact run_fnk (us := []) (vs := []) F hr hb hx I2 .nil rz q2
end
end L2

namespace L2
open PySem PySem.Spec PyProof.Rows
def rev2 {α : Type} : List α → List α → List α
  | [], [b, a] => [a, b]
  | _, _ => []
theorem rev2_vals {vs zs : List V} {us ws : List Value} (r : Vals vs us) (q : Vals zs ws) : Vals (rev2 vs zs) (rev2 us ws) := by
  cases r with
  | nil =>
    cases q with
    | nil => exact .nil
    | cons h1 q =>
      cases q with
      | nil => exact .nil
      | cons h2 q =>
        cases q with
        | nil => exact .cons h2 (.cons h1 .nil)
        | cons h3 q => exact .nil
  | cons h r => exact .nil
end L2

namespace PySem
open Sem (wp)
/-! own rule: sum(lists, []) joins lists -/
section
variable {prog : Program} {w : World} {A : Around} {R : Result → Shared → Prop} {I l : Addr} {its : Array Value} {h₀ : Heap} {Ls : List (List Value)}
theorem args_sum2 (a b : Value) : argsOk "sum" ⟨[a, b], []⟩ := by unfold argsOk; kernel_rfl
theorem codeAny_sum_lists (hh : A.handled = none) (hne : l ≠ I)
    (hv : ∀ (i : Nat) (v : Value), its[i]? = some v → ∃ (r : Addr) (xs : List Value) (m : Nat), v = Value.ref r ∧ Ls[i]? = some xs ∧ h₀.get? r = some { cls := .type "list", data := .seq xs.toArray m }) (hn : Ls.length = its.size) (S : Addr) (hSI : S ≠ I) (hSl : S ≠ l)
    (h0S : h₀.get? S = none) (h0I : h₀.get? I = none) (n₀ : Nat) :
    ∀ (k i : Nat) (s : Shared) (tot : Addr) (acc : List Value) (c m : Nat), its.size - i = k → i ≤ its.size → n₀ ≤ s.heap.objs.size → s.heap.IsListIter I l i → s.heap.IsList l its → (∀ b o, h₀.get? b = some o → s.heap.get? b = some o) →
    s.heap.get? S = some { cls := .type "list", dict := none, data := .seq #[.ref tot] c, slots := #[] } → s.heap.get? tot = some { cls := .type "list", data := .seq acc.toArray m } → tot ≠ S → tot ≠ I → acc.length + (Ls.drop i).flatten.length ≤ sizeLine →
    (∀ (h' : Heap) (t : Addr) (m' : Nat), (∀ b o, h₀.get? b = some o → h'.get? b = some o) → (n₀ ≤ tot ∨ i < its.size → n₀ ≤ t) → h'.get? t = some { cls := .type "list", data := .seq (acc ++ (Ls.drop i).flatten).toArray m' } → R (.ok (.ret (.ref t))) { s with heap := h' }) →
    codeAny (model prog w) A (.builtin "sum.loop" ⟨[.ref I, .ref S, rawInt 2, rawInt 0], []⟩) R s := by
  intro k
  induction k with
  | zero =>
    intro i s tot acc c m hk hi hn0 hit hl hold hS ht htS htI hlen hR
    have hin : i = its.size := by omega
    subst hin
    refine codeAny_builtin F.entry_sum_loop ?_
    rw [Around.under_plainId F.plain_sum_loop _]
    show wpAny _ A.in1 (seqItems?
          (.ref S) >>= _) _ _ s
    refine wpAny_bind (wpAny_seqItems hS rfl ?_)
    show wpAny _ A.in1 (tryCatch (pyNext
          (.ref I)) _ >>= _) _ _ s
    refine wpAny_bind (wpAny_tryCatch (wpAny_pyNext_list_end (A := A.in1) hh hit hl (by simp) fun h' he => ?_))
    refine wpAny_pure (hR h' tot m (fun b o e => he b o (fun z => by rw [z, h0I] at e; cases e) (hold b o e)) (fun z => z.elim id fun z => absurd z (Nat.lt_irrefl _)) ?_)
    have e : Ls.drop its.size = [] := by rw [← hn]; exact List.drop_length
    rw [e, List.flatten_nil, List.append_nil]
    exact he tot _ htI ht
  | succ k ih =>
    intro i s tot acc c m hk hi hn0 hit hl hold hS ht htS htI hlen hR
    have hlt : i < its.size := by omega
    obtain ⟨r, xs, m2, hv1, hv2, hv3⟩ := hv i its[i] (by simp [hlt])
    have hdrop : Ls.drop i = xs :: Ls.drop (i + 1) := by
      rw [List.drop_eq_getElem_cons (by omega)]
      congr 1
      exact Option.some.inj ((List.getElem?_eq_getElem (by omega)).symm.trans hv2)
    rw [hdrop, List.flatten_cons, List.length_append] at hlen
    refine codeAny_builtin F.entry_sum_loop ?_
    rw [Around.under_plainId F.plain_sum_loop _]
    show wpAny _ A.in1 (seqItems?
          (.ref S) >>= _) _ _ s
    refine wpAny_bind (wpAny_seqItems hS rfl ?_)
    show wpAny _ A.in1 (tryCatch (pyNext
          (.ref I)) _ >>= _) _ _ s
    refine wpAny_bind (wpAny_tryCatch (wpAny_pyNext_list_item hit hl (x := its[i]) (by simp [hlt]) fun h1 hit1 sb => ?_))
    rw [hv1]
    have hl1 : h1.IsList l its := hl.extBut sb.extBut hne
    have old1 : ∀ b o, b ≠ I → s.heap.get? b = some o → h1.get? b = some o := fun b o hb e => (sb.2 b hb).trans e
    have hS1 := old1 S _ hSI hS
    have ht1 := old1 tot _ htI ht
    have hr1 : h1.get? r = some _ := old1 r _ (fun z => by rw [z, h0I] at hv3; cases hv3) (hold _ _ hv3)
    show wpAny _ A.in1 ((holding [Value.ref r] (binaryOp .Add (.ref tot) (.ref r))).attempt >>= _) _ _ _
    refine wpAny_bind (wpAny_attempt (wpAny_holding (P.add_list ht1 hr1 ?_ (by rw [List.size_toArray, List.size_toArray]; omega))))
    have hSlt : S < h1.objs.size := Heap.lt_size hS1
    have hIlt : I < h1.objs.size := by obtain ⟨o, e, _⟩ := id hit1; exact Heap.lt_size e
    have hllt : l < h1.objs.size := by obtain ⟨o, e, _⟩ := id hl1; exact Heap.lt_size e
    have ea : acc.toArray ++ xs.toArray = (acc ++ xs).toArray := by simp
    rw [ea]
    have hS2 : (h1.push { cls := .type "list", data := .seq (acc ++ xs).toArray }).get? S = some _ := Heap.get?_push_of_some _ hS1
    show wpAny _ A.in1 (updateSeq S (fun _ => #[.ref h1.objs.size]) >>= _) _ _ _
    refine wpAny_bind (wpAny_updateSeq
          hS2 rfl ?_)
    have hS3 := Heap.get?_update_self (Obj.mapSeq fun _ => #[Value.ref h1.objs.size]) hS2 rfl
    refine wpAny_bind (wpAny_letGo ?_)
    refine wpAny_bind (wpAny_updateSeq hS3 rfl (wpAny_pure ⟨plainId_quiet F.plain_sum_loop _, ?_⟩))
    have keep : ∀ b o, b ≠ S → (h1.push { cls := .type "list", data := .seq (acc ++ xs).toArray }).get? b = some o → (((h1.push { cls := .type "list", data := .seq (acc ++ xs).toArray }).update S (Obj.mapSeq fun _ => #[Value.ref h1.objs.size])).update S (Obj.mapSeq fun _ => #[Value.ref h1.objs.size])).get? b = some o :=
      fun b o hb e => (Heap.get?_update_other _ _ (Ne.symm hb)).trans
            ((Heap.get?_update_other _ _ (Ne.symm hb)).trans e)
    have neS : h1.objs.size ≠ S := Nat.ne_of_gt hSlt
    have neI : h1.objs.size ≠ I := Nat.ne_of_gt hIlt
    have e1 : h1.objs.size = s.heap.objs.size := sb.1
    have esz : (((h1.push { cls := .type "list", data := .seq (acc ++ xs).toArray }).update S (Obj.mapSeq fun _ => #[Value.ref h1.objs.size])).update S (Obj.mapSeq fun _ => #[Value.ref h1.objs.size])).objs.size = h1.objs.size + 1 := by
      rw [Heap.size_update, Heap.size_update, Heap.size_push]
    refine ih (i + 1) _ h1.objs.size (acc ++ xs) _ 0 (by omega) hlt (Nat.le_trans (by omega : n₀ ≤ h1.objs.size + 1) (Nat.le_of_eq esz.symm)) (hit1.at fun o e => keep I o (Ne.symm hSI) (Heap.get?_push_of_some _ e)) (hl1.at fun o e => keep l o (Ne.symm hSl) (Heap.get?_push_of_some _ e)) (fun b o e => ?_)
      (Heap.get?_update_self _ hS3 rfl) (keep _ _ neS (Heap.get?_push_size _ rfl)) neS neI (by rw [List.length_append]; omega) fun h' t m' hk' hf ht' => ?_
    · refine keep b o (fun z => by rw [z, h0S] at e; cases e) (Heap.get?_push_of_some _ (old1 b o (fun z => by rw [z, h0I] at e; cases e) (hold b o e)))
    · refine hR h' t m' hk' (fun _ => hf (.inl (by omega : n₀ ≤ h1.objs.size))) ?_
      · rw [hdrop, List.flatten_cons, ← List.append_assoc]
        exact ht'
end
section
variable {prog : Program} {w : World} {A : Around} {E : Value → Shared → Prop} {s : Shared} {l e : Addr} {its : Array Value} {Ls : List (List Value)}
theorem call_sum_lists {Q : Value → Shared → Prop} (hh : A.handled = none) (hl : s.heap.IsList l its)
    (hv : ∀ (i : Nat) (v : Value), its[i]? = some v → ∃ (r : Addr) (xs : List Value) (m : Nat), v = Value.ref r ∧ Ls[i]? = some xs ∧ s.heap.get? r = some { cls := .type "list", data := .seq xs.toArray m }) (hn : Ls.length = its.size) (hpos : 0 < its.size)
    {me : Nat} (he : s.heap.get? e = some { cls := .type "list", data := .seq #[] me }) (hlen : Ls.flatten.length ≤ sizeLine)
    (h : ∀ (h' : Heap) (t : Addr) (m' : Nat), (∀ b o, s.heap.get? b = some o → h'.get? b = some o) → s.heap.objs.size ≤ t → h'.get? t = some { cls := .type "list", data := .seq Ls.flatten.toArray m' } → Q (.ref t) { s with heap := h' }) :
    wpAny (model prog w) A (call (.builtin "sum") [.ref l, .ref e]) Q E s := by
  refine call_function_tree F.kind_sum F.plain_sum F.entry_sum (args_sum2 _ _) ?_
  unfold Builtin.«sum»
  simp only [List.length_cons,
        List.length_nil]
  rw [if_neg (by decide)]
  refine wpAny_bind (wpAny_of_eq (show Builtin.Builtins.bindParams "sum" ["start"] 0 ⟨[.ref e], []⟩ = pure [some (.ref e)] from rfl) ?_)
  have hlt : l < s.heap.objs.size := match hl with | ⟨_, z, _⟩ => Heap.lt_size z
  have helt : e < s.heap.objs.size
        := Heap.lt_size he
  refine wpAny_bind (wpAny_pyIter_list hl ?_)
  refine wpAny_bind (wpAny_pure ?_)
  have he1 : (s.heap.push { cls := .type "list_iterator", data := .fields #[.ref l, .int 0 0] }).get? e = some _ := Heap.get?_push_of_some _ he
  have ty : ∀ s' : Shared, s'.heap.get? e = some { cls := .type "list", data := .seq #[] me } → s'.TypeIs (.ref e) "list" := fun s' q => ⟨_, q, rfl⟩
  simp only [List.forIn_cons, List.forIn_nil]
  refine wpAny_bind (wpAny_bind (wpAny_bind (wpAny_isInstance (T := "list") (b := false) (ty _ he1) F.sub_list_str ?_)))
  simp only [Bool.false_eq_true, if_false]
  refine wpAny_pure (wpAny_bind (wpAny_bind (wpAny_isInstance (T := "list") (b := false) (ty _ he1) F.sub_list_bytes ?_)))
  simp only [Bool.false_eq_true, if_false]
  refine wpAny_pure (wpAny_bind (wpAny_bind (wpAny_isInstance (T := "list") (b := false) (ty _ he1) F.sub_list_bytearray ?_)))
  simp only [Bool.false_eq_true, if_false]
  refine wpAny_pure (wpAny_pure ?_)
  refine wpAny_bind (wpAny_newObj_type ?_)
  have free : ∀ b, s.heap.objs.size ≤ b → s.heap.get? b = none := fun b hb => by
    cases q : s.heap.get? b with
    | none => rfl
    | some o => exact absurd (Heap.lt_size q) (Nat.not_lt.mpr hb)
  have sz1 : (s.heap.push { cls := .type "list_iterator", data := .fields #[.ref l, .int 0 0] }).objs.size = s.heap.objs.size + 1 := Heap.size_push _ _
  have e0 : Ls.drop 0 = Ls := rfl
  refine wpAny_pure ⟨plainId_quiet F.plain_sum_loop _, codeAny_sum_lists (A := A) (h₀ := s.heap) (Ls := Ls) hh (Nat.ne_of_lt hlt) hv hn _ (by rw [sz1]; exact Nat.succ_ne_self _) (by rw [sz1]; exact Nat.ne_of_gt (Nat.lt_succ_of_lt hlt)) (free _ (by rw [sz1]; exact Nat.le_succ _)) (free _ (Nat.le_refl _)) s.heap.objs.size its.size 0 _ e [] 0 me rfl (Nat.zero_le _)
    (by rw [Heap.size_push, sz1]; exact Nat.le_trans (Nat.le_succ _) (Nat.le_succ _)) ⟨_, Heap.get?_push_of_some _ (Heap.get?_push_size _ rfl), rfl, rfl⟩ ((hl.push _).push _) (fun b o q => Heap.get?_push_of_some _ (Heap.get?_push_of_some _ q)) (Heap.get?_push_size _ rfl) (Heap.get?_push_of_some _ he1)
    (by rw [sz1]; exact Nat.ne_of_lt (Nat.lt_succ_of_lt helt)) (Nat.ne_of_lt helt) (by rw [e0, List.length_nil, Nat.zero_add]; exact hlen) fun h' t m' k1 k2 k3 => ?_⟩
  exact h h' t m' k1 (k2 (.inr hpos)) k3
end
end PySem

namespace L2
open PySem PySem.Spec PyProof.Rows
/-- sum(lists, []): the lists joined -/
def rSumL (K : PySem.W.Frag) : List V → Hp → VK → Prop := fun vs H Q => ∃ (q e : Addr) (rs : List Addr) (Ls : List (List V)), vs = [V.ref q, V.ref e] ∧ H q = some (.lst (rs.map V.ref)) ∧ H e = some (.lst []) ∧ rs.length = Ls.length ∧ 0 < rs.length ∧
  (∀ (i : Nat) (r : Addr) (L : List V), rs[i]? = some r → Ls[i]? = some L → H r = some (.lst L)) ∧ Ls.flatten.length ≤ sizeLine ∧ ∀ p, H p = none → Q (.ref p) (upd H p (.lst Ls.flatten))
theorem raw_lists {X : Cx} {pins : List (Addr × Obj)} {σ : St} {H : Hp} {s : Shared} (I : Inv X pins σ H s) : ∀ (rs : List Addr) (Ls : List (List V)), rs.length = Ls.length → (∀ (i : Nat) (r : Addr) (L : List V), rs[i]? = some r → Ls[i]? = some L → H r = some (.lst L)) →
    ∃ Rs : List (List Value), Rs.length = rs.length ∧ Vals Ls.flatten Rs.flatten ∧ ∀ (i : Nat) (r : Addr), rs[i]? = some r → ∃ (xs : List Value) (m : Nat), Rs[i]? = some xs ∧ s.heap.get? r = some { cls := .type "list", data := .seq xs.toArray m }
  | [], [], _, _ => ⟨[], rfl, .nil, fun i r h => by simp at h⟩
  | [], _ :: _, h, _ => by simp at h
  | _ :: _, [], h, _ => by simp at h
  | r :: rs, L :: Ls, h, hl => by
    obtain ⟨Rs, h1, h2, h3⟩ := raw_lists I rs Ls (by simpa using h) fun i r' L' a b => hl (i + 1) r' L' a b
    obtain ⟨z, its, n, rv, hlen, e⟩ := I.lstM (hl 0 r L rfl rfl)
    refine ⟨its :: Rs, by simp [h1], ?_, fun i r' hr => ?_⟩
    · rw [List.flatten_cons, List.flatten_cons]
      exact rv.append h2
    · cases i with
      | zero =>
        cases hr
        exact ⟨its, n, rfl, e⟩
      | succ i => exact h3 i r' hr
theorem cr_sumL {X : Cx} (hc : X.calm = true) : CallR X (.builtin "sum") (rSumL X.K) := by
  rintro pins s σ H vs us Q I r ⟨q, e, rs, Ls, rfl, hq, he, hlen, hpos, hl, hsz, hQ⟩
  cases r with
  | cons r1 r =>
    cases r with
    | cons r2 r =>
      cases r
      cases r1
      cases r2
      obtain ⟨z, its, n, rv, hlen1, eq⟩ := I.lstM hq
      obtain ⟨z2, its2, n2, rv2, hlen2, ee⟩ := I.lstM he
      cases rv2
      obtain ⟨Rs, h1, h2, h3⟩ := raw_lists I rs Ls hlen hl
      have hits : ∀ (i : Nat) (v : Value), its[i]? = some v → ∃ r, v = Value.ref r ∧ rs[i]? = some r := by
        intro i v hv
        have hi : i < its.length := (List.getElem?_eq_some_iff.mp hv).1
        have hn' : its.length = rs.length := by rw [← hlen1, List.length_map]
        have hr : rs[i]? = some (rs[i]'(by omega)) := List.getElem?_eq_getElem (by omega)
        obtain ⟨u, hu, ru⟩ := rv.get (i := i) (x := .ref (rs[i]'(by omega))) (by rw [List.getElem?_map, hr]; rfl)
        rw [hv] at hu
        cases hu
        exact ⟨_, ru, hr⟩
      have hn : its.length = rs.length := by rw [← hlen1, List.length_map]
      refine call_sum_lists (its := its.toArray) (Ls := Rs) (I.ok.hd hc) ⟨_, eq, rfl, _, rfl⟩ (fun i v hv => ?_) (by rw [List.size_toArray, hn, h1]) (by rw [List.size_toArray, hn]; exact hpos) ee (by rw [← h2.length]; exact hsz) fun h' t m' k1 k2 k3 => ?_
      · obtain ⟨r, rfl, hr⟩ := hits i v (by simpa using hv)
        obtain ⟨xs, m, a, b⟩ := h3 i r hr
        exact ⟨r, xs, m, rfl, a, b⟩
      · exact ⟨.ref t, upd H t (.lst Ls.flatten), I.laid (t' := s.toks) k1 k2 ⟨hsz, Rs.flatten, m', h2, k3⟩, rfl, hQ t (I.hok.fresh k2)⟩
end L2

namespace L2
open PySem
/-! how long a text of nested data may be -/
theorem shown_int64 : ∀ x : Fin 64, (PyData.shown (.int (x.val : Int))).length ≤ 2 := by decide +kernel
theorem shown_nat {x : Nat} (h : x < 64) : (PyData.shown (.int (x : Int))).length ≤ 2 := shown_int64 ⟨x, h⟩
theorem textFrom_le : ∀ (ts : List Str) (m k : Nat) (acc : Str), (∀ t ∈ ts, t.length ≤ m) → (textFrom k acc ts).length ≤ acc.length + ts.length * (m + 2)
  | [], m, k, acc, h => by show acc.length ≤ _; simp
  | t :: r, m, k, acc, h => by
    have ih := textFrom_le r m (k + 1) (acc ++ (if k > 0 then ", " else "" : String) ++ t) fun t ht => h t (List.mem_cons_of_mem _ ht)
    have h1 := h t List.mem_cons_self
    have e : (acc ++ Str.ofString (if k > 0 then ", " else "" : String) ++ t).length ≤ acc.length + 2 + t.length := by
      rw [strLen_append, strLen_append]
      have : (Str.ofString (if k > 0 then ", " else "" : String)).length ≤ 2 := by
        split <;> decide +kernel
      omega
    show (textFrom (k + 1) (acc ++ Str.ofString (if k > 0 then ", " else "" : String) ++ t) r).length ≤ _
    refine Nat.le_trans ih ?_
    rw [List.length_cons, Nat.succ_mul]
    exact Nat.le_trans (Nat.add_le_add_right e _) (by omega)
theorem piled_le : ∀ (ts : List Str) (m : Nat), (∀ t ∈ ts, t.length ≤ m) → piled ts ≤ ts.length * (m + 2)
  | [], m, h => by simp [piled]
  | t :: r, m, h => by
    have ih := piled_le r m fun t ht => h t (List.mem_cons_of_mem _ ht)
    have h1 := h t List.mem_cons_self
    rw [piled_cons, List.length_cons, Nat.succ_mul]
    omega
theorem listText_le (ts : List Str) (m : Nat) (h : ∀ t ∈ ts, t.length ≤ m) : (listText ts).length ≤ ts.length * (m + 2) + 2 := by
  unfold listText
  rw [strLen_append]
  have := textFrom_le ts m 0 "[" h
  have e1 : ((("[" : String) : Str)).length = 1 := rfl
  have e2 : ((("]" : String) : Str)).length = 1 := rfl
  omega
theorem tupleText_le (ts : List Str) (m : Nat) (h : ∀ t ∈ ts, t.length ≤ m) : (tupleText ts).length ≤ ts.length * (m + 2) + 3 := by
  unfold tupleText
  rw [strLen_append, strLen_append]
  have e1 : ((("(" : String)
        : Str)).length = 1 := rfl
  have e3 : (((if ts.length == 1 then ",)" else ")" : String) : Str)).length ≤ 2 := by split <;> decide
  have h2 := piled_le ts m h
  cases ts with
  | nil =>
    have e4 : (Str.join ", " ([] : List Str)).length = 0 := rfl
    omega
  | cons x r =>
    have := join_length_add (x :: r) (by simp)
    omega
theorem shownAll_map : ∀ l : List PyData, PyData.shownAll l = l.map PyData.shown
  | [] => rfl
  | x :: r => by
    rw [PyData.shownAll, shownAll_map r]
    rfl
theorem shown_tup_le (l : List PyData) (m : Nat) (h : ∀ d ∈ l, d.shown.length ≤ m) : (PyData.tuple l).shown.length ≤ l.length * (m + 2) + 3 := by
  have := tupleText_le (l.map PyData.shown) m fun t ht => by
    obtain ⟨d, hd, rfl⟩ := List.mem_map.mp ht
    exact h d hd
  rw [List.length_map] at this
  rw [PyData.shown, shownAll_map]
  exact this
theorem shown_list_le (l : List PyData) (m : Nat) (h : ∀ d ∈ l, d.shown.length ≤ m) : (PyData.list l).shown.length ≤ l.length * (m + 2) + 2 := by
  have := listText_le (l.map PyData.shown) m fun t ht => by
    obtain ⟨d, hd, rfl⟩ := List.mem_map.mp ht
    exact h d hd
  rw [List.length_map] at this
  rw [PyData.shown, shownAll_map]
  exact this
end L2

namespace L2
open PySem PySem.Spec PyProof.Rows
/-- as Cal, where no guard stands -/
def CalG (P : Program) (w : World) (K : PySem.W.Frag) (mg : Str → Option Value) (base : Heap) (x : Str) (ps : List Str) (k : Nat) (sp : Sp) : Prop :=
  ∃ (f : Addr) (fd : FuncData), mg x = some (.ref f) ∧ PySem.W.keepIn K (.ref f) = true ∧ Binds K fd ps [] ∧ FnG P w K mg base k f fd ps sp
theorem Def.okG {P : Program} {w : World} {K : PySem.W.Frag} {mg : Str → Option Value} {base : Heap} {x : Str} {st : Stmt} {N ps : List Str} {k : Nat} {sp : Sp} (D : Def K mg x st) (S : FnScope N ps (defScope st))
    (hb : ∀ (kV doc pm : Value) (an : Option Addr) (cdv ct : Value) (us : List Value), us.length = ps.length → bindArgs (PySem.W.fnOf x x (defArgs st) (defBody st) (defScope st) .none kV doc pm an cdv ct) ⟨us, []⟩ = pure (ps.zip us))
    (ar : ∀ vs H Q E, sp vs H Q E → vs.length = ps.length)
    (hbody : ∀ (f : Addr) (cdv : Value) (A : Around) (outer : List Env) (s : Shared) (H : Hp) (vs : List V) (Q : VK) (E : XK), Room k (A.deeper (envOfC x (defScope st) s.heap.objs.size f cdv)) → (A.deeper (envOfC x (defScope st) s.heap.objs.size f cdv)).guards = some [] → sp vs H Q E →
      ∃ t, PSs (cxOf CX0 P w K mg base N x (defScope st) f cdv A outer s H E).nox (defBody st) t ∧ t { nx := fun _ H' => Q .non H', rt := Q } (start N vs) H) : CalG P w K mg base x ps (k + 1) sp := by
  obtain ⟨f, fd, F, m⟩ := D
  exact ⟨f, fd, m, F.kp, F.binds hb, F.okG S ar fun cdv A outer s H vs Q E hr hq h => hbody f cdv A outer s H vs Q E hr hq h⟩
end L2

namespace K5
open PySem PySem.Spec PyProof.Rows L2
def top (i : Nat) : Stmt := PySem.Challenge.pw_lastthrough_k20_regions_and_walks.main.body.getD i (.Pass ⟨0, 0, 0, 0⟩)
abbrev s_is_whole : Stmt := top 7
abbrev N_is_whole : List Str := ["value"]
theorem sc_is_whole : FnScope N_is_whole ["value"] (defScope s_is_whole) := ⟨rfl, rfl, rfl, by decide +kernel, rfl, by decide +kernel, by decide +kernel⟩
abbrev s_is_index : Stmt := top 8
abbrev N_is_index : List Str := ["value", "count"]
theorem sc_is_index : FnScope N_is_index ["value", "count"] (defScope s_is_index) := ⟨rfl, rfl, rfl, by decide +kernel, rfl, by decide +kernel, by decide +kernel⟩
abbrev s_is_door : Stmt := top 9
abbrev N_is_door : List Str := ["value", "count", "a", "b"]
theorem sc_is_door : FnScope N_is_door ["value", "count"] (defScope s_is_door) := ⟨rfl, rfl, rfl, by decide +kernel, rfl, by decide +kernel, by decide +kernel⟩
abbrev s_check_house : Stmt := top 10
abbrev N_check_house : List Str := ["value", "door", "ends", "ring"]
theorem sc_check_house : FnScope N_check_house ["value"] (defScope s_check_house) := ⟨rfl, rfl, rfl, by decide +kernel, rfl, by decide +kernel, by decide +kernel⟩
abbrev s_first_ring : Stmt := top 11
abbrev N_first_ring : List Str := ["doors", "links", "door", "a", "b", "a_root", "b_root"]
theorem sc_first_ring : FnScope N_first_ring ["doors"] (defScope s_first_ring) := ⟨rfl, rfl, rfl, by decide +kernel, rfl, by decide +kernel, by decide +kernel⟩
abbrev s_find_root : Stmt := top 12
abbrev N_find_root : List Str := ["links", "room"]
theorem sc_find_root : FnScope N_find_root ["links", "room"] (defScope s_find_root) := ⟨rfl, rfl, rfl, by decide +kernel, rfl, by decide +kernel, by decide +kernel⟩
abbrev s_need_house : Stmt := top 13
abbrev N_need_house : List Str := ["house", "reason"]
theorem sc_need_house : FnScope N_need_house ["house"] (defScope s_need_house) := ⟨rfl, rfl, rfl, by decide +kernel, rfl, by decide +kernel, by decide +kernel⟩
abbrev s_need_room : Stmt := top 14
abbrev N_need_room : List Str := ["house", "room"]
theorem sc_need_room : FnScope N_need_room ["house", "room"] (defScope s_need_room) := ⟨rfl, rfl, rfl, by decide +kernel, rfl, by decide +kernel, by decide +kernel⟩
abbrev s_exits_of : Stmt := top 15
abbrev N_exits_of : List Str := ["house", "exits", "room", "door", "a", "b"]
theorem sc_exits_of : FnScope N_exits_of ["house"] (defScope s_exits_of) := ⟨rfl, rfl, rfl, by decide +kernel, rfl, by decide +kernel, by decide +kernel⟩
abbrev s_ways_from : Stmt := top 16
abbrev N_ways_from : List Str := ["house", "room", "shut", "exits", "shut_doors", "ways", "waiting", "here", "door", "there"]
theorem sc_ways_from : FnScope N_ways_from ["house", "room", "shut"] (defScope s_ways_from) := ⟨rfl, rfl, rfl, by decide +kernel, rfl, by decide +kernel, by decide +kernel⟩
abbrev s_steps_along : Stmt := top 17
abbrev N_steps_along : List Str := ["ways", "room", "steps", "here", "door", "there"]
theorem sc_steps_along : FnScope N_steps_along ["ways", "room"] (defScope s_steps_along) := ⟨rfl, rfl, rfl, by decide +kernel, rfl, by decide +kernel, by decide +kernel⟩
abbrev s_has_state_shape : Stmt := top 19
abbrev N_has_state_shape : List Str := ["house", "value", "rooms", "barred"]
theorem sc_has_state_shape : FnScope N_has_state_shape ["house", "value"] (defScope s_has_state_shape) := ⟨rfl, rfl, rfl, by decide +kernel, rfl, by decide +kernel, by decide +kernel⟩
abbrev s_check_state : Stmt := top 20
abbrev N_check_state : List Str := ["house", "value", "rooms", "barred", "person", "room", "door"]
theorem sc_check_state : FnScope N_check_state ["house", "value"] (defScope s_check_state) := ⟨rfl, rfl, rfl, by decide +kernel, rfl, by decide +kernel, by decide +kernel⟩
abbrev s_need_state : Stmt := top 21
abbrev N_need_state : List Str := ["house", "state", "reason"]
theorem sc_need_state : FnScope N_need_state ["house", "state"] (defScope s_need_state) := ⟨rfl, rfl, rfl, by decide +kernel, rfl, by decide +kernel, by decide +kernel⟩
abbrev s_need_person : Stmt := top 22
abbrev N_need_person : List Str := ["state", "person"]
theorem sc_need_person : FnScope N_need_person ["state", "person"] (defScope s_need_person) := ⟨rfl, rfl, rfl, by decide +kernel, rfl, by decide +kernel, by decide +kernel⟩
abbrev s_doors_barring : Stmt := top 24
abbrev N_doors_barring : List Str := ["state", "person", "door", "who"]
theorem sc_doors_barring : FnScope N_doors_barring ["state", "person"] (defScope s_doors_barring) := ⟨rfl, rfl, rfl, by decide +kernel, rfl, by decide +kernel, by decide +kernel⟩
abbrev s_region_ways : Stmt := top 25
abbrev N_region_ways : List Str := ["house", "state", "person"]
theorem sc_region_ways : FnScope N_region_ways ["house", "state", "person"] (defScope s_region_ways) := ⟨rfl, rfl, rfl, by decide +kernel, rfl, by decide +kernel, by decide +kernel⟩
abbrev s_region : Stmt := top 26
abbrev N_region : List Str := ["house", "state", "person"]
theorem sc_region : FnScope N_region ["house", "state", "person"] (defScope s_region) := ⟨rfl, rfl, rfl, by decide +kernel, rfl, by decide +kernel, by decide +kernel⟩
abbrev s_walk_to : Stmt := top 27
abbrev N_walk_to : List Str := ["house", "state", "person", "room", "ways", "here", "door", "start", "end"]
theorem sc_walk_to : FnScope N_walk_to ["house", "state", "person", "room"] (defScope s_walk_to) := ⟨rfl, rfl, rfl, by decide +kernel, rfl, by decide +kernel, by decide +kernel⟩
abbrev s_is_apart : Stmt := top 28
abbrev N_is_apart : List Str := ["house", "state", "rooms", "person"]
theorem sc_is_apart : FnScope N_is_apart ["house", "state"] (defScope s_is_apart) := ⟨rfl, rfl, rfl, by decide +kernel, rfl, by decide +kernel, by decide +kernel⟩
abbrev s_walk_lengths : Stmt := top 29
abbrev N_walk_lengths : List Str := ["house", "state", "person"]
theorem sc_walk_lengths : FnScope N_walk_lengths ["house", "state"] (defScope s_walk_lengths) := ⟨rfl, rfl, rfl, by decide +kernel, rfl, by decide +kernel, by decide +kernel⟩
abbrev s_fewest_and_most : Stmt := top 30
abbrev N_fewest_and_most : List Str := ["ways", "lengths", "passed", "room", "step", "ends"]
theorem sc_fewest_and_most : FnScope N_fewest_and_most ["ways"] (defScope s_fewest_and_most) := ⟨rfl, rfl, rfl, by decide +kernel, rfl, by decide +kernel, by decide +kernel⟩
abbrev s_l_cell : Stmt := top 32
abbrev N_l_cell : List Str := ["_law_script", "_law_index"]
theorem sc_l_cell : FnScope N_l_cell ["_law_script", "_law_index"] (defScope s_l_cell) := ⟨rfl, rfl, rfl, by decide +kernel, rfl, by decide +kernel, by decide +kernel⟩
abbrev s_l_hash : Stmt := top 33
abbrev N_l_hash : List Str := ["_law_seed", "_law_index", "_law_value"]
theorem sc_l_hash : FnScope N_l_hash ["_law_seed", "_law_index"] (defScope s_l_hash) := ⟨rfl, rfl, rfl, by decide +kernel, rfl, by decide +kernel, by decide +kernel⟩
abbrev s_l_generator : Stmt := top 34
abbrev N_l_generator : List Str := ["_law_script", "_law_index", "_law_seed"]
theorem sc_l_generator : FnScope N_l_generator ["_law_script", "_law_index"] (defScope s_l_generator) := ⟨rfl, rfl, rfl, by decide +kernel, rfl, by decide +kernel, by decide +kernel⟩
abbrev s_l_random : Stmt := top 35
abbrev N_l_random : List Str := ["_law_generator_here", "_law_bound", "_law_value", "_law_part"]
theorem sc_l_random : FnScope N_l_random ["_law_generator_here", "_law_bound"] (defScope s_l_random) := ⟨rfl, rfl, rfl, by decide +kernel, rfl, by decide +kernel, by decide +kernel⟩
abbrev s_l_shuffled : Stmt := top 36
abbrev N_l_shuffled : List Str := ["_law_generator_here", "_law_items", "_law_pool", "_law_item"]
theorem sc_l_shuffled : FnScope N_l_shuffled ["_law_generator_here", "_law_items"] (defScope s_l_shuffled) := ⟨rfl, rfl, rfl, by decide +kernel, rfl, by decide +kernel, by decide +kernel⟩
abbrev s_l_random_house : Stmt := top 37
abbrev N_l_random_house : List Str := ["_law_generator_here", "_law_size", "_law_labels", "_law_kind", "_law_doors", "_law_index", "_law_earlier", "_law_ends"]
theorem sc_l_random_house : FnScope N_l_random_house ["_law_generator_here", "_law_size"] (defScope s_l_random_house) := ⟨rfl, rfl, rfl, by decide +kernel, rfl, by decide +kernel, by decide +kernel⟩
abbrev s_l_around : Stmt := top 38
abbrev N_l_around : List Str := ["_law_layout", "_law_around_here", "_law_spot", "_law_door", "_law_one", "_law_other"]
theorem sc_l_around : FnScope N_l_around ["_law_layout"] (defScope s_l_around) := ⟨rfl, rfl, rfl, by decide +kernel, rfl, by decide +kernel, by decide +kernel⟩
abbrev s_l_random_state : Stmt := top 39
abbrev N_l_random_state : List Str := ["_law_generator_here", "_law_layout", "_law_count", "_law_rooms", "_law_who", "_law_barred", "_law_local", "_law_one", "_law_other", "_law_near", "_law_chosen"]
theorem sc_l_random_state : FnScope N_l_random_state ["_law_generator_here", "_law_layout", "_law_count"] (defScope s_l_random_state) := ⟨rfl, rfl, rfl, by decide +kernel, rfl, by decide +kernel, by decide +kernel⟩
abbrev s_l_moves : Stmt := top 40
abbrev N_l_moves : List Str := ["_law_layout", "_law_situation", "_law_rooms", "_law_barred", "_law_moves_here", "_law_door", "_law_one", "_law_other", "_law_who", "_law_spot"]
theorem sc_l_moves : FnScope N_l_moves ["_law_layout", "_law_situation"] (defScope s_l_moves) := ⟨rfl, rfl, rfl, by decide +kernel, rfl, by decide +kernel, by decide +kernel⟩
abbrev s_l_after_move : Stmt := top 41
abbrev N_l_after_move : List Str := ["_law_situation", "_law_move", "_law_rooms", "_law_barred", "_law_who", "_law_start", "_law_end", "_law_door"]
theorem sc_l_after_move : FnScope N_l_after_move ["_law_situation", "_law_move"] (defScope s_l_after_move) := ⟨rfl, rfl, rfl, by decide +kernel, rfl, by decide +kernel, by decide +kernel⟩
abbrev s_l_play : Stmt := top 42
abbrev N_l_play : List Str := ["_law_layout", "_law_situation", "_law_moves_here", "_law_who", "_law_start", "_law_end", "_law_found", "_law_move"]
theorem sc_l_play : FnScope N_l_play ["_law_layout", "_law_situation", "_law_moves_here"] (defScope s_l_play) := ⟨rfl, rfl, rfl, by decide +kernel, rfl, by decide +kernel, by decide +kernel⟩
abbrev s_l_region : Stmt := top 43
abbrev N_l_region : List Str := ["_law_layout", "_law_situation", "_law_who", "_law_around_here", "_law_found", "_law_index", "_law_other", "_law_door"]
theorem sc_l_region : FnScope N_l_region ["_law_layout", "_law_situation", "_law_who"] (defScope s_l_region) := ⟨rfl, rfl, rfl, by decide +kernel, rfl, by decide +kernel, by decide +kernel⟩
abbrev s_l_regions : Stmt := top 44
abbrev N_l_regions : List Str := ["_law_layout", "_law_situation", "_law_who"]
theorem sc_l_regions : FnScope N_l_regions ["_law_layout", "_law_situation"] (defScope s_l_regions) := ⟨rfl, rfl, rfl, by decide +kernel, rfl, by decide +kernel, by decide +kernel⟩
abbrev s_l_are_apart : Stmt := top 45
abbrev N_l_are_apart : List Str := ["_law_regions_here", "_law_joined"]
theorem sc_l_are_apart : FnScope N_l_are_apart ["_law_regions_here"] (defScope s_l_are_apart) := ⟨rfl, rfl, rfl, by decide +kernel, rfl, by decide +kernel, by decide +kernel⟩
abbrev s_l_distances : Stmt := top 46
abbrev N_l_distances : List Str := ["_law_layout", "_law_spot", "_law_around_here", "_law_distances_here", "_law_waiting", "_law_here", "_law_other", "_law_door"]
theorem sc_l_distances : FnScope N_l_distances ["_law_layout", "_law_spot"] (defScope s_l_distances) := ⟨rfl, rfl, rfl, by decide +kernel, rfl, by decide +kernel, by decide +kernel⟩
abbrev s_l_walk_ends : Stmt := top 47
abbrev N_l_walk_ends : List Str := ["_law_around_here", "_law_barred", "_law_who", "_law_spot", "_law_previous", "_law_lengths", "_law_waiting", "_law_here", "_law_before", "_law_steps", "_law_onward", "_law_other", "_law_door"]
theorem sc_l_walk_ends : FnScope N_l_walk_ends ["_law_around_here", "_law_barred", "_law_who", "_law_spot", "_law_previous"] (defScope s_l_walk_ends) := ⟨rfl, rfl, rfl, by decide +kernel, rfl, by decide +kernel, by decide +kernel⟩
abbrev s_l_person_holds : Stmt := top 48
abbrev N_l_person_holds : List Str := ["_law_layout", "_law_situation", "_law_traveller", "_law_chosen", "_law_rooms", "_law_extra", "_law_distances_here", "_law_target", "_law_told", "_law_moves_here", "_law_result", "_law_move"]
theorem sc_l_person_holds : FnScope N_l_person_holds ["_law_layout", "_law_situation", "_law_traveller", "_law_chosen"] (defScope s_l_person_holds) := ⟨rfl, rfl, rfl, by decide +kernel, rfl, by decide +kernel, by decide +kernel⟩
abbrev s_l_holds : Stmt := top 49
abbrev N_l_holds : List Str := ["_law_generator_here", "_law_layout", "_law_situation", "_law_saved", "_law_regions_here", "_law_apart", "_law_expected", "_law_around_here", "_law_traveller", "_law_spot", "_law_lengths", "_law_chosen", "_law_step", "_law_answer"]
theorem sc_l_holds : FnScope N_l_holds ["_law_generator_here", "_law_layout", "_law_situation"] (defScope s_l_holds) := ⟨rfl, rfl, rfl, by decide +kernel, rfl, by decide +kernel, by decide +kernel⟩
abbrev s_law : Stmt := top 50
abbrev N_law : List Str := ["_law_script", "_law_index", "_law_generator_here", "_law_size", "_law_layout", "_law_count"]
theorem sc_law : FnScope N_law ["_law_script"] (defScope s_law) := ⟨rfl, rfl, rfl, by decide +kernel, rfl, by decide +kernel, by decide +kernel⟩
/-- the built-ins that the text calls stand as they were -/
structure Bl (mg : Str → Option Value) : Prop where
  len : mg "len" = none
  isinstance : mg "isinstance" = none
  enumerate : mg "enumerate" = none
  range : mg "range" = none
  list : mg "list" = none
  set : mg "set" = none
  sorted : mg "sorted" = none
  max : mg "max" = none
  min : mg "min" = none
  tuple : mg "tuple" = none
  int : mg "int" = none
  bool : mg "bool" = none
  sum : mg "sum" = none
  repr : mg "repr" = none

/-- a house at a: a tuple of tuples -/
def HouseAt (K : PySem.W.Frag) (H : Hp) (a : Addr) (ds : List (Nat × Nat)) : Prop :=
  ∃ rs : List Addr, SqT K H a (rs.map V.ref) ∧ rs.length = ds.length ∧ ∀ (d : Nat) (r : Addr) (e : Nat × Nat), rs[d]? = some r → ds[d]? = some e → SqT K H r [.int e.1, .int e.2]
section
variable {K : PySem.W.Frag} {H H' : Hp} {a g : Addr} {ds : List (Nat × Nat)}
theorem HouseAt.same (h : HouseAt K H a ds) (s : Same H H') : HouseAt K H' a ds := by
  obtain ⟨rs, h1, h2, h3⟩ := h
  exact ⟨rs, s.tup h1, h2, fun d r e x y => s.tup (h3 d r e x y)⟩
theorem HouseAt.but {xs : List V} (h : HouseAt K H a ds) (hg : H g = some (.lst xs)) (s : But g H H') : HouseAt K H' a ds := by
  obtain ⟨rs, h1, h2, h3⟩ := h
  exact ⟨rs, s.tup hg h1, h2, fun d r e x y => s.tup hg (h3 d r e x y)⟩
theorem ty_tup {xs : List V} (h : SqT K H a xs) : TyX K H (.ref a) (.type "tuple") := by
  rcases h with (h | ⟨o, h⟩) | ⟨o, its, n, h, c, _⟩
  · exact .base (.tup h)
  · exact .fTuple h
  · exact .kTuple h c
end
end K5

namespace K5
open PySem PySem.Spec PyProof.Rows L2
def spWhole : Sp := fun vs H Q _ => ∃ i : Int, vs = [.int i] ∧ Q (.bl true) H
def spIndex : Sp := fun vs H Q _ => ∃ i n : Int, vs = [.int i, .int n] ∧ Q (.bl (decide (0 ≤ i ∧ i < n))) H
def spDoor (K : PySem.W.Frag) : Sp := fun vs H Q _ => ∃ (a : Addr) (x y n : Int), vs = [.ref a, .int n] ∧ SqT K H a [.int x, .int y] ∧ (0 ≤ x ∧ x < n) ∧ (0 ≤ y ∧ y < n) ∧ x ≠ y ∧ Q (.bl true) H
section
variable {P : Program} {w : World} {K : PySem.W.Frag}
      {mg : Str → Option Value} {base : Heap}
theorem ok_is_whole (T : Bl mg) (D : Def K mg "is_whole" s_is_whole) : Cal P w K mg base "is_whole" ["value"] 1 spWhole := by
  refine D.ok sc_is_whole (fun _ _ _ _ _ _ us hl => match us, hl with | [_], _ => rfl) (fun vs H Q E h => ?_) (fun f cdv A outer s H vs Q E hr h => ?_)
  · obtain ⟨i, rfl, _⟩ := h
    rfl
  obtain ⟨i, rfl, q⟩ := h
  refine ⟨_, (pss_one (ps_ret (pe_and (pe_callB call_isi (by rfl) T.isinstance (by decide +kernel) (pa_cons (pv 0) (pa_cons (pe_bltn (v := .ty "int") (u := .type "int") (by rfl) T.int (by decide +kernel) rfl) pa_nil))) (pe_one (pe_not (pe_callB call_isi (by rfl) T.isinstance (by decide +kernel) (pa_cons (pv 0) (pa_cons (pe_bltn (v := .ty "bool") (u := .type "bool") (by rfl) T.bool (by decide +kernel) rfl) pa_nil)))))))), ?_⟩
  refine ⟨_, rfl, _, _, _, _, _, rfl, .ty _, .base (.int _), kit_ty (r := true) (by decide +kernel), _, rfl, iteT ?_⟩
  refine ⟨_, rfl, _, _, _, _, _, rfl, .ty _, .base (.int _), kit_ty (r := false) (by decide +kernel), _, rfl, q⟩
theorem ok_is_index (T : Bl mg) (D : Def K mg "is_index" s_is_index) (C_is_whole : Cal P w K mg base "is_whole" ["value"] 1 spWhole) : Cal P w K mg base "is_index" ["value", "count"] 2 spIndex := by
  refine D.ok sc_is_index (fun _ _ _ _ _ _ us hl => match us, hl with | [_, _], _ => rfl) (fun vs H Q E h => ?_) (fun f cdv A outer s H vs Q E hr h => ?_)
  · obtain ⟨i, n, rfl, _⟩ := h
    rfl
  obtain ⟨i, n, rfl, q⟩ := h
  obtain ⟨f_is_whole, fd_is_whole, g_is_whole, k_is_whole, b_is_whole, G_is_whole⟩ := C_is_whole
  refine ⟨_, (pss_one (ps_ret (pe_and (pe_call G_is_whole (hr.mono (by decide)) (by rfl) g_is_whole k_is_whole b_is_whole .nil pass0 (pa_cons (pv 0) pa_nil)) (pe_one (pe_chain op_le op_lt pe_int (pv 0) (pv 1)))))), ?_⟩
  refine ⟨_, rfl, _, rfl, _, rfl, iteT ?_⟩
  refine ⟨_, rfl, _, _, rfl, rfl, _, rfl, ite2 (fun h => ?_) (fun h => ?_)⟩
  · have h := of_decide_eq_true h
    refine ⟨_, rfl, _, _, rfl, rfl, ?_⟩
    have e : decide (i < n) = decide (0 ≤ i ∧ i < n) := by simp [h]
    show Q (.bl (decide (i < n))) H
    rw [e]
    exact q
  · have e : false = decide (0 ≤ i ∧ i < n) := by
      have h : ¬ 0 ≤ i := fun z => h (decide_eq_true z)
      simp [h]
    show Q (.bl false) H
    rw [e]
    exact q
theorem ok_is_door (T : Bl mg) (D : Def K mg "is_door" s_is_door) (C_is_index : Cal P w K mg base "is_index" ["value", "count"] 2 spIndex) : Cal P w K mg base "is_door" ["value", "count"] 3 (spDoor K) := by
  refine D.ok sc_is_door (fun _ _ _ _ _ _ us hl => match us, hl with | [_, _], _ => rfl) (fun vs H Q E h => ?_) (fun f cdv A outer s H vs Q E hr h => ?_)
  · obtain ⟨a, x, y, n, rfl, _⟩ := h
    rfl
  obtain ⟨a, x, y, n, rfl, ht, hx, hy, hne, q⟩ := h
  obtain ⟨f_is_index, fd_is_index, g_is_index, k_is_index, b_is_index, G_is_index⟩ := C_is_index
  refine ⟨_, (pss_cons (ps_if (PW.pt (pw_or (pt_not (pt_val (pe_callB call_isi (by rfl) T.isinstance (by decide +kernel) (pa_cons (pv 0) (pa_cons (pe_bltn (v := .ty "tuple") (u := .type "tuple") (by rfl) T.tuple (by decide +kernel) rfl) pa_nil))))) (pw_or1 (pt_cmpR op_ne (pe_callB call_len_seq (by rfl) T.len PySem.boot_len (pa_cons (pv 0) pa_nil)) pe_int (nomark _))))) (pss_one (ps_ret pe_bl)) pss_nil)
    (pss_cons (ps_asg (pv 0) (pg_tup (n := 2) rfl (pgs_cons (pg_name (i := 2) sc_is_door.nd rfl (.inl rfl)) (pgs_cons (pg_name (i := 3) sc_is_door.nd rfl (.inl rfl)) pgs_nil))))
    (pss_one (ps_ret (pe_and (pe_call G_is_index (hr.mono (by decide)) (by rfl) g_is_index k_is_index b_is_index .nil pass0 (pa_cons (pv 2) (pa_cons (pv 1) pa_nil))) (pe_and (pe_call G_is_index (hr.mono (by decide)) (by rfl) g_is_index k_is_index b_is_index .nil pass0 (pa_cons (pv 3) (pa_cons (pv 1) pa_nil))) (pe_one (pe_cmpR op_ne (pv 2) (pv 3) (nomark _))))))))), ?_⟩
  refine ⟨_, rfl, _, _, _, _, _, rfl, .ty _, ty_tup ht, kit_ty (r := true) (by decide +kernel), _, rfl, iteF ?_⟩
  refine ⟨_, rfl, _, _, rfl, .inr ht, rfl, _, rfl, iteF ?_⟩
  refine ⟨_, rfl, _, _, rfl, ht, rfl, _, _, rfl, _, _, rfl, rfl, ?_⟩
  refine ⟨_, rfl, _, rfl, _, _, rfl, _, rfl, ?_⟩
  rw [decide_eq_true hx]
  refine iteT ⟨_, rfl, _, rfl, _, _, rfl, _, rfl, ?_⟩
  rw [decide_eq_true hy]
  refine iteT ⟨_, rfl, _, rfl, rfl, ?_⟩
  rw [decide_eq_false (show ¬ V.int x = V.int y from fun z => hne (V.int.inj z))]
  exact q
end
end K5

namespace K5
open PySem PySem.Spec PyProof.Rows L2
/-- a list of numbers as values -/
def nv (L : List Nat) : List V := L.map fun (x : Nat) => V.int (x : Int)
theorem nv_len (L : List Nat) : (nv L).length = L.length := by unfold nv; rw [List.length_map]
theorem nv_get {L : List Nat} {x y : Nat} (h : L[x]? = some y) : (nv L)[x]? = some (.int (y : Int)) := by
  unfold nv
  rw [List.getElem?_map, h]
  rfl
theorem nv_set (L : List Nat) (x y : Nat) : (nv L).set x (.int (y : Int)) = nv (L.set x y) := by
  unfold nv
  rw [List.map_set]
theorem nv_at {L : List Nat} {x y : Nat} (h : L[x]? = some y) : atI (nv L) (x : Int) = some (.int (y : Int)) := atI_nat (nv_get h)
theorem ixN_nat {n x : Nat} (h : x < n) : ixN n (x : Int) = some x := by
  unfold ixN
  rw [if_pos (by omega), if_pos (by omega), Int.toNat_natCast]
theorem upd_self {H : Hp} {p : Addr} {o : HO} (h : H p = some o) : upd H p o = H := by
  funext b
  unfold upd
  by_cases e : b = p
  · rw [if_pos e, e, h]
  · rw [if_neg e]
theorem get_of {α : Type} {L : List α} {n x : Nat} (h : L.length = n) (hx : x < n) : ∃ y, L[x]? = some y := ⟨_, List.getElem?_eq_getElem (h ▸ hx)⟩
theorem rgV_nat (n : Nat) : rgV 0 (n : Int) = nv (List.range n) := by
  unfold rgV nv
  rw [show ((n : Int) - 0).toNat = n by omega]
  apply List.map_congr_left
  intro i _
  rw [Int.zero_add]
theorem dec_ne {i j : Int} (h : i ≠ j) : decide (V.int i = V.int j) = false := decide_eq_false fun z => h (V.int.inj z)
theorem dec_eq (i : Int) : decide (V.int i = V.int i) = true := decide_eq_true rfl
def spFind : Sp := fun vs H Q _ => ∃ (p : Addr) (L : List Nat) (n : Nat) (rank : Nat → Nat) (R : Nat → Nat → Prop) (room : Nat), vs = [.ref p, .int (room : Int)] ∧ H p = some (.lst (nv L)) ∧ Uf n L rank R ∧
  (∀ a b c, R a b → R b c → R a c) ∧ (∀ a, R a a) ∧ room < n ∧ ∀ (L' : List Nat) (r : Nat), Uf n L' rank R → R room r → L'[r]? = some r → (∀ x : Nat, L[x]? = some x → L'[x]? = some x) → Q (.int (r : Nat)) (upd H p (.lst (nv L')))
def spRing (K : PySem.W.Frag) : Sp := fun vs H Q _ => ∃ (a : Addr) (ds : List (Nat × Nat)) (n : Nat), vs = [.ref a] ∧ HouseAt K H a ds ∧ Tree n ds ∧ n ≤ 1000 ∧ ∀ H', Same H H' → Q .non H'
section
variable {P : Program} {w : World} {K : PySem.W.Frag}
      {mg : Str → Option Value} {base : Heap}
theorem ok_find_root (T : Bl mg) (D : Def K mg "find_root" s_find_root) : Cal P w K mg base "find_root" ["links", "room"] 1 spFind := by
  refine D.ok sc_find_root (fun _ _ _ _ _ _ us hl => match us, hl with | [_, _], _ => rfl) (fun vs H Q E h => ?_) (fun f cdv A outer s H vs Q E hr h => ?_)
  · obtain ⟨p, L, n, rank, R, room, rfl, _⟩ := h
    rfl
  obtain ⟨p, L, n, rank, R, room, rfl, hp, u, tr, rf, hlt, q⟩ := h
  refine ⟨_, (pss_cons (ps_while PassesOwn.never (pt_cmpR op_ne (pe_ix ix_list (pv 0) (pv 1) (fun _ _ => rfl)) (pv 1) (nomark _)) (pss_cons (ps_asg (pe_ix ix_list (pv 0) (pe_ix ix_list (pv 0) (pv 1) (fun _ _ => rfl)) (fun _ _ => rfl)) (pg_sub (pv 0) (pv 1) set_list))
    (pss_one (ps_set (i := 1) sc_find_root.nd rfl (.inl rfl) (pe_ix ix_list (pv 0) (pv 1) (fun _ _ => rfl))))))
    (pss_one (ps_ret (pv 1)))), ?_⟩
  refine ⟨fun m σ H1 => ∃ (L1 : List Nat) (r : Nat), m = rank r ∧ σ = [some (.ref p), some (.int (r : Nat))] ∧ H1 = upd H p (.lst (nv L1)) ∧ Uf n L1 rank R ∧ R room r ∧ r < n ∧ ∀ x : Nat, L[x]? = some x → L1[x]? = some x, ⟨rank room, L, room, rfl, rfl, (upd_self hp).symm, u, rf _, hlt, fun _ h => h⟩, fun m σ H1 hW => ?_⟩
  obtain ⟨L1, r, rfl, rfl, rfl, u1, rr, hr1, ro⟩ := hW
  obtain ⟨y, hy⟩ := get_of u1.len hr1
  refine ⟨_, rfl, _, rfl, _, _, _, _, rfl, rfl, SqL.of upd_same, nv_at hy, _, rfl, rfl, _, rfl, ?_⟩
  by_cases e : y = r
  · subst e
    rw [dec_eq]
    exact iteF ⟨_, rfl, q L1 y u1 rr hy ro⟩
  · rw [dec_ne (by omega)]
    obtain ⟨z, hz⟩ := get_of u1.len (u1.at_ _ _ hy).1
    refine iteT ⟨fun σ' H' => ∃ (L2 : List Nat) (r2 : Nat), rank r2 < rank r ∧ σ' = [some (.ref p), some (.int (r2 : Nat))] ∧ H' = upd H p (.lst (nv L2)) ∧ Uf n L2 rank R ∧ R room r2 ∧ r2 < n ∧ ∀ x : Nat, L[x]? = some x → L2[x]? = some x, fun σ' H' ⟨L2, r2, h1, h2⟩ => ⟨_, h1, L2, r2, rfl, h2⟩, ?_⟩
    refine ⟨_, rfl, _, rfl, _, rfl, _, _, _, _, rfl, rfl, SqL.of upd_same, nv_at hy, _, _, _, _, rfl, rfl, SqL.of upd_same, nv_at hz, ?_⟩
    refine ⟨_, rfl, _, rfl, _, _, _, r, rfl, rfl, upd_same, ixN_nat (by rw [nv_len, u1.len]; exact hr1), ?_⟩
    rw [upd_upd, nv_set]
    have hz' : (L1.set r z)[r]? = some z := by
      rw [List.getElem?_set_self (by rw [u1.len]; exact hr1)]
    refine ⟨_, rfl, _, rfl, _, _, _, _, rfl, rfl, SqL.of upd_same, nv_at hz', ?_⟩
    have a1 := u1.at_ _ _ hy
    have a2 := u1.at_ _ _ hz
    refine ⟨L1.set r z, z, u1.less hy hz e, rfl, rfl, u1.half tr hy hz, tr _ _ _ rr (tr _ _ _ a1.2.1 a2.2.1), a2.1, fun x hx => ?_⟩
    have h1 := ro x hx
    have ne : r ≠ x := fun z => by
      subst z
      rw [h1] at hy
      exact e (Option.some.inj hy).symm
    rw [List.getElem?_set_ne ne]
    exact h1
theorem ok_first_ring (T : Bl mg) (D : Def K mg "first_ring" s_first_ring) (C_find_root : Cal P w K mg base "find_root" ["links", "room"] 1 spFind) : Cal P w K mg base "first_ring" ["doors"] 2 (spRing K) := by
  refine D.ok sc_first_ring (fun _ _ _ _ _ _ us hl => match us, hl with | [_], _ => rfl) (fun vs H Q E h => ?_) (fun f cdv A outer s H vs Q E hr h => ?_)
  · obtain ⟨a, ds, n, rfl, _⟩ := h
    rfl
  obtain ⟨a, ds, n, rfl, hH, tree, hn, q⟩ := h
  obtain ⟨rs, hrs, hlen, hds⟩ := id hH
  obtain ⟨side, s1, s2⟩ := tree.side
  have hdn := tree.len
  obtain ⟨f_find_root, fd_find_root, g_find_root, k_find_root, b_find_root, G_find_root⟩ := C_find_root
  refine ⟨_, (pss_cons (ps_set (i := 1) sc_first_ring.nd rfl (.inl rfl) (pe_listRg rfl (by rfl) T.list (prg_1 (by rfl) T.range (pe_op op_add (pe_callB call_len_seq (by rfl) T.len PySem.boot_len (pa_cons (pv 0) pa_nil)) pe_int))))
    (pss_cons (ps_for PassesOwn.never rfl (pi_enumT (by rfl) T.enumerate (pa_cons (pv 0) pa_nil)) (pg_tup (n := 2) rfl (pgs_cons (pg_name (i := 2) sc_first_ring.nd rfl (.inl rfl)) (pgs_cons (pg_tup (n := 2) rfl (pgs_cons (pg_name (i := 3) sc_first_ring.nd rfl (.inl rfl)) (pgs_cons (pg_name (i := 4) sc_first_ring.nd rfl (.inl rfl)) pgs_nil))) pgs_nil)))
    (pss_cons (ps_set (i := 5) sc_first_ring.nd rfl (.inl rfl) (pe_call G_find_root (hr.mono (by decide)) (by rfl) g_find_root k_find_root b_find_root .nil pass0 (pa_cons (pv 1) (pa_cons (pv 3) pa_nil))))
    (pss_cons (ps_set (i := 6) sc_first_ring.nd rfl (.inl rfl) (pe_call G_find_root (hr.mono (by decide)) (by rfl) g_find_root k_find_root b_find_root .nil pass0 (pa_cons (pv 1) (pa_cons (pv 4) pa_nil))))
    (pss_cons (ps_if (pt_cmpR op_eq (pv 5) (pv 6) (nomark _)) (pss_one (ps_ret (pv 2))) pss_nil)
    (pss_one (ps_asg (pv 6) (pg_sub (pv 1) (pv 5) set_list)))))))
    (pss_one (ps_ret pe_non)))), ?_⟩
  have e1 : (((rs.map V.ref).length : Nat) : Int) + 1 = ((n : Nat) : Int) := by
    rw [List.length_map, hlen]
    omega
  refine ⟨_, rfl, _, _, rfl, .inr hrs, _, _, rfl, rfl, _, rfl, .of_le (Int.le_refl _) (by omega) (by omega) (by omega), fun q0 nq => ?_⟩
  rw [e1, rgV_nat]
  refine ⟨_, rfl, a, _, rfl, (Same.upd nq).tup hrs, ?_⟩
  refine for_it (walk_enumT (K := K) (a := a) (xs := rs.map V.ref)) (fun k σ H1 => ∃ L rank y2 y3 y4 y5 y6, σ = [some (.ref a), some (.ref q0), y2, y3, y4, y5, y6] ∧ Same H H1 ∧ H1 q0 = some (.lst (nv L)) ∧ Uf n L rank (Rk side k))
    ⟨_, _, _, _, _, _, _, rfl, Same.upd nq, upd_same, Uf.range n _ Rk.rf⟩ (fun i σ H1 _ ⟨_, _, _, _, _, _, _, _, sm, _⟩ => sm.tup hrs) ?_ ?_
  · rintro k x σ H1 H2 hk ⟨L, rank, y2, y3, y4, y5, y6, rfl, sm, hq0, u⟩ ⟨t, x1, x2, rfl, nt, rfl, ex1, ex2⟩
    cases ex1
    have hk' : k < ds.length := by
      rw [List.length_map, hlen] at hk
      exact hk
    obtain ⟨e, he⟩ : ∃ e, ds[k]? = some e := get_of rfl hk'
    obtain ⟨r, hr0⟩ : ∃ r, rs[k]? = some r := get_of hlen hk'
    have ex2' : V.ref r = x2 := by
      have ex2 : (rs.map V.ref)[k]? = some x2 := ex2
      rw [List.getElem?_map, hr0] at ex2
      exact Option.some.inj ex2
    subst ex2'
    have sm2 : Same H1 (upd H1 t (.tup [.int (k : Nat), .ref r])) := Same.upd nt
    have hrd := sm2.tup (sm.tup (hds k r e hr0 he))
    have hq2 := sm2 _ _ hq0
    have elt := tree.lt e (List.mem_of_getElem? he)
    refine ⟨t, _, rfl, SqT.of upd_same, rfl, _, _, rfl, _, _, rfl, ⟨r, _, rfl, hrd, rfl, _, _, rfl, _, _, rfl, rfl, rfl, ?_⟩⟩
    refine ⟨_, rfl, _, rfl, q0, L, n, rank, Rk side k, e.1, rfl, hq2, u, Rk.tr, Rk.rf, elt.1, fun L1 ra u1 hra rta _ => ?_⟩
    refine ⟨_, rfl, _, rfl, q0, L1, n, rank, Rk side k, e.2, rfl, upd_same, u1, Rk.tr, Rk.rf, elt.2, fun L2 rb u2 hrb rtb ro2 => ?_⟩
    rw [upd_upd]
    refine ⟨_, rfl, _, rfl, rfl, _, rfl, ?_⟩
    have nab : ra ≠ rb := fun z => ring_no s1 he hra (z ▸ hrb)
    show if decide (V.int (ra : Int) = V.int (rb : Int)) = true then _ else _
    rw [dec_ne (by omega)]
    refine iteF ?_
    have rta2 := ro2 ra rta
    refine ⟨_, rfl, _, rfl, _, rfl, _, _, _, ra, rfl, rfl, upd_same, ixN_nat (by rw [nv_len]; exact get_lt rta2), ?_⟩
    rw [upd_upd, nv_set]
    exact ⟨_, _, _, _, _, _, _, rfl, (sm.trans sm2).at nq, upd_same, u2.union s1 s2 he hra hrb rta2 rtb⟩
  · rintro σ H1 ⟨L, rank, y2, y3, y4, y5, y6, rfl, sm, hq0, u⟩
    exact q H1 sm
end
end K5

namespace K5
open PySem PySem.Spec PyProof.Rows L2
def spNeedRoom (K : PySem.W.Frag) : Sp := fun vs H Q _ => ∃ (a : Addr) (ds : List (Nat × Nat)) (x : Int), vs = [.ref a, .int x] ∧ HouseAt K H a ds ∧ 0 ≤ x ∧ x < ds.length + 1 ∧ Q .non H
def spNeedDoor (K : PySem.W.Frag) : Sp := fun vs H Q _ => ∃ (a : Addr) (ds : List (Nat × Nat)) (x : Int), vs = [.ref a, .int x] ∧ HouseAt K H a ds ∧ 0 ≤ x ∧ x < ds.length ∧ Q .non H
section
variable {P : Program} {w : World} {K : PySem.W.Frag}
      {mg : Str → Option Value} {base : Heap}
theorem ok_check_house (T : Bl mg) (D : Def K mg "check_house" s_check_house) (C_is_door : Cal P w K mg base "is_door" ["value", "count"] 3 (spDoor K)) (C_first_ring : Cal P w K mg base "first_ring" ["doors"] 2 (spRing K)) :
    Cal P w K mg base "check_house" ["value"] 4 (spRing K) := by
  refine D.ok sc_check_house (fun _ _ _ _ _ _ us hl => match us, hl with | [_], _ => rfl) (fun vs H Q E h => ?_) (fun f cdv A outer s H vs Q E hr h => ?_)
  · obtain ⟨a, ds, n, rfl, _⟩ := h
    rfl
  obtain ⟨a, ds, n, rfl, hH, tree, hn, q⟩ := h
  obtain ⟨rs, hrs, hlen, hds⟩ := id hH
  have hdn := tree.len
  obtain ⟨f_is_door, fd_is_door, g_is_door, k_is_door, b_is_door, G_is_door⟩ := C_is_door
  obtain ⟨f_first_ring, fd_first_ring, g_first_ring, k_first_ring, b_first_ring, G_first_ring⟩ := C_first_ring
  refine ⟨_, (pss_cons (ps_if (pt_not (pt_val (pe_callB call_isi (by rfl) T.isinstance (by decide +kernel) (pa_cons (pv 0) (pa_cons (pe_bltn (v := .ty "tuple") (u := .type "tuple") (by rfl) T.tuple (by decide +kernel) rfl) pa_nil))))) (pss_one (ps_ret (pe_tup (pa_cons pe_str pa_nil)))) pss_nil)
    (pss_cons (ps_for PassesOwn.never rfl (pi_enumT (by rfl) T.enumerate (pa_cons (pv 0) pa_nil)) (pg_tup (n := 2) rfl (pgs_cons (pg_name (i := 1) sc_check_house.nd rfl (.inl rfl)) (pgs_cons (pg_name (i := 2) sc_check_house.nd rfl (.inl rfl)) pgs_nil)))
    (pss_one (ps_if (pt_not (pt_val (pe_call G_is_door (hr.mono (by decide)) (by rfl) g_is_door k_is_door b_is_door .nil pass0 (pa_cons (pv 2) (pa_cons (pe_op op_add (pe_callB call_len_seq (by rfl) T.len PySem.boot_len (pa_cons (pv 0) pa_nil)) pe_int) pa_nil))))) (pss_one (ps_ret (pe_tup (pa_cons pe_str (pa_cons (pv 1) pa_nil))))) pss_nil)))
    (pss_cons (ps_set (i := 3) sc_check_house.nd rfl (.inl rfl) (pe_call G_first_ring (hr.mono (by decide)) (by rfl) g_first_ring k_first_ring b_first_ring .nil pass0 (pa_cons (pv 0) pa_nil)))
    (pss_cons (ps_if (pt_cmpR op_notN (pv 3) pe_non (nomark _)) (pss_one (ps_ret (pe_tup (pa_cons pe_str (pa_cons (pv 3) pa_nil))))) pss_nil)
    (pss_one (ps_ret pe_non)))))), ?_⟩
  refine ⟨_, rfl, _, _, _, _, _, rfl, .ty _, ty_tup hrs, kit_ty (r := true) (by decide +kernel), _, rfl, iteF ?_⟩
  refine ⟨_, rfl, a, _, rfl, hrs, ?_⟩
  refine for_it (walk_enumT (K := K) (a := a) (xs := rs.map V.ref)) (fun k σ H1 => ∃ y1 y2 y3, σ = [some (.ref a), y1, y2, y3] ∧ Same H H1)
    ⟨_, _, _, rfl, Same.refl _⟩ (fun i σ H1 _ ⟨_, _, _, _, sm⟩ => sm.tup hrs) ?_ ?_
  · rintro k x σ H1 H2 hk ⟨y1, y2, y3, rfl, sm⟩ ⟨t, x1, x2, rfl, nt, rfl, ex1, ex2⟩
    cases ex1
    have hk' : k < ds.length := by
      rw [List.length_map, hlen] at hk
      exact hk
    obtain ⟨e, he⟩ : ∃ e, ds[k]? = some e := get_of rfl hk'
    obtain ⟨r, hr0⟩ : ∃ r, rs[k]? = some r := get_of hlen hk'
    have ex2' : V.ref r = x2 := by
      have ex2 : (rs.map V.ref)[k]? = some x2 := ex2
      rw [List.getElem?_map, hr0] at ex2
      exact Option.some.inj ex2
    subst ex2'
    have sm2 : Same H1 (upd H1 t (.tup [.int (k : Nat), .ref r])) := Same.upd nt
    have sm3 := sm.trans sm2
    have elt := tree.lt e (List.mem_of_getElem? he)
    obtain ⟨side, s1, s2⟩ := tree.side
    have ene : e.1 ≠ e.2 := fun z => s1 k e he (by rw [z])
    refine ⟨t, _, rfl, SqT.of upd_same, rfl, _, _, rfl, _, _, rfl, rfl, ?_⟩
    refine ⟨_, rfl, _, rfl, _, _, rfl, .inr (sm3.tup hrs), _, _, rfl, rfl, ?_⟩
    refine ⟨r, e.1, e.2, _, rfl, sm3.tup (hds k r e hr0 he), ?_, ?_, by omega, _, rfl, iteF ⟨_, _, _, rfl, sm3⟩⟩
    · rw [List.length_map, hlen]; omega
    · rw [List.length_map, hlen]; omega
  · rintro σ H1 ⟨y1, y2, y3, rfl, sm⟩
    refine ⟨_, rfl, a, ds, n, rfl, hH.same sm, tree, hn, fun H2 sm2 => ?_⟩
    refine ⟨_, rfl, rfl, _, rfl, iteF ?_⟩
    exact q H2 (sm.trans sm2)
theorem ok_need_house (T : Bl mg) (D : Def K mg "need_house" s_need_house) (C_check_house : Cal P w K mg base "check_house" ["value"] 4 (spRing K)) : Cal P w K mg base "need_house" ["house"] 5 (spRing K) := by
  refine D.ok sc_need_house (fun _ _ _ _ _ _ us hl => match us, hl with | [_], _ => rfl) (fun vs H Q E h => ?_) (fun f cdv A outer s H vs Q E hr h => ?_)
  · obtain ⟨a, ds, n, rfl, _⟩ := h
    rfl
  obtain ⟨a, ds, n, rfl, hH, tree, hn, q⟩ := h
  obtain ⟨f_check_house, fd_check_house, g_check_house, k_check_house, b_check_house, G_check_house⟩ := C_check_house
  refine ⟨_, (pss_cons (ps_set (i := 1) sc_need_house.nd rfl (.inl rfl) (pe_call G_check_house (hr.mono (by decide)) (by rfl) g_check_house k_check_house b_check_house .nil pass0 (pa_cons (pv 0) pa_nil)))
    (pss_one (ps_if (pt_cmpR op_notN (pv 1) pe_non (nomark _)) pss_never pss_nil))), ?_⟩
  refine ⟨_, rfl, a, ds, n, rfl, hH, tree, hn, fun H2 sm2 => ⟨_, rfl, rfl, _, rfl, iteF ?_⟩⟩
  exact q H2 sm2
theorem ok_need_room (T : Bl mg) (D : Def K mg "need_room" s_need_room) (C_is_index : Cal P w K mg base "is_index" ["value", "count"] 2 spIndex) : Cal P w K mg base "need_room" ["house", "room"] 3 (spNeedRoom K) := by
  refine D.ok sc_need_room (fun _ _ _ _ _ _ us hl => match us, hl with | [_, _], _ => rfl) (fun vs H Q E h => ?_) (fun f cdv A outer s H vs Q E hr h => ?_)
  · obtain ⟨a, ds, x, rfl, _⟩ := h
    rfl
  obtain ⟨a, ds, x, rfl, hH, h0, h1, q⟩ := h
  obtain ⟨rs, hrs, hlen, hds⟩ := id hH
  obtain ⟨f_is_index, fd_is_index, g_is_index, k_is_index, b_is_index, G_is_index⟩ := C_is_index
  refine ⟨_, (pss_one (ps_if (pt_not (pt_val (pe_call G_is_index (hr.mono (by decide)) (by rfl) g_is_index k_is_index b_is_index .nil pass0 (pa_cons (pv 1) (pa_cons (pe_op op_add (pe_callB call_len_seq (by rfl) T.len PySem.boot_len (pa_cons (pv 0) pa_nil)) pe_int) pa_nil))))) pss_never pss_nil)), ?_⟩
  refine ⟨_, rfl, _, rfl, _, _, rfl, .inr hrs, _, _, rfl, rfl, _, _, rfl, _, rfl, ?_⟩
  rw [decide_eq_true (by rw [List.length_map, hlen]; omega)]
  exact iteF q
end
end K5

namespace K5
open PySem PySem.Spec PyProof.Rows L2
/-- a list at q of pairs of numbers, each a tuple -/
def PairsAt (H : Hp) (q : Addr) (l : List (Nat × Nat)) : Prop :=
  ∃ ts : List Addr, H q = some (.lst (ts.map V.ref)) ∧ ts.length = l.length ∧ ∀ (i : Nat) (t : Addr) (e : Nat × Nat), ts[i]? = some t → l[i]? = some e → H t = some (.tup [.int e.1, .int e.2])
theorem PairsAt.same {H H' : Hp} {q : Addr} {l} (h : PairsAt H q l) (s : Same H H') : PairsAt H' q l := by
  obtain ⟨ts, h1, h2, h3⟩ := h
  exact ⟨ts, s _ _ h1, h2, fun i t e a b => s _ _ (h3 i t e a b)⟩
theorem ne_lt {H : Hp} {a b : Addr} {xs ys : List V} (h : H a = some (.lst xs)) (h' : H b = some (.tup ys)) : b ≠ a := ne_of h' h (by intro z; cases z)
/-- what stands aside of q keeps -/
theorem PairsAt.aside {H H' : Hp} {q p : Addr} {l} {xs : List V} (h : PairsAt H q l) (hp : H p = some (.lst xs)) (ne : q ≠ p) (s : But p H H') : PairsAt H' q l := by
  obtain ⟨ts, h1, h2, h3⟩ := h
  exact ⟨ts, s _ _ ne h1, h2, fun i t e a b => s _ _ (ne_lt hp (h3 i t e a b)) (h3 i t e a b)⟩
theorem PairsAt.push {H H' : Hp} {q t : Addr} {l : List (Nat × Nat)} {ts : List Addr} {d y : Nat} (h1 : H q = some (.lst (ts.map V.ref))) (h2 : ts.length = l.length) (h3 : ∀ (i : Nat) (t : Addr) (e : Nat × Nat), ts[i]? = some t → l[i]? = some e → H t = some (.tup [.int e.1, .int e.2]))
    (s : But q H H') (hq : H' q = some (.lst (ts.map V.ref ++ [.ref t]))) (ht : H' t = some (.tup [.int (d : Int), .int (y : Int)])) : PairsAt H' q (l ++ [(d, y)]) := by
  refine ⟨ts ++ [t], by rw [hq, List.map_append]; rfl, by simp [h2], fun i t' e a b => ?_⟩
  by_cases hi : i < ts.length
  · rw [List.getElem?_append_left hi] at a
    rw [List.getElem?_append_left (by omega)] at b
    have := h3 i t' e a b
    exact s _ _ (ne_lt h1 this) this
  · have hlt := get_lt a
    rw [List.length_append, List.length_singleton] at hlt
    have ei : i = ts.length := by omega
    subst ei
    rw [List.getElem?_append_right (Nat.le_refl _), Nat.sub_self] at a
    rw [h2, List.getElem?_append_right (Nat.le_refl _), Nat.sub_self] at b
    cases a
    cases b
    exact ht
/-- the rows of exits: a list each -/
def Rows (H : Hp) (ps : List Addr) (ex : Nat → List (Nat × Nat)) : Prop := ∀ (x : Nat) (q : Addr), ps[x]? = some q → PairsAt H q (ex x)
theorem Rows.same {H H' : Hp} {ps ex} (h : Rows H ps ex) (s : Same H H') : Rows H' ps ex := fun x q e => (h x q e).same s
theorem Rows.push {H : Hp} {ps : List Addr} {ex : Nat → List (Nat × Nat)} (R : Rows H ps ex) (nd : ps.Nodup) {x : Nat} {q t : Addr} (hq : ps[x]? = some q) (nt : H t = none) {d y : Nat} {xs : List V} (hx : H q = some (.lst xs)) :
    Rows (upd (upd H t (.tup [.int (d : Int), .int (y : Int)])) q (.lst (xs ++ [.ref t]))) ps (fun z => if z = x then ex z ++ [(d, y)] else ex z) := by
  have s1 : But q H (upd (upd H t (.tup [.int (d : Int), .int (y : Int)])) q (.lst (xs ++ [.ref t]))) := fun b o ne e => by
    rw [upd_ne ne, upd_ne (ne_of_none e nt)]
    exact e
  have ntq : t ≠ q := (ne_of_none hx nt).symm
  intro z q' hz
  by_cases e : z = x
  · subst e
    rw [hq] at hz
    cases hz
    obtain ⟨ts, h1, h2, h3⟩ := R z q hq
    rw [hx] at h1
    cases h1
    simp only [if_true]
    exact .push (ts := ts) hx h2 h3 s1 upd_same (by rw [upd_ne ntq, upd_same])
  · simp only [if_neg e]
    have ne : q' ≠ q := fun z' => by
      subst z'
      exact e (nd_ix nd hz hq)
    exact (R z q' hz).aside hx ne s1
theorem ex_mem {ds : List (Nat × Nat)} {ex : Nat → List (Nat × Nat)} {k : Nat} {e : Nat × Nat} (he : ds[k]? = some e) (ne : e.1 ≠ e.2) (mem : ∀ x d y, (d, y) ∈ ex x ↔ d < k ∧ Joins ds d x y) (x d y : Nat) :
    (d, y) ∈ (if x = e.2 then (if x = e.1 then ex x ++ [(k, e.2)] else ex x) ++ [(k, e.1)] else if x = e.1 then ex x ++ [(k, e.2)] else ex x) ↔ d < k + 1 ∧ Joins ds d x y := by
  have J : Joins ds k x y ↔ (x = e.1 ∧ y = e.2) ∨ (x = e.2 ∧ y = e.1) := by
    unfold Joins
    rw [he]
    constructor
    · rintro (h | h)
      · have h := Option.some.inj h
        exact .inl ⟨by rw [h], by rw [h]⟩
      · have h := Option.some.inj h
        exact .inr ⟨by rw [h], by rw [h]⟩
    · rintro (⟨rfl, rfl⟩ | ⟨rfl, rfl⟩)
      · exact .inl rfl
      · exact .inr rfl
  have step : (d < k + 1 ∧ Joins ds d x y) ↔ (d < k ∧ Joins ds d x y) ∨ (d = k ∧ ((x = e.1 ∧ y = e.2) ∨ (x = e.2 ∧ y = e.1))) := by
    constructor
    · rintro ⟨h1, h2⟩
      by_cases q : d = k
      · subst q
        exact .inr ⟨rfl, J.mp h2⟩
      · exact .inl ⟨by omega, h2⟩
    · rintro (⟨h1, h2⟩ | ⟨rfl, h2⟩)
      · exact ⟨by omega, h2⟩
      · exact ⟨by omega, J.mpr h2⟩
  rw [step, ← mem x d y]
  by_cases h2 : x = e.2
  · have h1 : ¬ x = e.1 := fun z => ne (z.symm.trans h2)
    rw [if_pos h2, if_neg h1, List.mem_append, List.mem_singleton, Prod.mk.injEq]
    simp [h1, h2, ne.symm]
  · rw [if_neg h2]
    by_cases h1 : x = e.1
    · rw [if_pos h1, List.mem_append, List.mem_singleton, Prod.mk.injEq]
      simp [h1, ne]
    · rw [if_neg h1]
      simp [h1, h2]
theorem small3k {n : Nat} (h : n ≤ 3000) : n < sizeLine := Nat.lt_of_le_of_lt h (by decide)
theorem lcYes {A B : Hp → Prop} {σ : L2.St} {H : Hp} (h : A H) : tYes σ H (fun b H3 => if b = true then A H3 else B H3) := by
  show (if true = true then A H else B H)
  rw [if_pos rfl]
  exact h
def spExits (K : PySem.W.Frag) : Sp := fun vs H Q _ => ∃ (a : Addr) (ds : List (Nat × Nat)) (n : Nat), vs = [.ref a] ∧ HouseAt K H a ds ∧ Tree n ds ∧ n ≤ 1000 ∧
  ∀ (H' : Hp) (p : Addr) (ps : List Addr) (ex : Nat → List (Nat × Nat)), Same H H' → H p = none → H' p = some (.lst (ps.map V.ref)) → ps.length = n → Rows H' ps ex → (∀ x d y, (d, y) ∈ ex x ↔ Joins ds d x y) → Q (.ref p) H'
section
variable {P : Program} {w : World} {K : PySem.W.Frag}
      {mg : Str → Option Value} {base : Heap}
theorem ok_exits_of (T : Bl mg) (D : Def K mg "exits_of" s_exits_of) : Cal P w K mg base "exits_of" ["house"] 1 (spExits K) := by
  refine D.ok sc_exits_of (fun _ _ _ _ _ _ us hl => match us, hl with | [_], _ => rfl) (fun vs H Q E h => ?_) (fun f cdv A outer s H vs Q E hr h => ?_)
  · obtain ⟨a, ds, n, rfl, _⟩ := h
    rfl
  obtain ⟨a, ds, n, rfl, hH, tree, hn, q⟩ := h
  obtain ⟨rs, hrs, hlen, hds⟩ := id hH
  have hdn := tree.len
  refine ⟨_, (pss_cons (ps_setLc (i := 1) (own := [("room", 2)]) (g := gName 2)  rfl sc_exits_of.nd rfl rfl (sw_true rfl rfl rfl (by decide +kernel)) (pi_range1 rfl T.range (pa_cons (pe_op op_add (pe_callB call_len_seq (by rfl) T.len PySem.boot_len (pa_cons (pv 0) pa_nil)) pe_int) pa_nil)) (blkOk_by (N := N_exits_of) (sc := defScope s_exits_of) (own := [("room", 2)]) (by decide +kernel)) (fun _ _ _ _ _ => (pg_name (i := 2) sc_exits_of.nd rfl (.inl rfl) (.inr rfl))) (fun _ _ _ _ _ => pts_nil) (fun _ _ _ _ _ => (pe_lst pa_nil)))
    (pss_cons (ps_for PassesOwn.never rfl (pi_enumT (by rfl) T.enumerate (pa_cons (pv 0) pa_nil)) (pg_tup (n := 2) rfl (pgs_cons (pg_name (i := 3) sc_exits_of.nd rfl (.inl rfl)) (pgs_cons (pg_tup (n := 2) rfl (pgs_cons (pg_name (i := 4) sc_exits_of.nd rfl (.inl rfl)) (pgs_cons (pg_name (i := 5) sc_exits_of.nd rfl (.inl rfl)) pgs_nil))) pgs_nil)))
    (pss_cons (ps_expr (pe_bm PySem.F.plainAttrs_list PySem.F.slot_list_append PySem.F.type_list_append mt_append (pe_ix ix_list (pv 1) (pv 4) (fun _ _ => rfl)) (pa_cons (pe_tup (pa_cons (pv 3) (pa_cons (pv 5) pa_nil))) pa_nil)))
    (pss_one (ps_expr (pe_bm PySem.F.plainAttrs_list PySem.F.slot_list_append PySem.F.type_list_append mt_append (pe_ix ix_list (pv 1) (pv 5) (fun _ _ => rfl)) (pa_cons (pe_tup (pa_cons (pv 3) (pa_cons (pv 4) pa_nil))) pa_nil))))))
    (pss_one (ps_ret (pv 1))))), ?_⟩
  have en : (((rs.map V.ref).length : Nat) : Int) + 1 = ((n : Nat) : Int) := by
    rw [List.length_map, hlen]
    omega
  refine ⟨_, rfl, _, _, rfl, .inr hrs, _, _, rfl, rfl, (n : Int), congrArg (fun z => [V.int z]) en, by omega, by omega, fun p np => ?_⟩
  refine lc_range (lo := 0) (n := n) (fun i H1 => ∃ ps : List Addr, Same H H1 ∧ H1 p = some (.lst (ps.map V.ref)) ∧ ps.length = i ∧ ps.Nodup ∧ ∀ x ∈ ps, H x = none ∧ H1 x = some (.lst [])) ?_ ?_ ?_
  · exact ⟨[], Same.upd np, upd_same, rfl, List.nodup_nil, fun _ h => nomatch h⟩
  · rintro i H1 hi ⟨ps, sm, hp, hl, nd, hx⟩
    refine ⟨rfl, lcYes ?_⟩
    refine ⟨Nat.zero_le _, fun x nx => ?_⟩
    have npx : p ≠ x := ne_of_none hp nx
    have xps : x ∉ ps := fun m => by
      rw [(hx x m).2] at nx
      cases nx
    have pps : p ∉ ps := fun m => by
      have h1 := (hx p m).2
      rw [hp] at h1
      cases ps with
      | nil => cases m
      | cons a r => cases h1
    refine ⟨ps.map V.ref, by rw [upd_ne npx]; exact hp, ?_, ps ++ [x], (sm.trans (Same.upd nx)).at np, ?_, by simp [hl], ?_, fun z m => ?_⟩
    · rw [List.length_map]
      exact small1000 (by omega)
    · rw [upd_same, List.map_append]
      rfl
    · exact nd_snoc nd xps
    · rcases List.mem_append.mp m with m | m
      · have ne1 : z ≠ p := fun e => pps (e ▸ m)
        have ne2 : z ≠ x := fun e => xps (e ▸ m)
        rw [upd_ne ne1, upd_ne ne2]
        exact hx z m
      · rw [List.mem_singleton.mp m, upd_ne npx.symm, upd_same]
        exact ⟨sm.free nx, rfl⟩
  · rintro H1 ⟨ps, sm, hp, hl, nd, hx⟩
    have pps : p ∉ ps := fun m => by
      have h1 := (hx p m).2
      rw [hp] at h1
      cases ps with
      | nil => cases m
      | cons a r => cases h1
    refine ⟨_, rfl, a, _, rfl, sm.tup hrs, ?_⟩
    refine for_it (walk_enumT (K := K) (a := a) (xs := rs.map V.ref)) (fun k σ H2 => ∃ ex y2 y3 y4 y5, σ = [some (.ref a), some (.ref p), y2, y3, y4, y5] ∧ Same H H2 ∧ H2 p = some (.lst (ps.map V.ref)) ∧ Rows H2 ps ex ∧
        (∀ x d y, (d, y) ∈ ex x ↔ d < k ∧ Joins ds d x y) ∧ ∀ x, (ex x).length ≤ 2 * k)
      ⟨fun _ => [], _, _, _, _, rfl, sm, hp, fun x q e => ⟨[], (hx q (List.mem_of_getElem? e)).2, rfl, fun i t e h => by simp at h⟩, fun x d y => by simp, fun x => Nat.zero_le _⟩
      (fun i σ H1 _ ⟨_, _, _, _, _, _, sm, _⟩ => sm.tup hrs) ?_ ?_
    · rintro k x σ H2 H3 hk ⟨ex, y2, y3, y4, y5, rfl, sm2, hp2, ro, mem, le⟩ ⟨t, x1, x2, rfl, nt, rfl, ex1, ex2⟩
      cases ex1
      have hk' : k < ds.length := by
        rw [List.length_map, hlen] at hk
        exact hk
      obtain ⟨e, he⟩ : ∃ e, ds[k]? = some e := get_of rfl hk'
      obtain ⟨r, hr0⟩ : ∃ r, rs[k]? = some r := get_of hlen hk'
      have ex2' : V.ref r = x2 := by
        have ex2 : (rs.map V.ref)[k]? = some x2 := ex2
        rw [List.getElem?_map, hr0] at ex2
        exact Option.some.inj ex2
      subst ex2'
      have elt := tree.lt e (List.mem_of_getElem? he)
      obtain ⟨side, s1, s2⟩ := tree.side
      have ene : e.1 ≠ e.2 := fun z => s1 k e he (by rw [z])
      have smt : Same H2 (upd H2 t (.tup [.int (k : Nat), .ref r])) := Same.upd nt
      have sm3 := sm2.trans smt
      have hp3 := smt _ _ hp2
      have ro3 := ro.same smt
      refine ⟨t, _, rfl, SqT.of upd_same, rfl, _, _, rfl, _, _, rfl, ⟨r, _, rfl, sm3.tup (hds k r e hr0 he), rfl, _, _, rfl, _, _, rfl, rfl, rfl, ?_⟩⟩
      generalize upd H2 t (.tup [.int (k : Nat), .ref r]) = H4 at sm3 hp3 ro3 smt
      obtain ⟨q1, hq1⟩ := get_of hl elt.1
      obtain ⟨q2, hq2⟩ := get_of hl elt.2
      obtain ⟨ts1, g1, g2, g3⟩ := ro3 _ _ hq1
      refine ⟨_, rfl, _, rfl, _, _, _, V.ref q1, rfl, rfl, SqL.of hp3, atI_nat (v := V.ref q1) (by rw [List.getElem?_map, hq1]; rfl), .inl ⟨rfl, _, SqL.of g1⟩, _, rfl, _, rfl, by show 2 ≤ sizeLine; decide, fun t1 nt1 => ?_⟩
      refine ⟨q1, _, _, rfl, rfl, by rw [upd_ne (ne_of_none g1 nt1)]; exact g1, by rw [List.length_map, g2]; exact small3k (by have := le e.1; omega), ?_⟩
      have ro4 := ro3.push nd hq1 nt1 (d := k) (y := e.2) g1
      have nq1 : H q1 = none := (hx q1 (List.mem_of_getElem? hq1)).1
      have nq2 : H q2 = none := (hx q2 (List.mem_of_getElem? hq2)).1
      have pq1 : p ≠ q1 := fun z => pps (z ▸ List.mem_of_getElem? hq1)
      have pq2 : p ≠ q2 := fun z => pps (z ▸ List.mem_of_getElem? hq2)
      have sm4 : Same H (upd (upd H4 t1 (.tup [.int (k : Nat), .int (e.2 : Nat)])) q1 (.lst (ts1.map V.ref ++ [V.ref t1]))) := (sm3.trans (Same.upd nt1)).at nq1
      have hp4 : (upd (upd H4 t1 (.tup [.int (k : Nat), .int (e.2 : Nat)])) q1 (.lst (ts1.map V.ref ++ [V.ref t1]))) p = some (.lst (ps.map V.ref)) := by
        rw [upd_ne pq1, upd_ne (ne_of_none hp3 nt1)]
        exact hp3
      generalize (upd (upd H4 t1 (.tup [.int (k : Nat), .int (e.2 : Nat)])) q1 (.lst (ts1.map V.ref ++ [V.ref t1]))) = H5 at ro4 sm4 hp4
      obtain ⟨ts2, f1, f2, f3⟩ := ro4 _ _ hq2
      have f2' : ts2.length = (ex e.2).length := by
        rw [f2]
        simp only [if_neg ene.symm]
      refine ⟨_, rfl, _, rfl, _, _, _, V.ref q2, rfl, rfl, SqL.of hp4, atI_nat (v := V.ref q2) (by rw [List.getElem?_map, hq2]; rfl), .inl ⟨rfl, _, SqL.of f1⟩, _, rfl, _, rfl, by show 2 ≤ sizeLine; decide, fun t2 nt2 => ?_⟩
      refine ⟨q2, _, _, rfl, rfl, by rw [upd_ne (ne_of_none f1 nt2)]; exact f1, by rw [List.length_map, f2']; exact small3k (by have := le e.2; omega), ?_⟩
      refine ⟨_, _, _, _, _, rfl, (sm4.trans (Same.upd nt2)).at nq2, by rw [upd_ne pq2, upd_ne (ne_of_none hp4 nt2)]; exact hp4, ro4.push nd hq2 nt2 (d := k) (y := e.1) f1, fun x d y => ?_, fun x => ?_⟩
      · exact ex_mem he ene mem x d y
      · have := le x
        by_cases e2 : x = e.2
        · simp only [e2, if_true, if_neg ene.symm]
          have := le e.2
          simp; omega
        · by_cases e1 : x = e.1
          · simp only [e1, if_true, if_neg ene]
            have := le e.1
            simp; omega
          · simp only [if_neg e1, if_neg e2]
            omega
    · rintro σ H2 ⟨ex, y2, y3, y4, y5, rfl, sm2, hp2, ro, mem, le⟩
      refine ⟨_, rfl, q H2 p ps ex sm2 np hp2 hl ro fun x d y => ?_⟩
      rw [mem x d y]
      refine ⟨fun h => h.2, fun h => ⟨?_, h⟩⟩
      rw [List.length_map, hlen]
      rcases h with h | h
      · exact get_lt h
      · exact get_lt h
end
end K5

namespace K5
open PySem PySem.Spec PyProof.Rows L2
/-- a dict whose keys are numbers: key by key -/
def DicR {β : Type} (VR : V → β → Prop) (kvs : List (Key × V)) (ks : List (Nat × β)) : Prop := Paired (fun (kv : Key × V) (k : Nat × β) => kv.1 = Sum.inl (k.1 : Int) ∧ VR kv.2 k.2) kvs ks
section
variable {β : Type} {VR VR' : V → β → Prop}
theorem DicR.mono {kvs ks} (h : DicR VR kvs ks) (f : ∀ v o, VR v o → VR' v o) : DicR VR' kvs ks := Paired.mapP h fun a b x => ⟨x.1, f _ _ x.2⟩
theorem DicR.len {kvs ks} (h : DicR VR kvs ks) : kvs.length = ks.length := Paired.length h
theorem DicR.no : ∀ {kvs : List (Key × V)} {ks : List (Nat × β)} {x : Nat}, DicR VR kvs ks → x ∉ ks.map Prod.fst → valV kvs (Sum.inl (x : Int)) = none
  | _, _, x, .nil, _ => rfl
  | kv :: _, k :: _, x, .cons h t, hx => by
    have hne : ¬ kv.1 = Sum.inl (x : Int) := fun z => by
      rw [h.1] at z
      have z := Sum.inl.inj z
      exact hx (List.mem_map.mpr ⟨k, List.mem_cons_self, by omega⟩)
    rw [valV_neg hne]
    exact DicR.no t fun m => hx (by rw [List.map_cons]; exact List.mem_cons_of_mem _ m)
theorem DicR.val : ∀ {kvs : List (Key × V)} {ks : List (Nat × β)} {x : Nat}, DicR VR kvs ks → x ∈ ks.map Prod.fst → ∃ v o, valV kvs (Sum.inl (x : Int)) = some v ∧ (x, o) ∈ ks ∧ VR v o
  | _, _, x, .nil, hx => by cases hx
  | kv :: _, k :: _, x, .cons h t, hx => by
    by_cases e : k.1 = x
    · refine ⟨kv.2, k.2, valV_pos (by rw [h.1, e]), ?_, h.2⟩
      rw [← e]
      exact List.mem_cons_self
    · have hne : ¬ kv.1 = Sum.inl (x : Int) := fun z => by
        rw [h.1] at z
        have z := Sum.inl.inj z
        omega
      rw [List.map_cons] at hx
      obtain ⟨v, o, a, b, c⟩ := DicR.val t ((List.mem_cons.mp hx).resolve_left fun q => e q.symm)
      exact ⟨v, o, by rw [valV_neg hne]; exact a, List.mem_cons_of_mem _ b, c⟩
theorem DicR.snoc : ∀ {kvs : List (Key × V)} {ks : List (Nat × β)} {x : Nat} {v : V} {o : β}, DicR VR kvs ks → VR v o → DicR VR (kvs ++ [(Sum.inl (x : Int), v)]) (ks ++ [(x, o)])
  | _, _, x, v, o, .nil, r => .cons ⟨rfl, r⟩ .nil
  | _, _, x, v, o, .cons h t, r => .cons h (DicR.snoc t r)
theorem DicR.add {kvs : List (Key × V)} {ks : List (Nat × β)} {x : Nat} {v : V} {o : β} (h : DicR VR kvs ks) (hx : x ∉ ks.map Prod.fst) (r : VR v o) : DicR VR (putK kvs (Sum.inl (x : Int)) v) (ks ++ [(x, o)]) := by
  rw [putK_new v (h.no hx)]
  exact h.snoc r
end
/-- a way's step: None, or a tuple (door, next room) -/
def WayR (H : Hp) (v : V) (o : Option (Nat × Nat)) : Prop := match o with
  | none => v = .non
  | some e => ∃ t, v = .ref t ∧ H t = some (.tup [.int (e.1 : Int), .int (e.2 : Int)])
theorem WayR.keep {H H' : Hp} {v o} (h : WayR H v o) (s : ∀ t xs, H t = some (.tup xs) → H' t = some (.tup xs)) : WayR H' v o := by
  cases o with
  | none => exact h
  | some e =>
    obtain ⟨t, a, b⟩ := h
    exact ⟨t, a, s _ _ b⟩
theorem snoc_nil {α : Type} (l : List α) : l = [] ∨ ∃ r x, l = r ++ [x] := by
  by_cases h : l = []
  · exact .inl h
  · exact .inr ⟨l.dropLast, l.getLast h, (List.dropLast_concat_getLast h).symm⟩
theorem mem_ofNat {d : Nat} {l : List Nat} : ((d : Int) ∈ l.map fun x : Nat => (x : Int)) ↔ d ∈ l := by
  constructor
  · intro h
    obtain ⟨x, hx, e⟩ := List.mem_map.mp h
    have : x = d := by omega
    exact this ▸ hx
  · intro h
    exact List.mem_map.mpr ⟨d, h, rfl⟩
theorem nv_int (l : List Nat) : nv l = (l.map fun x : Nat => (x : Int)).map V.int := by
  unfold nv
  rw [List.map_map]
  rfl
theorem nv_snoc (l : List Nat) (x : Nat) : nv (l ++ [x]) = nv l ++ [.int (x : Int)] := by
  unfold nv
  rw [List.map_append]
  rfl
/-- the dict and the list that the search writes; what stood ahead of them stands -/
structure WS (Hb H : Hp) (pw pq : Addr) (ks : List (Nat × Option (Nat × Nat))) (ws : List Nat) : Prop where
  sm : Same Hb H
  w : ∃ kvs, H pw = some (.dK kvs) ∧ DicR (WayR H) kvs ks
  q : H pq = some (.lst (nv ws))
  le : ws.length ≤ ks.length
theorem WS.ne {Hb H pw pq ks ws} (S : WS Hb H pw pq ks ws) : pw ≠ pq := by
  obtain ⟨kvs, h, _⟩ := S.w
  exact ne_of h S.q (by intro z; cases z)
theorem WS.setq {Hb H pw pq ks ws ws'} (S : WS Hb H pw pq ks ws) (nq : Hb pq = none) (hl : ws'.length ≤ ks.length) : WS Hb (upd H pq (.lst (nv ws'))) pw pq ks ws' := by
  obtain ⟨kvs, h, r⟩ := S.w
  refine ⟨S.sm.at nq, ⟨kvs, by rw [upd_ne S.ne]; exact h, r.mono fun v o x => x.keep fun t xs e => ?_⟩, upd_same, hl⟩
  rw [upd_ne (ne_lt S.q e)]
  exact e
theorem WS.add {Hb H pw pq ks ws} (S : WS Hb H pw pq ks ws) (nw : Hb pw = none) {t : Addr} (nt : H t = none) {kvs} (hk : H pw = some (.dK kvs)) (r : DicR (WayR H) kvs ks) {y d here : Nat} (ny : y ∉ ks.map Prod.fst) :
    WS Hb (upd (upd H t (.tup [.int (d : Int), .int (here : Int)])) pw (.dK (putK kvs (Sum.inl (y : Int)) (.ref t)))) pw pq (ks ++ [(y, some (d, here))]) ws := by
  have ntw : t ≠ pw := (ne_of_none hk nt).symm
  refine ⟨(S.sm.trans (Same.upd nt)).at nw, ⟨_, upd_same, (r.mono fun v o x => x.keep fun t' xs e => ?_).add ny ⟨t, rfl, by rw [upd_ne ntw, upd_same]⟩⟩, ?_, by rw [List.length_append]; exact Nat.le_trans S.le (Nat.le_add_right _ _)⟩
  · rw [upd_ne (ne_of e hk (by intro z; cases z)), upd_ne (ne_of_none e nt)]
    exact e
  · rw [upd_ne S.ne.symm, upd_ne (ne_of_none S.q nt)]
    exact S.q
def spWays (K : PySem.W.Frag) : Sp := fun vs H Q _ => ∃ (a sh : Addr) (ds : List (Nat × Nat)) (n room : Nat) (shut : List Nat), vs = [.ref a, .int (room : Int), .ref sh] ∧ HouseAt K H a ds ∧ Tree n ds ∧ n ≤ 1000 ∧ room < n ∧ SqL K H sh (nv shut) ∧ shut.length ≤ 1000 ∧
  ∀ (H' : Hp) (p : Addr) (kvs : List (Key × V)) (ks : List (Nat × Option (Nat × Nat))), Same H H' → H p = none → H' p = some (.dK kvs) → DicR (WayR H') kvs ks → Dfs n ds shut (ks.map Prod.fst) [] → Ptr ds shut room ks → room ∈ ks.map Prod.fst → Q (.ref p) H'
section
variable {P : Program} {w : World} {K : PySem.W.Frag}
      {mg : Str → Option Value} {base : Heap}
theorem ok_ways_from (T : Bl mg) (D : Def K mg "ways_from" s_ways_from) (C_exits_of : Cal P w K mg base "exits_of" ["house"] 1 (spExits K)) : Cal P w K mg base "ways_from" ["house", "room", "shut"] 2 (spWays K) := by
  refine D.ok sc_ways_from (fun _ _ _ _ _ _ us hl => match us, hl with | [_, _, _], _ => rfl) (fun vs H Q E h => ?_) (fun f cdv A outer s H vs Q E hr h => ?_)
  · obtain ⟨a, sh, ds, n, room, shut, rfl, _⟩ := h
    rfl
  obtain ⟨a, sh, ds, n, room, shut, rfl, hH, tree, hn, hroom, hsh, hshl, q⟩ := h
  obtain ⟨f_exits_of, fd_exits_of, g_exits_of, k_exits_of, b_exits_of, G_exits_of⟩ := C_exits_of
  refine ⟨_, (pss_cons (ps_set (i := 3) sc_ways_from.nd rfl (.inl rfl) (pe_call G_exits_of (hr.mono (by decide)) (by rfl) g_exits_of k_exits_of b_exits_of .nil pass0 (pa_cons (pv 0) pa_nil)))
    (pss_cons (ps_set (i := 4) sc_ways_from.nd rfl (.inl rfl) (pe_callTy (cr_setI rfl) (by rfl) T.set (by decide +kernel) (pa_cons (pv 2) pa_nil)))
    (pss_cons (ps_set (i := 5) sc_ways_from.nd rfl (.inl rfl) (pe_disp (pps_cons (pv 1) pe_non pps_nil) (by rfl) (by rfl) (fun z => by cases z) (by decide)))
    (pss_cons (ps_set (i := 6) sc_ways_from.nd rfl (.inl rfl) (pe_lst (pa_cons (pv 1) pa_nil)))
    (pss_cons (ps_while PassesOwn.never (pt_truth (pv 6) (by intro _; rfl)) (pss_cons (ps_set (i := 7) sc_ways_from.nd rfl (.inl rfl) (pe_bm0 PySem.F.plainAttrs_list PySem.F.slot_list_pop PySem.F.type_list_pop mt_pop (pv 6)))
    (pss_one (ps_for PassesOwn.never rfl (pi_list (pe_ix ix_list (pv 3) (pv 7) (fun _ _ => rfl))) (pg_tup (n := 2) rfl (pgs_cons (pg_name (i := 8) sc_ways_from.nd rfl (.inl rfl)) (pgs_cons (pg_name (i := 9) sc_ways_from.nd rfl (.inl rfl)) pgs_nil)))
    (pss_one (ps_if (PW.pt (pw_and (pt_cmpR op_notset (pv 8) (pv 4) (by rfl)) (pw_and1 (pt_cmp (pc_dnotin (hu_of hr) (pv 9) (pv 5)))))) (pss_cons (ps_dput (hu_of hr) (pv 5) (pv 9) (pe_tup (pa_cons (pv 8) (pa_cons (pv 7) pa_nil))) rfl)
    (pss_one (ps_expr (pe_bm PySem.F.plainAttrs_list PySem.F.slot_list_append PySem.F.type_list_append mt_append (pv 6) (pa_cons (pv 9) pa_nil))))) pss_nil))))))
    (pss_one (ps_ret (pv 5)))))))), ?_⟩
  refine ⟨_, rfl, a, ds, n, rfl, hH, tree, hn, fun H1 px ps ex sm1 npx hpx hpl ro mem => ?_⟩
  refine ⟨_, rfl, sh, shut.map (fun x : Nat => (x : Int)), rfl, by rw [← nv_int]; exact sm1.seq hsh, ?_, fun sa S sn nsa hS => ?_⟩
  · rw [List.length_map]
    exact Nat.lt_of_le_of_lt (Nat.succ_le_succ hshl) (by decide)
  have sm2 : Same H1 (upd H1 sa (.set S sn)) := Same.upd nsa
  have hsa : (upd H1 sa (.set S sn)) sa = some (.set S sn) := upd_same
  have hpx2 := sm2 _ _ hpx
  have ro2 := ro.same sm2
  have sm := sm1.trans sm2
  generalize upd H1 sa (.set S sn) = H2 at sm2 hsa hpx2 ro2 sm
  intro pw npw
  refine ⟨_, rfl, upd_same, [(Sum.inl (room : Int), .non)], rfl, (by show 1 ≤ 15; decide), ?_⟩
  rw [upd_upd]
  refine ⟨_, rfl, by show 1 ≤ sizeLine; decide, fun pq npq => ?_⟩
  have npw2 : pw ≠ pq := fun z => by
    subst z
    rw [upd_same] at npq
    cases npq
  have npq2 : H2 pq = none := by
    rw [upd_ne npw2.symm] at npq
    exact npq
  have S0 : WS H2 (upd (upd H2 pw (.dK (mergeK [] [(Sum.inl (room : Int), .non)]))) pq (.lst [.int (room : Int)])) pw pq [(room, none)] [room] :=
    ⟨(Same.upd npw).at npq2, ⟨[(Sum.inl (room : Int), .non)], by rw [upd_ne npw2, upd_same]; rfl, .cons ⟨rfl, rfl⟩ .nil⟩, by rw [upd_same]; rfl, Nat.le_refl _⟩
  generalize (upd (upd H2 pw (.dK (mergeK [] [(Sum.inl (room : Int), .non)]))) pq (.lst [.int (room : Int)])) = H3 at S0
  refine ⟨fun m σ H4 => ∃ ks ws y7 y8 y9, m = 2 * (n - ks.length) + ws.length ∧ σ = [some (.ref a), some (.int (room : Int)), some (.ref sh), some (.ref px), some (.ref sa), some (.ref pw), some (.ref pq), y7, y8, y9] ∧
      WS H2 H4 pw pq ks ws ∧ Dfs n ds shut (ks.map Prod.fst) ws ∧ Ptr ds shut room ks ∧ room ∈ ks.map Prod.fst,
    ⟨_, [(room, none)], [room], _, _, _, rfl, rfl, S0, Dfs.start hroom, Ptr.start, List.mem_singleton.mpr rfl⟩, fun m σ H4 hW => ?_⟩
  obtain ⟨ks, ws, y7, y8, y9, rfl, rfl, S, df, pt, hrm⟩ := hW
  refine ⟨_, rfl, _, .inl ⟨nv ws, SqL.of S.q, rfl⟩, ?_⟩
  rcases snoc_nil ws with rfl | ⟨wr, here, rfl⟩
  · refine iteF ⟨_, rfl, ?_⟩
    obtain ⟨kvs, hk, r⟩ := S.w
    exact q H4 pw kvs ks (sm.trans S.sm) (sm.free npw) hk r df pt hrm
  · have e1 : (!(nv (wr ++ [here])).isEmpty) = true := by
      rw [nv_snoc]
      cases nv wr <;> rfl
    rw [e1]
    have hhere : here < n := df.lt _ (df.sub _ (List.mem_append.mpr (.inr (List.mem_singleton.mpr rfl))))
    have dfi := df.pop
    have hlast : (nv (wr ++ [here]))[(nv (wr ++ [here])).length - 1]? = some (.int (here : Int)) := by
      rw [nv_snoc, List.length_append, List.length_singleton, Nat.add_sub_cancel, List.getElem?_append_right (Nat.le_refl _), Nat.sub_self]
      rfl
    refine iteT ⟨fun σ' H' => ∃ ks' ws' y7 y8 y9, 2 * (n - ks'.length) + ws'.length < 2 * (n - ks.length) + (wr ++ [here]).length ∧ σ' = [some (.ref a), some (.int (room : Int)), some (.ref sh), some (.ref px), some (.ref sa), some (.ref pw), some (.ref pq), y7, y8, y9] ∧
      WS H2 H' pw pq ks' ws' ∧ Dfs n ds shut (ks'.map Prod.fst) ws' ∧ Ptr ds shut room ks' ∧ room ∈ ks'.map Prod.fst, fun σ' H' ⟨ks', ws', z7, z8, z9, h1, h2⟩ => ⟨_, h1, ks', ws', z7, z8, z9, rfl, h2⟩, ?_⟩
    refine ⟨_, rfl, .inl ⟨rfl, _, SqL.of S.q⟩, pq, _, _, rfl, rfl, S.q, hlast, ?_⟩
    rw [nv_snoc, List.dropLast_concat]
    have S1 := S.setq (ws' := wr) npq2 (by have := S.le; simp at this; omega)
    generalize upd H4 pq (.lst (nv wr)) = H5 at S1
    obtain ⟨qx, hqx⟩ := get_of hpl hhere
    obtain ⟨ts, g1, g2, g3⟩ := ro2 _ _ hqx
    refine ⟨_, rfl, _, rfl, px, _, _, V.ref qx, rfl, rfl, SqL.of (S1.sm _ _ hpx2), atI_nat (v := V.ref qx) (by rw [List.getElem?_map, hqx]; rfl), qx, rfl, ⟨_, SqL.of (S1.sm _ _ g1)⟩, ?_⟩
    refine for_it (walk_list (K := K) (a := qx) (xs := ts.map V.ref)) (fun j σ H6 => ∃ ks' ws' y8 y9, 2 * (n - ks'.length) + ws'.length < 2 * (n - ks.length) + (wr ++ [here]).length ∧ σ = [some (.ref a), some (.int (room : Int)), some (.ref sh), some (.ref px), some (.ref sa), some (.ref pw), some (.ref pq), some (.int (here : Int)), y8, y9] ∧
      WS H2 H6 pw pq ks' ws' ∧ DfsIn n ds shut (ks'.map Prod.fst) ws' here ((ex here).take j) ∧ Ptr ds shut room ks' ∧ room ∈ ks'.map Prod.fst)
      ⟨ks, wr, _, _, by rw [List.length_append, List.length_singleton]; omega, rfl, S1, dfi, pt, hrm⟩ (fun i σ H1 _ ⟨_, _, _, _, _, _, S, _⟩ => SqL.of (S.sm _ _ g1)) ?_ ?_
    · rintro j x σ H6 H7 hj ⟨ks', ws', y8, y9, hm, rfl, S2, di, pt', hrm'⟩ ⟨rfl, ex1⟩
      have hj' : j < ts.length := by
        rw [List.length_map] at hj
        exact hj
      obtain ⟨t, ht⟩ : ∃ t, ts[j]? = some t := get_of rfl hj'
      obtain ⟨e, he⟩ : ∃ e, (ex here)[j]? = some e := get_of g2.symm hj'
      rw [List.getElem?_map, ht] at ex1
      cases ex1
      have htup := S2.sm _ _ (g3 j t e ht he)
      have ejoin : Joins ds e.1 here e.2 := (mem here e.1 e.2).mp (List.mem_of_getElem? he)
      have etake : (ex here).take (j + 1) = (ex here).take j ++ [(e.1, e.2)] := by
        rw [List.take_add_one, he]
        rfl
      obtain ⟨kvs, hk, r⟩ := S2.w
      refine ⟨t, _, rfl, SqT.of htup, rfl, _, _, rfl, _, _, rfl, rfl, ?_⟩
      refine ⟨_, rfl, _, rfl, _, sa, _, sn, rfl, rfl, S2.sm _ _ hsa, _, rfl, ?_⟩
      rw [hS]
      by_cases hd : e.1 ∈ shut
      · rw [decide_eq_true (mem_ofNat.mpr hd)]
        refine iteF (iteF ?_)
        exact ⟨ks', ws', _, _, hm, rfl, S2, by rw [etake]; exact di.skip (.inl hd), pt', hrm'⟩
      · rw [decide_eq_false fun z => hd (mem_ofNat.mp z)]
        refine iteT ⟨_, rfl, _, rfl, pw, _, rfl, DGet.k (k := Sum.inl (e.2 : Int)) hk, _, rfl, ?_⟩
        by_cases hy : e.2 ∈ ks'.map Prod.fst
        · obtain ⟨v, o, hv, _, _⟩ := r.val hy
          rw [hv]
          refine iteF ?_
          exact ⟨ks', ws', _, _, hm, rfl, S2, by rw [etake]; exact di.skip (.inr hy), pt', hrm'⟩
        · rw [r.no hy]
          refine iteT ?_
          have ely := (Joins.lt tree ejoin).2.1
          have di2 := di.add (d := e.1) ely hy
          have hle := di2.le
          rw [List.length_append, List.length_singleton, List.length_map] at hle
          refine ⟨_, rfl, _, rfl, by show 2 ≤ sizeLine; decide, fun t2 nt2 => ⟨_, rfl, _, rfl, pw, _, rfl, DPut.k (k := Sum.inl (e.2 : Int)) (by rw [upd_ne (ne_of_none hk nt2)]; exact hk) (by rw [r.len]; exact small1000 (by omega)), ?_⟩⟩
          have S3 := S2.add npw nt2 hk r (y := e.2) (d := e.1) (here := here) hy
          generalize (upd (upd H7 t2 (.tup [.int (e.1 : Int), .int (here : Int)])) pw (.dK (putK kvs (Sum.inl (e.2 : Int)) (.ref t2)))) = H8 at S3
          refine ⟨_, rfl, .inl ⟨rfl, _, SqL.of S3.q⟩, _, rfl, pq, _, _, rfl, rfl, S3.q, ?_, ?_⟩
          · rw [nv_len]
            have := S2.le
            exact small1000 (by omega)
          · rw [← nv_snoc]
            refine ⟨ks' ++ [(e.2, some (e.1, here))], ws' ++ [e.2], _, _, ?_, rfl, S3.setq npq2 (by have := S2.le; simp; omega), ?_, pt'.add ejoin.symm hd di.he hy, ?_⟩
            · rw [List.length_append, List.length_append, List.length_singleton, List.length_singleton]
              omega
            · rw [etake, List.map_append]
              exact di2
            · rw [List.map_append]
              exact List.mem_append.mpr (.inl hrm')
    · rintro σ H6 ⟨ks', ws', y8, y9, hm, rfl, S2, di, pt', hrm'⟩
      refine ⟨ks', ws', _, _, _, hm, rfl, S2, di.done fun d y j => ?_, pt', hrm'⟩
      rw [List.length_map, g2, List.take_length]
      exact (mem here d y).mpr j
end
end K5

namespace K5
open PySem PySem.Spec PyProof.Rows L2
theorem bits29 {m : Int} (h0 : 0 < m) (h1 : m < 2 ^ 29) : ((Builtin.Int.intBits m : Nat) : Int) / 30 = 0 := by
  have h : Builtin.Int.intBits m ≤ 29 := by
    unfold Builtin.Int.intBits
    have hne : ¬ (m == 0) = true := fun z => by
      have := eq_of_beq z
      omega
    rw [if_neg hne]
    have : m.natAbs.log2 < 29 := (Nat.log2_lt (by omega)).mpr (by omega)
    omega
  omega
/-- a generator of draws: a list of three numbers, the third at most b -/
def GenAt (H : Hp) (g : Addr) (b : Nat) : Prop := ∃ x y z : Int, H g = some (.lst [.int x, .int y, .int z]) ∧ 0 ≤ x ∧ 0 ≤ z ∧ z ≤ (b : Int)
theorem GenAt.mono {H g b c} (h : GenAt H g b) (l : b ≤ c) : GenAt H g c := by
  obtain ⟨x, y, z, a, b, c, d⟩ := h
  exact ⟨x, y, z, a, b, c, by omega⟩
theorem GenAt.same {H H' g b} (h : GenAt H g b) (s : Same H H') : GenAt H' g b := by
  obtain ⟨x, y, z, a, b, c, d⟩ := h
  exact ⟨x, y, z, s _ _ a, b, c, d⟩
theorem GenAt.lst {H g b} (h : GenAt H g b) : ∃ xs, H g = some (.lst xs) := by
  obtain ⟨x, y, z, a, _⟩ := h
  exact ⟨_, a⟩
def spCell (K : PySem.W.Frag) : Sp := fun vs H Q _ => ∃ (a : Addr) (ns : List Int) (i : Int), vs = [.ref a, .int i] ∧ SqL K H a (ns.map V.int) ∧ 0 ≤ i ∧ ∀ z : Int, Q (.int z) H
def spHash : Sp := fun vs H Q _ => ∃ x i : Int, vs = [.int x, .int i] ∧ 0 ≤ i ∧ i < 2 ^ 62 ∧ ∀ z : Int, Q (.int z) H
def spGen (K : PySem.W.Frag) : Sp := fun vs H Q _ => ∃ (a : Addr) (ns : List Int) (i : Nat), vs = [.ref a, .int (i : Int)] ∧ SqL K H a (ns.map V.int) ∧ i ≤ 1000 ∧ ∀ (H' : Hp) (g : Addr), Same H H' → H g = none → GenAt H' g 1000000 → Q (.ref g) H'
def spRand : Sp := fun vs H Q _ => ∃ (g : Addr) (b m : Nat), vs = [.ref g, .int (m : Int)] ∧ GenAt H g b ∧ 0 < m ∧ m < 2 ^ 29 ∧ b < 2 ^ 60 ∧ ∀ (H' : Hp) (v : Nat), But g H H' → GenAt H' g (b + 1) → v < m → Q (.int (v : Int)) H'
section
variable {P : Program} {w : World} {K : PySem.W.Frag}
      {mg : Str → Option Value} {base : Heap}
theorem ok_cell (T : Bl mg) (D : Def K mg "_law_cell" s_l_cell) : Cal P w K mg base "_law_cell" ["_law_script", "_law_index"] 1 (spCell K) := by
  refine D.ok sc_l_cell (fun _ _ _ _ _ _ us hl => match us, hl with | [_, _], _ => rfl) (fun vs H Q E h => ?_) (fun f cdv A outer s H vs Q E hr h => ?_)
  · obtain ⟨a, ns, i, rfl, _⟩ := h
    rfl
  obtain ⟨a, ns, i, rfl, hs, hi, q⟩ := h
  refine ⟨_, (pss_cons (ps_if (pt_cmpR op_lt (pv 1) (pe_callB call_len_seq (by rfl) T.len PySem.boot_len (pa_cons (pv 0) pa_nil)) (nomark _)) (pss_one (ps_ret (pe_ix ix_list (pv 0) (pv 1) (fun _ _ => rfl)))) pss_nil)
    (pss_one (ps_ret pe_int))), ?_⟩
  refine ⟨_, rfl, _, rfl, _, _, rfl, .inl hs, _, _, rfl, rfl, _, rfl, ite2 (fun h => ?_) (fun h => ?_)⟩
  · have h := of_decide_eq_true h
    rw [List.length_map] at h
    obtain ⟨k, rfl⟩ : ∃ k : Nat, i = (k : Int) := ⟨i.toNat, by omega⟩
    have hk : k < ns.length := by omega
    refine ⟨_, rfl, _, rfl, _, _, _, _, rfl, rfl, hs, atI_nat (v := V.int ns[k]) (by rw [List.getElem?_map, List.getElem?_eq_getElem hk]; rfl), q _⟩
  · exact q 0
theorem ok_hash (T : Bl mg) (D : Def K mg "_law_hash" s_l_hash) : Cal P w K mg base "_law_hash" ["_law_seed", "_law_index"] 1 spHash := by
  refine D.ok sc_l_hash (fun _ _ _ _ _ _ us hl => match us, hl with | [_, _], _ => rfl) (fun vs H Q E h => ?_) (fun f cdv A outer s H vs Q E hr h => ?_)
  · obtain ⟨x, i, rfl, _⟩ := h
    rfl
  obtain ⟨x, i, rfl, h0, h1, q⟩ := h
  refine ⟨_, (pss_cons (ps_set (i := 2) sc_l_hash.nd rfl (.inl rfl) (pe_op op_mod (pe_op op_add (pe_op op_add (pe_op op_add (pe_op op_mul (pv 0) pe_int) (pe_op op_mul (pe_op op_mul pe_int (pv 1)) (pv 1))) (pv 1)) pe_int) pe_int))
    (pss_cons (ps_set (i := 2) sc_l_hash.nd rfl (.inl rfl) (pe_op op_mod (pe_op op_add (pe_op op_mul (pv 2) (pv 2)) pe_int) pe_int))
    (pss_one (ps_ret (pe_op op_mod (pe_op op_mul (pv 2) pe_int) pe_int))))), ?_⟩
  refine ⟨_, rfl, _, _, rfl, rfl, .inr (by decide), _, rfl, _, _, rfl, rfl, .inl (by decide), _, rfl, _, _, rfl, rfl, .inr ⟨by omega, by omega⟩, _, _, rfl, rfl, _, rfl, _, _, rfl, rfl, _, _, rfl, rfl, _, _, rfl, rfl, (by show (0 : Int) < 2147483647; decide), ?_⟩
  have b0 := Int.emod_nonneg (x * 1103515245 + 7919 * i * i + i + 1) (show (2147483647 : Int) ≠ 0 by decide)
  have b1 := Int.emod_lt_of_pos (x * 1103515245 + 7919 * i * i + i + 1) (show (0 : Int) < 2147483647 by decide)
  generalize (x * 1103515245 + 7919 * i * i + i + 1) % 2147483647 = u at b0 b1
  refine ⟨_, rfl, _, rfl, _, _, rfl, rfl, .inl ⟨by omega, by omega⟩, _, _, rfl, rfl, _, _, rfl, rfl, (by show (0 : Int) < 2147483629; decide), ?_⟩
  refine ⟨_, rfl, _, _, rfl, rfl, .inr (by decide), _, _, rfl, rfl, (by show (0 : Int) < 2147483587; decide), q _⟩
theorem ok_generator (T : Bl mg) (D : Def K mg "_law_generator" s_l_generator) (C_l_cell : Cal P w K mg base "_law_cell" ["_law_script", "_law_index"] 1 (spCell K)) : Cal P w K mg base "_law_generator" ["_law_script", "_law_index"] 2 (spGen K) := by
  refine D.ok sc_l_generator (fun _ _ _ _ _ _ us hl => match us, hl with | [_, _], _ => rfl) (fun vs H Q E h => ?_) (fun f cdv A outer s H vs Q E hr h => ?_)
  · obtain ⟨a, ns, i, rfl, _⟩ := h
    rfl
  obtain ⟨a, ns, i, rfl, hs, hi, q⟩ := h
  obtain ⟨f_l_cell, fd_l_cell, g_l_cell, k_l_cell, b_l_cell, G_l_cell⟩ := C_l_cell
  refine ⟨_, (pss_cons (ps_set (i := 2) sc_l_generator.nd rfl (.inl rfl) (pe_call G_l_cell (hr.mono (by decide)) (by rfl) g_l_cell k_l_cell b_l_cell .nil pass0 (pa_cons (pv 0) (pa_cons (pv 1) pa_nil))))
    (pss_one (ps_ret (pe_lst (pa_cons (pe_op op_mod (pe_callB (call_max2 rfl) (by rfl) T.max (by decide +kernel) (pa_cons (pe_op op_sub (pv 2) (pe_op op_pow pe_int pe_int)) (pa_cons pe_int pa_nil))) (pe_op op_powX (pe_op op_pow pe_int pe_int) pe_int)) (pa_cons (pe_op op_mod (pv 2) pe_int) (pa_cons (pe_op op_mul pe_int (pv 1)) pa_nil))))))), ?_⟩
  refine ⟨_, rfl, _, rfl, a, ns, _, rfl, hs, by omega, fun z => ?_⟩
  have hpos : (0 : Int) < (10 ^ (60 : Int).toNat) ^ (10 : Int).toNat := by decide +kernel
  refine ⟨_, rfl, _, _, rfl, rfl, ⟨by decide, by decide, by decide⟩, _, _, rfl, rfl, _, _, rfl, _, _, rfl, rfl, ⟨by decide, by decide, by decide⟩, _, _, rfl, rfl, (by decide +kernel), _, _, rfl, rfl, hpos, _, rfl, _, _, rfl, rfl, (by show (0 : Int) < 2147483647; decide), _, rfl, _, _, rfl, rfl, .inl (by decide), by show 3 ≤ sizeLine; decide, fun g ng => ?_⟩
  refine q _ g (Same.upd ng) ng ⟨_, _, _, upd_same, Int.emod_nonneg _ (by omega), by omega, by omega⟩
theorem ok_random (T : Bl mg) (D : Def K mg "_law_random" s_l_random) (C_l_hash : Cal P w K mg base "_law_hash" ["_law_seed", "_law_index"] 1 spHash) : Cal P w K mg base "_law_random" ["_law_generator_here", "_law_bound"] 2 spRand := by
  refine D.ok sc_l_random (fun _ _ _ _ _ _ us hl => match us, hl with | [_, _], _ => rfl) (fun vs H Q E h => ?_) (fun f cdv A outer s H vs Q E hr h => ?_)
  · obtain ⟨g, b, m, rfl, _⟩ := h
    rfl
  obtain ⟨g, b, m, rfl, ⟨x, y, z, hg, hx, hz, hzb⟩, hm, hm2, hb, q⟩ := h
  obtain ⟨f_l_hash, fd_l_hash, g_l_hash, k_l_hash, b_l_hash, G_l_hash⟩ := C_l_hash
  refine ⟨_, (pss_cons (ps_if (pt_cmpR op_gt (pe_ix ix_list (pv 0) pe_int (fun _ _ => rfl)) pe_int (nomark _)) (pss_cons (ps_set (i := 2) sc_l_random.nd rfl (.inl rfl) (pe_op op_mod (pe_ix ix_list (pv 0) pe_int (fun _ _ => rfl)) (pv 1)))
    (pss_cons (ps_asg (pe_op op_fdiv (pe_ix ix_list (pv 0) pe_int (fun _ _ => rfl)) (pv 1)) (pg_sub (pv 0) pe_int set_list))
    (pss_one (ps_ret (pv 2))))) pss_nil)
    (pss_cons (ps_set (i := 2) sc_l_random.nd rfl (.inl rfl) pe_int)
    (pss_cons (ps_for PassesOwn.never rfl (pi_range1 rfl T.range (pa_cons (pe_op op_add pe_int (pe_op op_fdiv (pe_bits (pv 1)) pe_int)) pa_nil)) (pg_name (i := 3) sc_l_random.nd rfl (.inl rfl))
    (pss_cons (ps_asg (pe_op op_add (pe_ix ix_list (pv 0) pe_int (fun _ _ => rfl)) pe_int) (pg_sub (pv 0) pe_int set_list))
    (pss_one (ps_set (i := 2) sc_l_random.nd rfl (.inl rfl) (pe_op op_add (pe_op op_mul (pv 2) pe_int) (pe_call G_l_hash (hr.mono (by decide)) (by rfl) g_l_hash k_l_hash b_l_hash .nil pass0 (pa_cons (pe_ix ix_list (pv 0) pe_int (fun _ _ => rfl)) (pa_cons (pe_ix ix_list (pv 0) pe_int (fun _ _ => rfl)) pa_nil))))))))
    (pss_one (ps_ret (pe_op op_mod (pv 2) (pv 1))))))), ?_⟩
  have hm' : (0 : Int) < (m : Int) := by omega
  refine ⟨_, rfl, _, _, _, V.int x, rfl, rfl, SqL.of hg, atI_nat (j := 0) (v := V.int x) rfl, _, _, rfl, rfl, _, rfl, ite2 (fun h => ?_) (fun h => ?_)⟩
  · refine ⟨_, rfl, _, _, _, V.int x, rfl, rfl, SqL.of hg, atI_nat (j := 0) (v := V.int x) rfl, _, rfl, _, _, rfl, rfl, hm', ?_⟩
    refine ⟨_, rfl, _, _, _, V.int x, rfl, rfl, SqL.of hg, atI_nat (j := 0) (v := V.int x) rfl, _, rfl, _, _, rfl, rfl, ⟨hm', by omega⟩, ?_⟩
    refine ⟨_, rfl, g, _, _, 0, rfl, rfl, hg, rfl, ?_⟩
    refine ⟨_, rfl, ?_⟩
    have e : x % (m : Int) = ((x % (m : Int)).toNat : Int) := (Int.toNat_of_nonneg (Int.emod_nonneg _ (by omega))).symm
    have l := Int.emod_lt_of_pos x hm'
    show Q (.int (x % (m : Int))) _
    rw [e]
    refine q _ _ (fun c o n e => by rw [upd_ne n]; exact e) ⟨x / (m : Int), y, z, upd_same, Int.ediv_nonneg hx (by omega), hz, by omega⟩ (by omega)
  · have eb : (1 : Int) + ((Builtin.Int.intBits (m : Int) : Nat) : Int) / 30 = 1 := by
      rw [bits29 hm' (by omega)]
      rfl
    refine ⟨_, rfl, _, rfl, _, _, rfl, rfl, ⟨by decide, by decide⟩, _, _, rfl, rfl, (1 : Int), congrArg (fun z => [V.int z]) eb, by decide, by decide, ?_⟩
    refine for_range (lo := 0) (n := 1) (fun i σ H1 => ∃ (r : Int) (y3 : Option V) (z1 : Int), σ = [some (.ref g), some (.int (m : Int)), some (.int r), y3] ∧ But g H H1 ∧ H1 g = some (.lst [.int x, .int y, .int z1]) ∧ 0 ≤ z1 ∧ z1 ≤ (b : Int) + (i : Int))
      ⟨0, _, z, rfl, fun _ _ _ e => e, hg, hz, by omega⟩ ?_ ?_
    · rintro i σ H1 hi ⟨r, y3, z1, rfl, bt, hg1, hz1, hz2⟩
      refine ⟨_, rfl, _, _, _, V.int z1, rfl, rfl, SqL.of hg1, atI_nat (j := 2) (v := V.int z1) rfl, _, _, rfl, rfl, _, rfl, g, _, _, 2, rfl, rfl, hg1, rfl, ?_⟩
      have hg2 : (upd H1 g (.lst [.int x, .int y, .int (z1 + 1)])) g = some (.lst [.int x, .int y, .int (z1 + 1)]) := upd_same
      refine ⟨_, rfl, _, _, rfl, rfl, .inr (by decide), _, rfl, _, _, _, V.int y, rfl, rfl, SqL.of hg2, atI_nat (j := 1) (v := V.int y) rfl, _, rfl, _, _, _, V.int (z1 + 1), rfl, rfl, SqL.of hg2, atI_nat (j := 2) (v := V.int (z1 + 1)) rfl, _, _, rfl, by omega, by omega, fun u => ?_⟩
      refine ⟨_, _, rfl, rfl, ?_⟩
      exact ⟨_, _, z1 + 1, rfl, bt.upd _, hg2, by omega, by omega⟩
    · rintro σ H1 ⟨r, y3, z1, rfl, bt, hg1, hz1, hz2⟩
      refine ⟨_, rfl, _, rfl, _, _, rfl, rfl, hm', ?_⟩
      have e : r % (m : Int) = ((r % (m : Int)).toNat : Int) := (Int.toNat_of_nonneg (Int.emod_nonneg _ (by omega))).symm
      have l := Int.emod_lt_of_pos r hm'
      show Q (.int (r % (m : Int))) _
      rw [e]
      exact q _ _ bt ⟨x, y, z1, hg1, hx, hz1, by omega⟩ (by omega)
end
end K5

namespace K5
open PySem PySem.Spec PyProof.Rows L2
theorem cons_erase {α : Type} : ∀ (l : List α) (i : Nat) (y : α), l[i]? = some y → (y :: l.eraseIdx i).Perm l
  | [], i, y, h => by simp at h
  | a :: r, 0, y, h => by
    have e : a = y := Option.some.inj h
    subst e
    exact List.Perm.refl _
  | a :: r, i + 1, y, h => ((List.Perm.swap a y _).trans ((cons_erase r i y h).cons a))
theorem _root_.L2.But.seq {K : PySem.W.Frag} {g a : Addr} {H H' : Hp} {xs : List V} (s : But g H H') (n : a ≠ g) (h : SqL K H a xs) : SqL K H' a xs := by
  rcases h with (h | ⟨o, h⟩) | h
  · exact .inl (.inl (s _ _ n h))
  · exact .inl (.inr ⟨o, s _ _ n h⟩)
  · exact .inr h
theorem _root_.L2.But.at {g p : Addr} {H H' : Hp} (s : But g H H') (n : H p = none) (o : HO) : But g H (upd H' p o) := fun b u ne e => by
  rw [upd_ne (ne_of_none e n)]
  exact s b u ne e
theorem _root_.L2.But.refl (g : Addr) (H : Hp) : But g H H := fun _ _ _ e => e
theorem _root_.L2.But.free {g p : Addr} {H H' : Hp} (s : But g H H') (ne : p ≠ g) (h : H' p = none) : H p = none := by
  cases q : H p with
  | none => rfl
  | some o =>
    rw [s p o ne q] at h
    cases h
theorem GenAt.at {H g b p o} (h : GenAt H g b) (n : p ≠ g) : GenAt (upd H p o) g b := by
  obtain ⟨x, y, z, a, r⟩ := h
  exact ⟨x, y, z, by rw [upd_ne n.symm]; exact a, r⟩
theorem GenAt.ne {H g b p} (h : GenAt H g b) (n : H p = none) : p ≠ g := by
  obtain ⟨x, y, z, a, r⟩ := h
  exact (ne_of_none a n).symm
theorem seq_nat {v n : Nat} (h : v < n) : seqIndex? (v : Int) n = some v := (ixN_seq (ixN_nat h)).1
def spShuf (K : PySem.W.Frag) : Sp := fun vs H Q _ => ∃ (g a : Addr) (b : Nat) (xs : List V), vs = [.ref g, .ref a] ∧ GenAt H g b ∧ SqL K H a xs ∧ a ≠ g ∧ xs.length ≤ 1000 ∧ b < 2 ^ 59 ∧
  ∀ (H' : Hp) (q : Addr) (ys : List V), But g H H' → GenAt H' g (b + xs.length) → H q = none → H' q = some (.lst ys) → ys.Perm xs → Q (.ref q) H'
section
variable {P : Program} {w : World} {K : PySem.W.Frag}
      {mg : Str → Option Value} {base : Heap}
theorem ok_shuffled (T : Bl mg) (D : Def K mg "_law_shuffled" s_l_shuffled) (C_l_random : Cal P w K mg base "_law_random" ["_law_generator_here", "_law_bound"] 2 spRand) : Cal P w K mg base "_law_shuffled" ["_law_generator_here", "_law_items"] 3 (spShuf K) := by
  refine D.ok sc_l_shuffled (fun _ _ _ _ _ _ us hl => match us, hl with | [_, _], _ => rfl) (fun vs H Q E h => ?_) (fun f cdv A outer s H vs Q E hr h => ?_)
  · obtain ⟨g, a, b, xs, rfl, _⟩ := h
    rfl
  obtain ⟨g, a, b, xs, rfl, hg, hs, nag, hxs, hb, q⟩ := h
  obtain ⟨f_l_random, fd_l_random, g_l_random, k_l_random, b_l_random, G_l_random⟩ := C_l_random
  refine ⟨_, (pss_cons (ps_set (i := 2) sc_l_shuffled.nd rfl (.inr rfl) (pe_callTy call_list_of (by rfl) T.list (by decide +kernel) (pa_cons (pv 1) pa_nil)))
    (pss_one (ps_ret (pe_lc (own := [("_law_item", 3)]) (g := gName 3)  (te := (tBM K "list" rPopAt (tVar 2) (tCons (tCall spRand [] E0 (tCons (tVar 0) (tCons (tCB (fun xs H Q => ∃ p ys, xs = [V.ref p] ∧ (SqL K H p ys ∨ SqT K H p ys) ∧ Q (.int ys.length) H) (tCons (tVar 2) tNil)) tNil))) tNil))) rfl sc_l_shuffled.nd (pi_list (pv 1)) (blkOk_by (N := N_l_shuffled) (sc := defScope s_l_shuffled) (own := [("_law_item", 3)]) (by decide +kernel)) (fun _ _ _ _ _ => (pg_name (i := 3) sc_l_shuffled.nd rfl (.inl rfl) (.inr rfl))) (fun _ _ _ _ _ => pts_nil) (fun _ _ _ _ _ => (pe_bm PySem.F.plainAttrs_list PySem.F.slot_list_pop PySem.F.type_list_pop mt_popAt (pv 2) (pa_cons (pe_call G_l_random (hr.mono (by decide)) (by rfl) g_l_random k_l_random b_l_random .nil pass0 (pa_cons (pv 0) (pa_cons (pe_callB call_len_seq (by rfl) T.len PySem.boot_len (pa_cons (pv 2) pa_nil)) pa_nil))) pa_nil))))))), ?_⟩
  refine ⟨_, rfl, a, xs, rfl, .inl hs, fun pp npp => ?_⟩
  have s1 := Same.upd (o := .lst xs) npp
  have h1 : (upd H pp (.lst xs)) pp = some (.lst xs) := upd_same
  have g1 := hg.same s1
  generalize upd H pp (.lst xs) = H1 at s1 h1 g1
  refine ⟨_, rfl, a, rfl, ⟨_, s1.seq hs⟩, fun pd npd => ?_⟩
  have ndp : pd ≠ pp := (ne_of_none h1 npd).symm
  have ndg : pd ≠ g := g1.ne npd
  have npg : pp ≠ g := hg.ne npp
  refine lc_it (walk_list (K := K) (a := a) (xs := xs)) (fun i H2 => ∃ acc pl, But g H H2 ∧ GenAt H2 g (b + i) ∧ H2 pp = some (.lst pl) ∧ H2 pd = some (.lst acc) ∧ (acc ++ pl).Perm xs ∧ acc.length = i)
    ⟨[], xs, s1.but.at (s1.free npd) _, g1.at ndg, by rw [upd_ne ndp.symm]; exact h1, upd_same, List.Perm.refl _, rfl⟩ (fun i H2 _ ⟨_, _, bt, _⟩ => bt.seq nag hs) ?_ ?_
  · rintro i v H2 H3 hi ⟨acc, pl, bt, g2, h2, hd2, pm, hl⟩ ⟨rfl, ex⟩
    have hlen := pm.length_eq
    rw [List.length_append] at hlen
    refine ⟨rfl, lcYes ?_⟩
    refine ⟨_, rfl, .inl ⟨rfl, _, SqL.of h2⟩, _, rfl, _, rfl, pp, pl, rfl, .inl (SqL.of h2), ?_⟩
    refine ⟨g, b + i, pl.length, rfl, g2, by omega, by omega, by omega, fun H4 u bt4 g4 hu => ?_⟩
    have h4 := bt4 _ _ npg h2
    have hd4 := bt4 _ _ ndg hd2
    obtain ⟨y, hy⟩ : ∃ y, pl[u]? = some y := ⟨_, List.getElem?_eq_getElem hu⟩
    refine ⟨pp, pl, _, u, y, rfl, rfl, h4, by omega, by omega, seq_nat hu, hy, ?_⟩
    refine ⟨acc, by rw [upd_ne ndp]; exact hd4, small1000 (by omega), acc ++ [y], pl.eraseIdx u, ?_, ?_, ?_, upd_same, ?_, by rw [List.length_append, hl]; rfl⟩
    · exact (((bt.trans bt4).at npp _).at (s1.free npd) _)
    · exact (g4.at npg).at ndg
    · rw [upd_ne ndp.symm, upd_same]
    · rw [List.append_assoc]
      exact (List.Perm.append_left acc (cons_erase pl u y hy)).trans pm
  · rintro H2 ⟨acc, pl, bt, g2, h2, hd2, pm, hl⟩
    have hlen := pm.length_eq
    rw [List.length_append] at hlen
    have : pl = [] := List.eq_nil_of_length_eq_zero (by omega)
    subst this
    rw [List.append_nil] at pm
    exact q H2 pd acc bt g2 (s1.free npd) hd2 pm
end
end K5

namespace K5
open PySem PySem.Spec PyProof.Rows L2
/-! ### moves and states, as plain mathematics -/
/-- person, start, end -/
abbrev Mv := Nat × Nat × Nat
/-- where each person is; whom each door bars -/
abbrev S2 := List Nat × List Nat
theorem Tree.one_door {n ds} (T : Tree n ds) {d c x y : Nat} (j : Joins ds d x y) (k : Joins ds c x y) : d = c := by
  obtain ⟨side, s1, s2⟩ := T.side
  refine Classical.byContradiction fun h => ?_
  exact side_join s1 j (side_other s2 k h)
/-- the door between two rooms -/
def dix (ds : List (Nat × Nat)) (x y : Nat) : Nat := ((List.range ds.length).find? fun d => decide (ds[d]? = some (x, y) ∨ ds[d]? = some (y, x))).getD 0
theorem joins_lt {ds : List (Nat × Nat)} {d x y : Nat} (j : Joins ds d x y) : d < ds.length := by
  rcases j with j | j
  · exact get_lt j
  · exact get_lt j
theorem dix_is {n ds} (T : Tree n ds) {d x y : Nat} (j : Joins ds d x y) : dix ds x y = d := by
  unfold dix
  cases h : (List.range ds.length).find? fun d => decide (ds[d]? = some (x, y) ∨ ds[d]? = some (y, x)) with
  | none =>
    have := List.find?_eq_none.mp h d (List.mem_range.mpr (joins_lt j))
    exact absurd (decide_eq_true (show ds[d]? = some (x, y) ∨ ds[d]? = some (y, x) from j)) this
  | some c =>
    have k : ds[c]? = some (x, y) ∨ ds[c]? = some (y, x) := by
      have := List.find?_some h
      exact of_decide_eq_true this
    exact T.one_door k j
/-- a move that names a person and a door -/
def VM (ds : List (Nat × Nat)) (P : Nat) (m : Mv) : Prop := m.1 < P ∧ ∃ d, Joins ds d m.2.1 m.2.2
/-- why the move is not possible -/
def why (ds : List (Nat × Nat)) (S : S2) (m : Mv) : Option String :=
  if S.1.getD m.1 0 ≠ m.2.1 then some "away" else if S.2.getD (dix ds m.2.1 m.2.2) 0 = m.1 then some "barred" else none
def nxt (ds : List (Nat × Nat)) (S : S2) (m : Mv) : S2 := (S.1.set m.1 m.2.2, S.2.set (dix ds m.2.1 m.2.2) m.1)
def runs (ds : List (Nat × Nat)) : Nat → S2 → List Mv → (Nat × String) ⊕ S2
  | _, S, [] => .inr S
  | i, S, m :: r => match why ds S m with
    | some w => .inl (i, w)
    | none => runs ds (i + 1) (nxt ds S m) r
structure StOk (n : Nat) (ds : List (Nat × Nat)) (S : S2) : Prop where
  one : 1 ≤ S.1.length
  few : S.1.length ≤ 10
  rooms : ∀ x ∈ S.1, x < n
  doors : S.2.length = ds.length
  bars : ∀ y ∈ S.2, y < S.1.length
theorem StOk.nxt {n ds S m} (T : Tree n ds) (h : StOk n ds S) (v : VM ds S.1.length m) : StOk n ds (nxt ds S m) := by
  obtain ⟨v1, d, j⟩ := v
  obtain ⟨_, l2, _, _⟩ := j.lt T
  have e1 : (K5.nxt ds S m).1.length = S.1.length := List.length_set
  refine ⟨by rw [e1]; exact h.one, by rw [e1]; exact h.few, fun x hx => ?_, by rw [show (K5.nxt ds S m).2.length = S.2.length from List.length_set]; exact h.doors, fun y hy => ?_⟩
  · rcases List.mem_or_eq_of_mem_set hx with q | q
    · exact h.rooms x q
    · rw [q]; exact l2
  · rw [e1]
    rcases List.mem_or_eq_of_mem_set hy with q | q
    · exact h.bars y q
    · rw [q]; exact v1
theorem nxt_len {ds S m} : (nxt ds S m).1.length = S.1.length := List.length_set
theorem runs_drop {ds : List (Nat × Nat)} {S : S2} {ms : List Mv} {k : Nat} {m : Mv} (h : ms[k]? = some m) : runs ds k S (ms.drop k) = match why ds S m with
    | some w => .inl (k, w)
    | none => runs ds (k + 1) (nxt ds S m) (ms.drop (k + 1)) := by
  have hk := get_lt h
  have e : ms.drop k = m :: ms.drop (k + 1) := by
    rw [List.drop_eq_getElem_cons hk]
    rw [List.getElem?_eq_getElem hk] at h
    rw [Option.some.inj h]
  rw [e]
  rfl
/-- the moves that are possible -/
def Can (ds : List (Nat × Nat)) (S : S2) (m : Mv) : Prop := m.1 < S.1.length ∧ S.1[m.1]? = some m.2.1 ∧ ∃ d, Joins ds d m.2.1 m.2.2 ∧ S.2[d]? ≠ some m.1
theorem Can.vm {ds S m} (h : Can ds S m) : VM ds S.1.length m := ⟨h.1, h.2.2.choose, h.2.2.choose_spec.1⟩
theorem getD_of {l : List Nat} {i x : Nat} (h : l[i]? = some x) : l.getD i 0 = x := by
  rw [List.getD_eq_getElem?_getD, h]
  rfl
theorem Can.why {n ds S m} (T : Tree n ds) (h : Can ds S m) (o : StOk n ds S) : why ds S m = none := by
  obtain ⟨h1, h2, d, j, h3⟩ := h
  unfold K5.why
  rw [if_neg (by rw [getD_of h2]; simp), dix_is T j]
  have hd : d < S.2.length := by rw [o.doors]; exact joins_lt j
  obtain ⟨b, hb⟩ : ∃ b, S.2[d]? = some b := get_of rfl hd
  rw [getD_of hb, if_neg]
  intro z
  exact h3 (by rw [hb, z])
def mcode (m : Mv) : Int := TS.code 64 [(m.1 : Int), (m.2.1 : Int), (m.2.2 : Int)]
theorem mcode_is (m : Mv) : mcode m = (m.1 : Int) * 4096 + (m.2.1 : Int) * 64 + (m.2.2 : Int) := by
  unfold mcode
  show (m.1 : Int) * 64 ^ 2 + ((m.2.1 : Int) * 64 ^ 1 + ((m.2.2 : Int) * 64 ^ 0 + 0)) = _
  rw [show (64 : Int) ^ 2 = 4096 by decide, show (64 : Int) ^ 1 = 64 by decide, show (64 : Int) ^ 0 = 1 by decide]
  omega
def Sm (m : Mv) : Prop := m.1 < 64 ∧ m.2.1 < 64 ∧ m.2.2 < 64
theorem mcode_inj {m m' : Mv} (a : Sm m) (b : Sm m') (e : mcode m = mcode m') : m = m' := by
  obtain ⟨x, y, z⟩ := m
  obtain ⟨x', y', z'⟩ := m'
  rw [mcode_is, mcode_is] at e
  unfold Sm at a b
  simp only at e a b
  have h1 : x = x' := by omega
  have h2 : y = y' := by omega
  have h3 : z = z' := by omega
  rw [h1, h2, h3]
/-- the moves with P, each once, ascending -/
structure Canon (l : List Mv) (P : Mv → Prop) : Prop where
  mem : ∀ m, m ∈ l ↔ P m
  sm : ∀ m ∈ l, Sm m
  asc : l.Pairwise fun a b => mcode a < mcode b
theorem asc_unique : ∀ (l l' : List Mv), (l.Pairwise fun a b => mcode a < mcode b) → (l'.Pairwise fun a b => mcode a < mcode b) → (∀ m, m ∈ l ↔ m ∈ l') → (∀ m ∈ l, Sm m) → l = l'
  | [], [], _, _, _, _ => rfl
  | [], b :: r, _, _, h, _ => by
    have := (h b).mpr List.mem_cons_self
    cases this
  | a :: r, [], _, _, h, _ => by
    have := (h a).mp List.mem_cons_self
    cases this
  | a :: r, b :: r', p, p', h, sm => by
    obtain ⟨p1, p2⟩ := List.pairwise_cons.mp p
    obtain ⟨q1, q2⟩ := List.pairwise_cons.mp p'
    have e : a = b := by
      rcases List.mem_cons.mp ((h a).mp List.mem_cons_self) with e | h1
      · exact e
      · rcases List.mem_cons.mp ((h b).mpr List.mem_cons_self) with e | h2
        · exact e.symm
        · have := p1 b h2
          have := q1 a h1
          omega
    subst e
    have : r = r' := by
      refine asc_unique r r' p2 q2 (fun m => ?_) fun m hm => sm m (List.mem_cons_of_mem _ hm)
      constructor
      · intro hm
        rcases List.mem_cons.mp ((h m).mp (List.mem_cons_of_mem _ hm)) with e | h1
        · subst e
          have := p1 m hm
          omega
        · exact h1
      · intro hm
        rcases List.mem_cons.mp ((h m).mpr (List.mem_cons_of_mem _ hm)) with e | h1
        · subst e
          have := q1 m hm
          omega
        · exact h1
    rw [this]
theorem Canon.unique {l l' P} (a : Canon l P) (b : Canon l' P) : l = l' := asc_unique l l' a.asc b.asc (fun m => (a.mem m).trans (b.mem m).symm) a.sm
/-! ### how they stand in the heap -/
def tI (m : Mv) : List V := [.int (m.1 : Int), .int (m.2.1 : Int), .int (m.2.2 : Int)]
def TL (H : Hp) (ts : List Addr) (l : List Mv) : Prop := ts.length = l.length ∧ ∀ (i : Nat) (t : Addr) (m : Mv), ts[i]? = some t → l[i]? = some m → H t = some (.tup (tI m))
def TrisAt (H : Hp) (q : Addr) (l : List Mv) : Prop := ∃ ts : List Addr, H q = some (.lst (ts.map V.ref)) ∧ TL H ts l
def StateAt (K : PySem.W.Frag) (H : Hp) (a : Addr) (S : S2) : Prop := ∃ r b : Addr, SqT K H a [.ref r, .ref b] ∧ SqT K H r (nv S.1) ∧ SqT K H b (nv S.2)
section
variable {K : PySem.W.Frag} {H H' : Hp} {a g q t : Addr} {S : S2} {l : List Mv} {ts : List Addr} {m : Mv}
theorem StateAt.same (h : StateAt K H a S) (s : Same H H') : StateAt K H' a S := by
  obtain ⟨r, b, h1, h2, h3⟩ := h
  exact ⟨r, b, s.tup h1, s.tup h2, s.tup h3⟩
theorem StateAt.but {xs : List V} (h : StateAt K H a S) (hg : H g = some (.lst xs)) (s : But g H H') : StateAt K H' a S := by
  obtain ⟨r, b, h1, h2, h3⟩ := h
  exact ⟨r, b, s.tup hg h1, s.tup hg h2, s.tup hg h3⟩
theorem TL.same (h : TL H ts l) (s : Same H H') : TL H' ts l := ⟨h.1, fun i t m x y => s _ _ (h.2 i t m x y)⟩
theorem TL.but {xs : List V} (h : TL H ts l) (hg : H g = some (.lst xs)) (s : But g H H') : TL H' ts l := ⟨h.1, fun i t m x y => s _ _ (ne_lt hg (h.2 i t m x y)) (h.2 i t m x y)⟩
theorem TL.nil : TL H [] [] := ⟨rfl, fun i t m x => by simp at x⟩
theorem TL.append {ts2 : List Addr} {l2 : List Mv} (h : TL H ts l) (h2 : TL H ts2 l2) : TL H (ts ++ ts2) (l ++ l2) := by
  refine ⟨by rw [List.length_append, List.length_append, h.1, h2.1], fun i t m x y => ?_⟩
  by_cases hi : i < ts.length
  · rw [List.getElem?_append_left hi] at x
    rw [List.getElem?_append_left (by rw [← h.1]; exact hi)] at y
    exact h.2 i t m x y
  · rw [List.getElem?_append_right (by omega)] at x
    rw [List.getElem?_append_right (by rw [← h.1]; omega), ← h.1] at y
    exact h2.2 _ t m x y
theorem TL.one (h : H t = some (.tup (tI m))) : TL H [t] [m] := by
  refine ⟨rfl, fun i t' m' x y => ?_⟩
  match i with
  | 0 => cases x; cases y; exact h
  | i + 1 => simp at x
theorem TL.take (h : TL H ts l) (k : Nat) : TL H (ts.take k) (l.take k) := by
  refine ⟨by rw [List.length_take, List.length_take, h.1], fun i t m x y => ?_⟩
  rw [List.getElem?_take] at x y
  split at x
  · rename_i hi
    rw [if_pos hi] at y
    exact h.2 i t m x y
  · cases x
theorem TL.drop (h : TL H ts l) (k : Nat) : TL H (ts.drop k) (l.drop k) := by
  refine ⟨by rw [List.length_drop, List.length_drop, h.1], fun i t m x y => ?_⟩
  rw [List.getElem?_drop] at x y
  exact h.2 _ t m x y
theorem TrisAt.same (h : TrisAt H q l) (s : Same H H') : TrisAt H' q l := by
  obtain ⟨ts, h1, h2⟩ := h
  exact ⟨ts, s _ _ h1, h2.same s⟩
theorem TL.perm (h : TL H ts l) {ys : List V} (p : ys.Perm (ts.map V.ref)) : ∃ (ts' : List Addr) (l' : List Mv), ys = ts'.map V.ref ∧ l'.Perm l ∧ TL H ts' l' := by
  have e1 : ts.map V.ref = (ts.zip l).map (fun z => V.ref z.1) := by
    have e : (ts.zip l).map (fun z => V.ref z.1) = ((ts.zip l).map Prod.fst).map V.ref := by rw [List.map_map]; rfl
    rw [e, List.map_fst_zip (by rw [h.1]; omega)]
  rw [e1] at p
  obtain ⟨zs, ez, pz⟩ := perm_of_map _ _ _ p
  refine ⟨zs.map Prod.fst, zs.map Prod.snd, by rw [ez, List.map_map]; rfl, ?_, by simp, fun i t e a b => ?_⟩
  · have q := pz.map Prod.snd
    rw [List.map_snd_zip (by rw [h.1]; omega)] at q
    exact q
  · rw [List.getElem?_map] at a b
    cases hz : zs[i]? with
    | none => rw [hz] at a; cases a
    | some z =>
      rw [hz] at a b
      cases a
      cases b
      have hm := pz.mem_iff.mp (List.mem_of_getElem? hz)
      obtain ⟨j, hj⟩ := List.mem_iff_getElem?.mp hm
      rw [List.getElem?_zip_eq_some] at hj
      exact h.2 j _ _ hj.1 hj.2
/-- sorted's answer over such moves -/
theorem sorted_canon {ys : List V} {P : Mv → Prop} (h : TL H ts l) (mem : ∀ m, m ∈ l ↔ P m) (sm : ∀ m ∈ l, Sm m) (nd : l.Nodup) (pm : ys.Perm (ts.map V.ref))
    (asc : ys.Pairwise fun x y => ∀ n m, TupI K H x n → TupI K H y m → TS.code 64 n ≤ TS.code 64 m) : ∃ (ts' : List Addr) (l' : List Mv), ys = ts'.map V.ref ∧ Canon l' P ∧ TL H ts' l' := by
  obtain ⟨ts', l', rfl, pl, tl⟩ := h.perm pm
  have nd' := pl.nodup_iff.mpr nd
  refine ⟨ts', l', rfl, ⟨fun m => pl.mem_iff.trans (mem m), fun m hm => sm m (pl.mem_iff.mp hm), ?_⟩, tl⟩
  rw [List.pairwise_iff_getElem]
  intro i j hi hj hij
  have hi' : i < ts'.length := by rw [tl.1]; exact hi
  have hj' : j < ts'.length := by rw [tl.1]; exact hj
  have a1 := List.pairwise_iff_getElem.mp asc i j (by rw [List.length_map]; exact hi') (by rw [List.length_map]; exact hj') hij
  rw [List.getElem_map, List.getElem_map] at a1
  have t1 := tl.2 i ts'[i] l'[i] (List.getElem?_eq_getElem hi') (List.getElem?_eq_getElem hi)
  have t2 := tl.2 j ts'[j] l'[j] (List.getElem?_eq_getElem hj') (List.getElem?_eq_getElem hj)
  have le : mcode l'[i] ≤ mcode l'[j] := a1 _ _ ⟨_, rfl, SqT.of t1⟩ ⟨_, rfl, SqT.of t2⟩
  have ne : mcode l'[i] ≠ mcode l'[j] := by
    intro e
    have := mcode_inj (sm _ (pl.mem_iff.mp (List.getElem_mem hi))) (sm _ (pl.mem_iff.mp (List.getElem_mem hj))) e
    exact absurd this (List.pairwise_iff_getElem.mp nd' i j hi hj hij)
  omega
theorem tup_of {m : Mv} (h : H t = some (.tup (tI m))) (sm : Sm m) : ∃ ns, TupI K H (.ref t) ns ∧ ns.length = 3 ∧ TS.Bd 64 ns := by
  refine ⟨[(m.1 : Int), (m.2.1 : Int), (m.2.2 : Int)], ⟨t, rfl, SqT.of h⟩, rfl, ?_⟩
  obtain ⟨h1, h2, h3⟩ := sm
  intro x hx
  simp only [List.mem_cons, List.not_mem_nil,
        or_false] at hx
  rcases hx with rfl | rfl | rfl <;> omega
end
/-! ### as data -/
def dM (m : Mv) : PyData := .tuple [.int (m.1 : Int), .int (m.2.1 : Int), .int (m.2.2 : Int)]
def dMs (l : List Mv) : PyData := .list (l.map dM)
def dIs (l : List Nat) : List PyData := (l.map fun x : Nat => (x : Int)).map PyData.int
def dS (S : S2) : PyData := .tuple [.tuple (dIs S.1), .tuple (dIs S.2)]
def dO : (Nat × String) ⊕ S2 → PyData
  | .inl (i, w) => .list [.int (i : Int), .tuple [.str (Str.ofString w)]]
  | .inr S => dS S
theorem dIs_lay : ∀ l : List Nat, PyData.canLayAll0 (dIs l) = true
  | [] => by simp [dIs, PyData.canLayAll0]
  | x :: r => by
    have := dIs_lay r
    unfold dIs at this ⊢
    simp only [List.map_cons, PyData.canLayAll0, PyData.canLay0, this, Bool.and_true]
theorem dIs_depth : ∀ l : List Nat, PyData.depthAll (dIs l) ≤ 1
  | [] => by simp [dIs, PyData.depthAll]
  | x :: r => by
    have := dIs_depth r
    unfold dIs at this ⊢
    simp only [List.map_cons, PyData.depthAll,
          PyData.depth]
    omega
theorem dM_lay (z : Mv) : (dM z).canLay0 = true := by simp [dM, PyData.canLay0, PyData.canLayAll0]
theorem dM_depth (z : Mv) : (dM z).depth ≤ 2 := by simp [dM, PyData.depth, PyData.depthAll]
theorem dMs_lay : ∀ zs : List Mv, PyData.canLayAll0 (zs.map dM) = true
  | [] => by simp [PyData.canLayAll0]
  | z :: zs => by simp [PyData.canLayAll0, dM_lay z, dMs_lay zs]
theorem dMs_depth : ∀ zs : List Mv, PyData.depthAll (zs.map dM) ≤ 2
  | [] => by simp [PyData.depthAll]
  | z :: zs => by
    have h1 := dMs_depth zs
    have h2 := dM_depth z
    simp only [List.map_cons, PyData.depthAll]
    omega
theorem shaped_mk {d : PyData} (h1 : d.canLay0 = true) (h2 : d.depth ≤ 64) : SeqAt.shaped d = true := by
  show (d.canLay0 && decide (d.depth ≤ 64)) = true
  rw [h1, decide_eq_true h2]
  rfl
theorem dMs_shaped (l : List Mv) : SeqAt.shaped (dMs l) = true := by
  have h := dMs_depth l
  refine shaped_mk ?_ ?_
  · simp only [dMs, PyData.canLay0]
    exact dMs_lay l
  · simp only [dMs, PyData.depth]
    omega
theorem dS_shaped (S : S2) : SeqAt.shaped (dS S) = true := by
  have h1 := dIs_depth S.1
  have h2 := dIs_depth S.2
  have h3 := dIs_lay S.1
  have h4 := dIs_lay S.2
  refine shaped_mk ?_ ?_
  · simp only [dS, PyData.canLay0, PyData.canLayAll0, h3, h4, Bool.and_true]
  · simp only [dS, PyData.depth, PyData.depthAll]
    omega
theorem dO_shaped {o : (Nat × String) ⊕ S2} (h : ∀ i w, o = .inl (i, w) → w = "away" ∨ w = "barred") : SeqAt.shaped (dO o) = true := by
  match o, h with
  | .inl (i, w), h =>
    have hw : PyData.strOk (Str.ofString w) = true := by
      rcases h i w rfl with rfl | rfl
      · decide +kernel
      · decide +kernel
    refine shaped_mk ?_ ?_
    · simp only [dO, PyData.canLay0, PyData.canLayAll0, hw, Bool.and_true]
    · simp only [dO, PyData.depth, PyData.depthAll]
      omega
  | .inr S, _ => exact dS_shaped S
theorem why_word {ds S m w} (h : why ds S m = some w) : w = "away" ∨ w = "barred" := by
  unfold why at h
  split at h
  · exact .inl (Option.some.inj h).symm
  · split at h
    · exact .inr (Option.some.inj h).symm
    · cases h
theorem runs_word {ds : List (Nat × Nat)} : ∀ {ms : List Mv} {k : Nat} {S : S2} {i : Nat} {w : String}, runs ds k S ms = .inl (i, w) → w = "away" ∨ w = "barred"
  | [], k, S, i, w, h => by
    rw [runs] at h
    cases h
  | m :: r, k, S, i, w, h => by
    rw [runs] at h
    split at h
    · rename_i w' e
      cases h
      exact why_word e
    · exact runs_word h
theorem d_refl {d : PyData} (h : SeqAt.shaped d = true) : PyData.eqv d d = true := SeqAt.eqv_refl _ (SeqAt.canLay_of_shaped h)
section
variable {K : PySem.W.Frag} {H : Hp} {a q t : Addr} {S : S2} {l : List Mv} {ts : List Addr} {m : Mv}
theorem dp_is : ∀ l : List Nat, DpAll K H (nv l) (dIs l)
  | [] => .nil
  | x :: r => .cons (.int _) (dp_is r)
theorem dp_S (h : StateAt K H a S) : Dp K H (.ref a) (dS S) := by
  obtain ⟨r, b, h1, h2, h3⟩ := h
  exact .tup h1 (.cons (.tup h2 (dp_is _)) (.cons (.tup h3 (dp_is _)) .nil))
theorem dp_M (h : H t = some (.tup (tI m))) : Dp K H (.ref t) (dM m) := .tup (SqT.of h) (.cons (.int _) (.cons (.int _) (.cons (.int _) .nil)))
theorem dp_Ms : ∀ (ts : List Addr) (l : List Mv), TL H ts l → DpAll K H (ts.map V.ref) (l.map dM)
  | [], [], _ => .nil
  | [], m :: l, h => by have := h.1; simp at this
  | t :: ts, [], h => by have := h.1; simp at this
  | t :: ts, m :: l, h => .cons (dp_M (h.2 0 t m rfl rfl)) (dp_Ms ts l ⟨by have := h.1; simpa using this, fun i t' m' x y => h.2 (i + 1) t' m' x y⟩)
theorem dp_Tris (h : TrisAt H q l) : Dp K H (.ref q) (dMs l) := by
  obtain ⟨ts, h1, h2⟩ := h
  exact .lst (SqL.of h1) (dp_Ms ts l h2)
end
end K5

namespace K5
open PySem PySem.Spec PyProof.Rows L2
/-- steps (door, start, end) from a to b -/
def Trl (ds : List (Nat × Nat)) : Nat → List Mv → Nat → Prop
  | a, [], b => a = b
  | a, m :: r, b => m.2.1 = a ∧ Joins ds m.1 m.2.1 m.2.2 ∧ Trl ds m.2.2 r b
theorem Trl.snoc {ds : List (Nat × Nat)} {d y z : Nat} : ∀ {r : List Mv} {a : Nat}, Trl ds a r y → Joins ds d y z → Trl ds a (r ++ [(d, y, z)]) z
  | [], a, h, j => by
    have h : a = y := h
    subst h
    exact ⟨rfl, j, rfl⟩
  | m :: r, a, h, j => ⟨h.1, h.2.1, Trl.snoc h.2.2 j⟩
theorem Trl.walk {ds : List (Nat × Nat)} : ∀ {r : List Mv} {a b : Nat}, Trl ds a r b → Walk ds a (r.map Prod.fst) b
  | [], a, b, h => by
    have h : a = b := h
    subst h
    exact .nil _
  | m :: r, a, b, h => by
    obtain ⟨h1, h2, h3⟩ := h
    rw [h1] at h2
    exact .cons h2 (Trl.walk h3)
theorem nv_some {L : List Nat} {k : Nat} {x : V} (h : (nv L)[k]? = some x) : ∃ v, L[k]? = some v ∧ x = .int (v : Int) := by
  unfold nv at h
  rw [List.getElem?_map] at h
  cases e : L[k]? with
  | none => rw [e] at h; cases h
  | some v => rw [e] at h; exact ⟨v, rfl, (Option.some.inj h).symm⟩
/-- the doors that bar p -/
def barr (S : S2) (p : Nat) : List Nat := (List.range S.2.length).filter fun d => decide (S.2[d]? = some p)
theorem mem_barr {S : S2} {p d : Nat} : d ∈ barr S p ↔ S.2[d]? = some p := by
  unfold barr
  rw [List.mem_filter, List.mem_range]
  constructor
  · rintro ⟨_, h⟩
    exact of_decide_eq_true h
  · intro h
    exact ⟨get_lt h, decide_eq_true h⟩
theorem barr_len {S : S2} {p : Nat} : (barr S p).length ≤ S.2.length := by
  have := List.length_filter_le (fun d => decide (S.2[d]? = some p)) (List.range S.2.length)
  rw [List.length_range] at this
  exact this
/-- the rooms that a search finds; each with its way back -/
structure Reg (n : Nat) (ds : List (Nat × Nat)) (shut : List Nat) (room : Nat) (ks : List (Nat × Option (Nat × Nat))) : Prop where
  df : Dfs n ds shut (ks.map Prod.fst) []
  pt : Ptr ds shut room ks
  rm : room ∈ ks.map Prod.fst
def spStepsT (K : PySem.W.Frag) : Sp := fun vs H Q _ => ∃ (p : Addr) (a n room : Nat) (ds : List (Nat × Nat)) (shut : List Nat) (kvs : List (Key × V)) (ks : List (Nat × Option (Nat × Nat))), vs = [.ref p, .int (a : Int)] ∧ H p = some (.dK kvs) ∧ DicR (WayR H) kvs ks ∧ Ptr ds shut room ks ∧
  Tree n ds ∧ ks.length ≤ 1000 ∧ a ∈ ks.map Prod.fst ∧ ∀ (H' : Hp) (q : Addr) (tr : List Mv), Same H H' → H q = none → TrisAt H' q tr → Trl ds a tr room → (tr.map Prod.fst).Nodup → (∀ m ∈ tr, m.1 ∉ shut) → tr.length ≤ 1000 → Q (.ref q) H'
def spSt (K : PySem.W.Frag) : Sp := fun vs H Q _ => ∃ (a s : Addr) (ds : List (Nat × Nat)) (n : Nat) (S : S2), vs = [.ref a, .ref s] ∧ HouseAt K H a ds ∧ Tree n ds ∧ n ≤ 1000 ∧ StateAt K H s S ∧ StOk n ds S ∧ ∀ H', Same H H' → Q .non H'
def spShape (K : PySem.W.Frag) : Sp := fun vs H Q _ => ∃ (a s : Addr) (ds : List (Nat × Nat)) (n : Nat) (S : S2), vs = [.ref a, .ref s] ∧ HouseAt K H a ds ∧ StateAt K H s S ∧ StOk n ds S ∧ Q (.bl true) H
def spPerson (K : PySem.W.Frag) : Sp := fun vs H Q _ => ∃ (s : Addr) (p n : Nat) (ds : List (Nat × Nat)) (S : S2), vs = [.ref s, .int (p : Int)] ∧ StateAt K H s S ∧ StOk n ds S ∧ p < S.1.length ∧ Q .non H
def spBarring (K : PySem.W.Frag) : Sp := fun vs H Q _ => ∃ (s : Addr) (p n : Nat) (ds : List (Nat × Nat)) (S : S2), vs = [.ref s, .int (p : Int)] ∧ StateAt K H s S ∧ StOk n ds S ∧ n ≤ 1000 ∧ ds.length < n ∧ ∀ (H' : Hp) (q : Addr), Same H H' → H q = none → H' q = some (.lst (nv (barr S p))) → Q (.ref q) H'
def spRegWays (K : PySem.W.Frag) : Sp := fun vs H Q _ => ∃ (a s : Addr) (p n : Nat) (ds : List (Nat × Nat)) (S : S2), vs = [.ref a, .ref s, .int (p : Int)] ∧ HouseAt K H a ds ∧ Tree n ds ∧ n ≤ 1000 ∧ StateAt K H s S ∧ StOk n ds S ∧ p < S.1.length ∧
  ∀ (H' : Hp) (q : Addr) (kvs : List (Key × V)) (ks : List (Nat × Option (Nat × Nat))), Same H H' → H q = none → H' q = some (.dK kvs) → DicR (WayR H') kvs ks → Reg n ds (barr S p) (S.1.getD p 0) ks → Q (.ref q) H'
def spRegion (K : PySem.W.Frag) : Sp := fun vs H Q _ => ∃ (a s : Addr) (p n : Nat) (ds : List (Nat × Nat)) (S : S2), vs = [.ref a, .ref s, .int (p : Int)] ∧ HouseAt K H a ds ∧ Tree n ds ∧ n ≤ 60 ∧ StateAt K H s S ∧ StOk n ds S ∧ p < S.1.length ∧
  ∀ (H' : Hp) (q : Addr) (L : List Nat) (ks : List (Nat × Option (Nat × Nat))), Same H H' → H q = none → H' q = some (.lst (nv L)) → Reg n ds (barr S p) (S.1.getD p 0) ks → L.Perm (ks.map Prod.fst) → L.Pairwise (· ≤ ·) → Q (.ref q) H'
/-- walk_to: None where the room lies outside, else the steps of the way there -/
def spWalkTo (K : PySem.W.Frag) : Sp := fun vs H Q _ => ∃ (a s : Addr) (p x n : Nat) (ds : List (Nat × Nat)) (S : S2), vs = [.ref a, .ref s, .int (p : Int), .int (x : Int)] ∧ HouseAt K H a ds ∧ Tree n ds ∧ n ≤ 1000 ∧ StateAt K H s S ∧ StOk n ds S ∧ p < S.1.length ∧ x < n ∧
  (∀ (H' : Hp) (ks : List (Nat × Option (Nat × Nat))), Same H H' → Reg n ds (barr S p) x ks → S.1.getD p 0 ∉ ks.map Prod.fst → Q .non H') ∧
  (∀ (H' : Hp) (q : Addr) (tr : List Mv), Same H H' → H q = none → TrisAt H' q (tr.map fun m => (p, m.2.1, m.2.2)) → Trl ds (S.1.getD p 0) tr x → (tr.map Prod.fst).Nodup → (∀ m ∈ tr, m.1 ∉ barr S p) → tr.length ≤ 1000 → Q (.ref q) H')
section
variable {P : Program} {w : World} {K : PySem.W.Frag}
      {mg : Str → Option Value} {base : Heap}
theorem ok_steps_along (T : Bl mg) (D : Def K mg "steps_along" s_steps_along) : Cal P w K mg base "steps_along" ["ways", "room"] 1 (spStepsT K) := by
  refine D.ok sc_steps_along (fun _ _ _ _ _ _ us hl => match us, hl with | [_, _], _ => rfl) (fun vs H Q E h => ?_) (fun f cdv A outer s H vs Q E hr h => ?_)
  · obtain ⟨p, a, n, room, ds, shut, kvs, ks, rfl, _⟩ := h
    rfl
  obtain ⟨p, a, n, room, ds, shut, kvs, ks, rfl, hp, r, pt, tree, hks, ha, q⟩ := h
  refine ⟨_, (pss_cons (ps_set (i := 2) sc_steps_along.nd rfl (.inl rfl) (pe_lst pa_nil))
    (pss_cons (ps_set (i := 3) sc_steps_along.nd rfl (.inl rfl) (pv 1))
    (pss_cons (ps_while PassesOwn.never (pt_cmpR op_notN (pe_dget (hu_of hr) (pv 0) (pv 3) (fun _ _ => rfl)) pe_non (nomark _)) (pss_cons (ps_asg (pe_dget (hu_of hr) (pv 0) (pv 3) (fun _ _ => rfl)) (pg_tup (n := 2) rfl (pgs_cons (pg_name (i := 4) sc_steps_along.nd rfl (.inl rfl)) (pgs_cons (pg_name (i := 5) sc_steps_along.nd rfl (.inl rfl)) pgs_nil))))
    (pss_cons (ps_expr (pe_bm PySem.F.plainAttrs_list PySem.F.slot_list_append PySem.F.type_list_append mt_append (pv 2) (pa_cons (pe_tup (pa_cons (pv 4) (pa_cons (pv 3) (pa_cons (pv 5) pa_nil)))) pa_nil)))
    (pss_one (ps_set (i := 3) sc_steps_along.nd rfl (.inl rfl) (pv 5))))))
    (pss_one (ps_ret (pv 2)))))), ?_⟩
  refine ⟨Nat.zero_le _, fun q0 nq => ?_⟩
  refine ⟨_, rfl, ?_⟩
  refine ⟨fun m σ H1 => ∃ here tr y4 y5, m = (ks.map Prod.fst).idxOf here ∧ σ = [some (.ref p), some (.int (a : Int)), some (.ref q0), some (.int (here : Nat)), y4, y5] ∧ Same H H1 ∧ TrisAt H1 q0 tr ∧ Trl ds a tr here ∧ (∀ m ∈ tr, m.1 ∉ shut) ∧
      Made ds (ks.map Prod.fst) a (tr.map Prod.fst) here ∧ here ∈ ks.map Prod.fst ∧ tr.length + (ks.map Prod.fst).idxOf here ≤ ks.length,
    ⟨_, a, [], _, _, rfl, rfl, Same.upd nq, ⟨[], upd_same, TL.nil⟩, rfl, fun m hm => (List.not_mem_nil hm).elim, Made.start, ha, ?_⟩, fun m σ H1 hW => ?_⟩
  · have := List.idxOf_lt_length_iff.mpr ha
    rw [List.length_map] at this
    simp
    omega
  obtain ⟨here, tr, y4, y5, rfl, rfl, sm, ⟨ts, hq, tl⟩, trl, nsh, md, hh, hle⟩ := hW
  obtain ⟨v, o, hv, hko, hw⟩ := r.val hh
  have hk1 := sm _ _ hp
  have hg : DGet H1 p (.int (here : Int)) (some v) := by
    rw [← hv]
    exact DGet.k (k := Sum.inl (here : Int)) hk1
  refine ⟨_, rfl, _, rfl, p, v, rfl, hg, rfl, _, rfl, ?_⟩
  cases o with
  | none =>
    have hw : v = .non := hw
    subst hw
    refine iteF ⟨_, rfl, q H1 q0 tr sm nq ⟨ts, hq, tl⟩ ?_ md.nd nsh (by omega)⟩
    rw [← pt.fin _ hko]
    exact trl
  | some e =>
    obtain ⟨t, rfl, ht⟩ := hw
    obtain ⟨j, ns, hy, lt⟩ := pt.st here e.1 e.2 hko
    have ht1 := sm _ _ ht
    refine iteT ⟨fun σ' H' => ∃ here' tr y4 y5, (ks.map Prod.fst).idxOf here' < (ks.map Prod.fst).idxOf here ∧ σ' = [some (.ref p), some (.int (a : Int)), some (.ref q0), some (.int (here' : Nat)), y4, y5] ∧ Same H H' ∧ TrisAt H' q0 tr ∧ Trl ds a tr here' ∧ (∀ m ∈ tr, m.1 ∉ shut) ∧
      Made ds (ks.map Prod.fst) a (tr.map Prod.fst) here' ∧ here' ∈ ks.map Prod.fst ∧ tr.length + (ks.map Prod.fst).idxOf here' ≤ ks.length, fun σ' H' ⟨h', p', z4, z5, g1, g2⟩ => ⟨_, g1, h', p', z4, z5, rfl, g2⟩, ?_⟩
    refine ⟨_, rfl, _, rfl, p, V.ref t, rfl, hg, t, _, rfl, SqT.of ht1, rfl, _, _, rfl, _, _, rfl, rfl, ?_⟩
    refine ⟨_, rfl, .inl ⟨rfl, _, SqL.of hq⟩, _, rfl, _, rfl, _, rfl, by show 3 ≤ sizeLine; decide, fun t2 nt2 => ⟨q0, _, _, rfl, rfl, by rw [upd_ne (ne_of_none hq nt2)]; exact hq, by rw [List.length_map, tl.1]; exact small1000 (by omega), ?_⟩⟩
    refine ⟨_, rfl, ?_⟩
    have n2q : t2 ≠ q0 := (ne_of_none hq nt2).symm
    refine ⟨e.2, tr ++ [(e.1, here, e.2)], _, _, lt, rfl, (sm.trans (Same.upd nt2)).at nq, ⟨ts ++ [t2], by rw [upd_same, List.map_append]; rfl, TL.append ⟨tl.1, fun i t' m' g1 g2 => ?_⟩ (TL.one (by rw [upd_ne n2q, upd_same]; rfl))⟩, trl.snoc j, fun m hm => ?_, by rw [List.map_append]; exact md.step ⟨n, tree⟩ pt hko, hy, ?_⟩
    · have z := tl.2 i t' m' g1 g2
      rw [upd_ne (ne_lt hq z), upd_ne (ne_of_none z nt2)]
      exact z
    · rcases List.mem_append.mp hm with hm | hm
      · exact nsh m hm
      · rw [List.mem_singleton] at hm
        rw [hm]
        exact ns
    · rw [List.length_append, List.length_singleton]
      omega
theorem ok_has_state_shape (T : Bl mg) (D : Def K mg "has_state_shape" s_has_state_shape) : Cal P w K mg base "has_state_shape" ["house", "value"] 1 (spShape K) := by
  refine D.ok sc_has_state_shape (fun _ _ _ _ _ _ us hl => match us, hl with | [_, _], _ => rfl) (fun vs H Q E h => ?_) (fun f cdv A outer s H vs Q E hr h => ?_)
  · obtain ⟨a, s, ds, n, S, rfl, _⟩ := h
    rfl
  obtain ⟨a, s, ds, n, S, rfl, ⟨rs, hrs, hlen, hds⟩, ⟨r, b, h1, h2, h3⟩, ok, q⟩ := h
  refine ⟨_, (pss_cons (ps_if (PW.pt (pw_or (pt_not (pt_val (pe_callB call_isi (by rfl) T.isinstance (by decide +kernel) (pa_cons (pv 1) (pa_cons (pe_bltn (v := .ty "tuple") (u := .type "tuple") (by rfl) T.tuple (by decide +kernel) rfl) pa_nil))))) (pw_or1 (pt_cmpR op_ne (pe_callB call_len_seq (by rfl) T.len PySem.boot_len (pa_cons (pv 1) pa_nil)) pe_int (nomark _))))) (pss_one (ps_ret pe_bl)) pss_nil)
    (pss_cons (ps_asg (pv 1) (pg_tup (n := 2) rfl (pgs_cons (pg_name (i := 2) sc_has_state_shape.nd rfl (.inl rfl)) (pgs_cons (pg_name (i := 3) sc_has_state_shape.nd rfl (.inl rfl)) pgs_nil))))
    (pss_cons (ps_if (PW.pt (pw_or (pt_not (pt_val (pe_callB call_isi (by rfl) T.isinstance (by decide +kernel) (pa_cons (pv 2) (pa_cons (pe_bltn (v := .ty "tuple") (u := .type "tuple") (by rfl) T.tuple (by decide +kernel) rfl) pa_nil))))) (pw_or1 (pt_not (pt_val (pe_callB call_isi (by rfl) T.isinstance (by decide +kernel) (pa_cons (pv 3) (pa_cons (pe_bltn (v := .ty "tuple") (u := .type "tuple") (by rfl) T.tuple (by decide +kernel) rfl) pa_nil)))))))) (pss_one (ps_ret pe_bl)) pss_nil)
    (pss_one (ps_ret (pe_and (pe_cmpR op_ge (pe_callB call_len_seq (by rfl) T.len PySem.boot_len (pa_cons (pv 2) pa_nil)) pe_int (nomark _)) (pe_one (pe_cmpR op_eq (pe_callB call_len_seq (by rfl) T.len PySem.boot_len (pa_cons (pv 3) pa_nil)) (pe_callB call_len_seq (by rfl) T.len PySem.boot_len (pa_cons (pv 0) pa_nil)) (nomark _))))))))), ?_⟩
  refine ⟨_, rfl, _, _, _, _, _, rfl, .ty _, ty_tup h1, kit_ty (r := true) (by decide +kernel), _, rfl, iteF ?_⟩
  refine ⟨_, rfl, _, _, rfl, .inr h1, rfl, _, rfl, iteF ?_⟩
  refine ⟨_, rfl, _, _, rfl, h1, rfl, _, _, rfl, _, _, rfl, rfl, ?_⟩
  refine ⟨_, rfl, _, _, _, _, _, rfl, .ty _, ty_tup h2, kit_ty (r := true) (by decide +kernel), _, rfl, iteF ?_⟩
  refine ⟨_, rfl, _, _, _, _, _, rfl, .ty _, ty_tup h3, kit_ty (r := true) (by decide +kernel), _, rfl, iteF ?_⟩
  have o1 := ok.one
  refine ⟨_, rfl, _, _, rfl, .inr h2, _, _, rfl, rfl, _, rfl, ?_⟩
  rw [decide_eq_true (show (1 : Int) ≤ ((nv S.1).length : Nat) by rw [nv_len]; omega)]
  refine iteT ⟨_, rfl, _, _, rfl, .inr h3, _, rfl, _, _, rfl, .inr hrs, rfl, ?_⟩
  rw [decide_eq_true (show V.int ((nv S.2).length : Nat) = V.int ((rs.map V.ref).length : Nat) by rw [nv_len, List.length_map, hlen, ok.doors])]
  exact q
theorem ok_check_state (T : Bl mg) (D : Def K mg "check_state" s_check_state) (C_need_house : Cal P w K mg base "need_house" ["house"] 5 (spRing K)) (C_has_state_shape : Cal P w K mg base "has_state_shape" ["house", "value"] 1 (spShape K))
    (C_is_index : Cal P w K mg base "is_index" ["value", "count"] 2 spIndex) : Cal P w K mg base "check_state" ["house", "value"] 6 (spSt K) := by
  refine D.ok sc_check_state (fun _ _ _ _ _ _ us hl => match us, hl with | [_, _], _ => rfl) (fun vs H Q E h => ?_) (fun f cdv A outer s H vs Q E hr h => ?_)
  · obtain ⟨a, s, ds, n, S, rfl, _⟩ := h
    rfl
  obtain ⟨a, s, ds, n, S, rfl, hH, tree, hn, st, ok, q⟩ := h
  obtain ⟨rs, hrs, hlen, hds⟩ := id hH
  obtain ⟨r, b, h1, h2, h3⟩ := id st
  have hdn := tree.len
  obtain ⟨f_need_house, fd_need_house, g_need_house, k_need_house, b_need_house, G_need_house⟩ := C_need_house
  obtain ⟨f_has_state_shape, fd_has_state_shape, g_has_state_shape, k_has_state_shape, b_has_state_shape, G_has_state_shape⟩ := C_has_state_shape
  obtain ⟨f_is_index, fd_is_index, g_is_index, k_is_index, b_is_index, G_is_index⟩ := C_is_index
  refine ⟨_, (pss_cons (ps_expr (pe_call G_need_house (hr.mono (by decide)) (by rfl) g_need_house k_need_house b_need_house .nil pass0 (pa_cons (pv 0) pa_nil)))
    (pss_cons (ps_if (pt_not (pt_val (pe_call G_has_state_shape (hr.mono (by decide)) (by rfl) g_has_state_shape k_has_state_shape b_has_state_shape .nil pass0 (pa_cons (pv 0) (pa_cons (pv 1) pa_nil))))) (pss_one (ps_ret (pe_tup (pa_cons pe_str pa_nil)))) pss_nil)
    (pss_cons (ps_asg (pv 1) (pg_tup (n := 2) rfl (pgs_cons (pg_name (i := 2) sc_check_state.nd rfl (.inl rfl)) (pgs_cons (pg_name (i := 3) sc_check_state.nd rfl (.inl rfl)) pgs_nil))))
    (pss_cons (ps_for PassesOwn.never rfl (pi_enumT (by rfl) T.enumerate (pa_cons (pv 2) pa_nil)) (pg_tup (n := 2) rfl (pgs_cons (pg_name (i := 4) sc_check_state.nd rfl (.inl rfl)) (pgs_cons (pg_name (i := 5) sc_check_state.nd rfl (.inl rfl)) pgs_nil)))
    (pss_one (ps_if (pt_not (pt_val (pe_call G_is_index (hr.mono (by decide)) (by rfl) g_is_index k_is_index b_is_index .nil pass0 (pa_cons (pv 5) (pa_cons (pe_op op_add (pe_callB call_len_seq (by rfl) T.len PySem.boot_len (pa_cons (pv 0) pa_nil)) pe_int) pa_nil))))) (pss_one (ps_ret (pe_tup (pa_cons pe_str (pa_cons (pv 4) pa_nil))))) pss_nil)))
    (pss_cons (ps_for PassesOwn.never rfl (pi_enumT (by rfl) T.enumerate (pa_cons (pv 3) pa_nil)) (pg_tup (n := 2) rfl (pgs_cons (pg_name (i := 6) sc_check_state.nd rfl (.inl rfl)) (pgs_cons (pg_name (i := 4) sc_check_state.nd rfl (.inl rfl)) pgs_nil)))
    (pss_one (ps_if (pt_not (pt_val (pe_call G_is_index (hr.mono (by decide)) (by rfl) g_is_index k_is_index b_is_index .nil pass0 (pa_cons (pv 4) (pa_cons (pe_callB call_len_seq (by rfl) T.len PySem.boot_len (pa_cons (pv 2) pa_nil)) pa_nil))))) (pss_one (ps_ret (pe_tup (pa_cons pe_str (pa_cons (pv 6) pa_nil))))) pss_nil)))
    (pss_one (ps_ret pe_non))))))), ?_⟩
  refine ⟨_, rfl, a, ds, n, rfl, hH, tree, hn, fun H1 s1 => ?_⟩
  refine ⟨_, rfl, _, rfl, a, s, ds, n, S, rfl, hH.same s1, st.same s1, ok, _, rfl, iteF ?_⟩
  refine ⟨_, rfl, _, _, rfl, s1.tup h1, rfl, _, _, rfl, _, _, rfl, rfl, ?_⟩
  refine ⟨_, rfl, r, _, rfl, s1.tup h2, ?_⟩
  refine for_it (walk_enumT (K := K) (a := r) (xs := nv S.1)) (fun k σ H2 => ∃ y4 y5 y6, σ = [some (.ref a), some (.ref s), some (.ref r), some (.ref b), y4, y5, y6] ∧ Same H H2)
    ⟨_, _, _, rfl, s1⟩ (fun i σ H2 _ ⟨_, _, _, _, sm⟩ => sm.tup h2) ?_ ?_
  · rintro k x σ H2 H3 hk ⟨y4, y5, y6, rfl, sm⟩ ⟨t, x1, x2, rfl, nt, rfl, ex1, ex2⟩
    cases ex1
    obtain ⟨v, hv, rfl⟩ := nv_some ex2
    have sm3 := sm.trans (Same.upd (o := .tup [.int (k : Nat), .int (v : Int)]) nt)
    have lv := ok.rooms v (List.mem_of_getElem? hv)
    refine ⟨t, _, rfl, SqT.of upd_same, rfl, _, _, rfl, _, _, rfl, rfl, ?_⟩
    refine ⟨_, rfl, _, rfl, _, _, rfl, .inr (sm3.tup hrs), _, _, rfl, rfl, _, _, rfl, _, rfl, ?_⟩
    rw [decide_eq_true (by rw [List.length_map, hlen]; omega)]
    exact iteF ⟨_, _, _, rfl, sm3⟩
  · rintro σ H2 ⟨y4, y5, y6, rfl, sm⟩
    refine ⟨_, rfl, b, _, rfl, sm.tup h3, ?_⟩
    refine for_it (walk_enumT (K := K) (a := b) (xs := nv S.2)) (fun k σ H2 => ∃ y4 y5 y6, σ = [some (.ref a), some (.ref s), some (.ref r), some (.ref b), y4, y5, y6] ∧ Same H H2)
      ⟨_, _, _, rfl, sm⟩ (fun i σ H2 _ ⟨_, _, _, _, sm⟩ => sm.tup h3) ?_ ?_
    · rintro k x σ H2 H3 hk ⟨y4, y5, y6, rfl, sm⟩ ⟨t, x1, x2, rfl, nt, rfl, ex1, ex2⟩
      cases ex1
      obtain ⟨v, hv, rfl⟩ := nv_some ex2
      have sm3 := sm.trans (Same.upd (o := .tup [.int (k : Nat), .int (v : Int)]) nt)
      have lv := ok.bars v (List.mem_of_getElem? hv)
      refine ⟨t, _, rfl, SqT.of upd_same, rfl, _, _, rfl, _, _, rfl, rfl, ?_⟩
      refine ⟨_, rfl, _, rfl, _, _, rfl, .inr (sm3.tup h2), _, _, rfl, _, rfl, ?_⟩
      rw [decide_eq_true (by rw [nv_len]; omega)]
      exact iteF ⟨_, _, _, rfl, sm3⟩
    · rintro σ H2 ⟨y4, y5, y6, rfl, sm⟩
      exact q H2 sm
theorem ok_need_state (T : Bl mg) (D : Def K mg "need_state" s_need_state) (C_check_state : Cal P w K mg base "check_state" ["house", "value"] 6 (spSt K)) : Cal P w K mg base "need_state" ["house", "state"] 7 (spSt K) := by
  refine D.ok sc_need_state (fun _ _ _ _ _ _ us hl => match us, hl with | [_, _], _ => rfl) (fun vs H Q E h => ?_) (fun f cdv A outer s H vs Q E hr h => ?_)
  · obtain ⟨a, s, ds, n, S, rfl, _⟩ := h
    rfl
  obtain ⟨a, s, ds, n, S, rfl, hH, tree, hn, st, ok, q⟩ := h
  obtain ⟨f_check_state, fd_check_state, g_check_state, k_check_state, b_check_state, G_check_state⟩ := C_check_state
  refine ⟨_, (pss_cons (ps_set (i := 2) sc_need_state.nd rfl (.inl rfl) (pe_call G_check_state (hr.mono (by decide)) (by rfl) g_check_state k_check_state b_check_state .nil pass0 (pa_cons (pv 0) (pa_cons (pv 1) pa_nil))))
    (pss_one (ps_if (pt_cmpR op_notN (pv 2) pe_non (nomark _)) pss_never pss_nil))), ?_⟩
  refine ⟨_, rfl, _, rfl, a, s, ds, n, S, rfl, hH, tree, hn, st, ok, fun H2 sm2 => ⟨_, rfl, rfl, _, rfl, iteF ?_⟩⟩
  exact q H2 sm2
theorem ok_need_person (T : Bl mg) (D : Def K mg "need_person" s_need_person) (C_is_index : Cal P w K mg base "is_index" ["value", "count"] 2 spIndex) : Cal P w K mg base "need_person" ["state", "person"] 3 (spPerson K) := by
  refine D.ok sc_need_person (fun _ _ _ _ _ _ us hl => match us, hl with | [_, _], _ => rfl) (fun vs H Q E h => ?_) (fun f cdv A outer s H vs Q E hr h => ?_)
  · obtain ⟨s, p, n, ds, S, rfl, _⟩ := h
    rfl
  obtain ⟨s, p, n, ds, S, rfl, ⟨r, b, h1, h2, h3⟩, ok, hp, q⟩ := h
  obtain ⟨f_is_index, fd_is_index, g_is_index, k_is_index, b_is_index, G_is_index⟩ := C_is_index
  refine ⟨_, (pss_one (ps_if (pt_not (pt_val (pe_call G_is_index (hr.mono (by decide)) (by rfl) g_is_index k_is_index b_is_index .nil pass0 (pa_cons (pv 1) (pa_cons (pe_callB call_len_seq (by rfl) T.len PySem.boot_len (pa_cons (pe_ix ix_tup (pv 0) pe_int (fun _ _ => rfl)) pa_nil)) pa_nil))))) pss_never pss_nil)), ?_⟩
  refine ⟨_, rfl, _, rfl, s, _, _, _, rfl, rfl, h1, atI_nat (j := 0) rfl, _, _, rfl, .inr h2, _, _, rfl, _, rfl, ?_⟩
  rw [decide_eq_true (by rw [nv_len]; omega)]
  exact iteF q
theorem ok_doors_barring (T : Bl mg) (D : Def K mg "doors_barring" s_doors_barring) : Cal P w K mg base "doors_barring" ["state", "person"] 1 (spBarring K) := by
  refine D.ok sc_doors_barring (fun _ _ _ _ _ _ us hl => match us, hl with | [_, _], _ => rfl) (fun vs H Q E h => ?_) (fun f cdv A outer s H vs Q E hr h => ?_)
  · obtain ⟨s, p, n, ds, S, rfl, _⟩ := h
    rfl
  obtain ⟨s, p, n, ds, S, rfl, ⟨r, b, h1, h2, h3⟩, ok, hn, hdn, q⟩ := h
  refine ⟨_, (pss_one (ps_ret (pe_lc (own := [("door", 2), ("who", 3)]) (g := gTup K 2 (gCons (gName 2) (gCons (gName 3) gNil)))  rfl sc_doors_barring.nd (pi_enumT (by rfl) T.enumerate (pa_cons (pe_ix ix_tup (pv 0) pe_int (fun _ _ => rfl)) pa_nil)) (blkOk_by (N := N_doors_barring) (sc := defScope s_doors_barring) (own := [("door", 2), ("who", 3)]) (by decide +kernel)) (fun _ _ _ _ _ => (pg_tup (n := 2) rfl (pgs_cons (pg_name (i := 2) sc_doors_barring.nd rfl (.inl rfl) (.inr rfl)) (pgs_cons (pg_name (i := 3) sc_doors_barring.nd rfl (.inl rfl) (.inr rfl)) pgs_nil)))) (fun _ _ _ _ _ => (pts_one (pt_cmpR op_eq (pv 3) (pv 1) (nomark _)))) (fun _ _ _ _ _ => (pv 2))))), ?_⟩
  refine ⟨_, rfl, s, _, _, _, rfl, rfl, h1, atI_nat (j := 1) rfl, b, _, rfl, h3, fun pd npd => ?_⟩
  have hdl := ok.doors
  refine lc_it (walk_enumT (K := K) (a := b) (xs := nv S.2)) (fun i H2 => Same H H2 ∧ H2 pd = some (.lst (nv ((List.range i).filter fun d => decide (S.2[d]? = some p))))) ⟨Same.upd npd, upd_same⟩ (fun i H2 _ h => h.1.tup h3) ?_ ?_
  · rintro i x H2 H3 hi ⟨sm, hp⟩ ⟨t, x1, x2, rfl, nt, rfl, ex1, ex2⟩
    cases ex1
    obtain ⟨v, hv, rfl⟩ := nv_some ex2
    have st : Same H2 (upd H2 t (.tup [.int (i : Nat), .int (v : Int)])) := Same.upd nt
    have hp4 := st _ _ hp
    have il := get_lt hv
    refine ⟨t, _, rfl, SqT.of upd_same, rfl, _, _, rfl, _, _, rfl, rfl, rfl, ?_⟩
    refine ⟨_, rfl, _, rfl, rfl, _, rfl, ?_⟩
    by_cases c : v = p
    · rw [decide_eq_true (show V.int (v : Int) = V.int (p : Int) by rw [c])]
      refine iteT ⟨_, rfl, _, hp4, ?_, (sm.trans st).at npd, ?_⟩
      · rw [nv_len]
        have h1 := List.length_filter_le (fun d => decide (S.2[d]? = some p)) (List.range i)
        rw [List.length_range] at h1
        exact small1000 (by omega)
      · have e1 : [i].filter (fun d => decide (S.2[d]? = some p)) = [i] := by simp [hv, c]
        rw [upd_same, List.range_succ, List.filter_append, e1, nv_snoc]
    · rw [decide_eq_false (show ¬ V.int (v : Int) = V.int (p : Int) from fun z => c (by have := V.int.inj z; omega))]
      refine iteF ⟨sm.trans st, ?_⟩
      have e1 : [i].filter (fun d => decide (S.2[d]? = some p)) = [] := by simp [hv, c]
      rw [hp4, List.range_succ, List.filter_append, e1, List.append_nil]
  · rintro H2 ⟨sm, hp⟩
    rw [nv_len] at hp
    exact q H2 pd sm npd hp
theorem ok_region_ways (T : Bl mg) (D : Def K mg "region_ways" s_region_ways) (C_ways_from : Cal P w K mg base "ways_from" ["house", "room", "shut"] 2 (spWays K)) (C_doors_barring : Cal P w K mg base "doors_barring" ["state", "person"] 1 (spBarring K)) : Cal P w K mg base "region_ways" ["house", "state", "person"] 3 (spRegWays K) := by
  refine D.ok sc_region_ways (fun _ _ _ _ _ _ us hl => match us, hl with | [_, _, _], _ => rfl) (fun vs H Q E h => ?_) (fun f cdv A outer s H vs Q E hr h => ?_)
  · obtain ⟨a, s, p, n, ds, S, rfl, _⟩ := h
    rfl
  obtain ⟨a, s, p, n, ds, S, rfl, hH, tree, hn, st, ok, hp, q⟩ := h
  obtain ⟨r, b, h1, h2, h3⟩ := id st
  have hdn := tree.len
  obtain ⟨f_ways_from, fd_ways_from, g_ways_from, k_ways_from, b_ways_from, G_ways_from⟩ := C_ways_from
  obtain ⟨f_doors_barring, fd_doors_barring, g_doors_barring, k_doors_barring, b_doors_barring, G_doors_barring⟩ := C_doors_barring
  refine ⟨_, (pss_one (ps_ret (pe_call G_ways_from (hr.mono (by decide)) (by rfl) g_ways_from k_ways_from b_ways_from .nil pass0 (pa_cons (pv 0) (pa_cons (pe_ix ix_tup (pe_ix ix_tup (pv 1) pe_int (fun _ _ => rfl)) (pv 2) (fun _ _ => rfl)) (pa_cons (pe_call G_doors_barring (hr.mono (by decide)) (by rfl) g_doors_barring k_doors_barring b_doors_barring .nil pass0 (pa_cons (pv 1) (pa_cons (pv 2) pa_nil))) pa_nil)))))), ?_⟩
  obtain ⟨v, hv⟩ : ∃ v, S.1[p]? = some v := get_of rfl hp
  have lv := ok.rooms v (List.mem_of_getElem? hv)
  refine ⟨_, rfl, _, rfl, s, _, _, _, rfl, rfl, h1, atI_nat (j := 0) rfl, _, rfl, r, _, _, _, rfl, rfl, h2, nv_at hv, ?_⟩
  refine ⟨_, rfl, _, rfl, s, p, n, ds, S, rfl, st, ok, hn, by omega, fun H1 sh s1 nsh hsh => ?_⟩
  have bl := barr_len (S := S) (p := p)
  rw [ok.doors] at bl
  refine ⟨a, sh, ds, n, v, barr S p, rfl, hH.same s1, tree, hn, lv, SqL.of hsh, by omega, fun H2 q2 kvs ks s2 nq2 hq2 r2 df pt hrm => ?_⟩
  refine q H2 q2 kvs ks (s1.trans s2) (s1.free nq2) hq2 r2 ?_
  rw [getD_of hv]
  exact ⟨df, pt, hrm⟩
end
end K5

namespace K5
open PySem PySem.Spec PyProof.Rows L2
theorem DicR.keys {β : Type} {VR : V → β → Prop} : ∀ {kvs : List (Key × V)} {ks : List (Nat × β)}, DicR VR kvs ks → kvs.map (·.1) = ((ks.map Prod.fst).map fun x : Nat => (x : Int)).map Sum.inl
  | _, _, .nil => rfl
  | _, _, .cons h r => by
    have e := DicR.keys r
    simp only [List.map_cons] at e ⊢
    rw [h.1, e]
theorem Reg.le {n ds shut room ks} (h : Reg n ds shut room ks) : ks.length ≤ n := by
  have := h.df.le
  rw [List.length_map] at this
  exact this
section
variable {P : Program} {w : World} {K : PySem.W.Frag}
      {mg : Str → Option Value} {base : Heap}
theorem ok_region (T : Bl mg) (D : Def K mg "region" s_region) (C_need_state : Cal P w K mg base "need_state" ["house", "state"] 7 (spSt K)) (C_need_person : Cal P w K mg base "need_person" ["state", "person"] 3 (spPerson K)) (C_region_ways : Cal P w K mg base "region_ways" ["house", "state", "person"] 3 (spRegWays K)) :
    CalK P w K mg base "region" ["house", "state", "person"] 8 (spRegion K) ["person", "state", "house"] rev3 rev3 := by
  refine D.okK sc_region (fun _ _ _ _ _ _ us ws hl => match us, ws, hl with | [], [_, _, _], _ => rfl) rev3_vals (fun _ _ _ _ _ _ us hl => match us, hl with | [_, _, _], _ => rfl) (fun vs H Q E h => ?_) (fun f cdv A outer s H vs Q E hr h => ?_)
  · obtain ⟨a, s, p, n, ds, S, rfl, _⟩ := h
    rfl
  obtain ⟨a, s, p, n, ds, S, rfl, hH, tree, hn, st, ok, hp, q⟩ := h
  obtain ⟨f_need_state, fd_need_state, g_need_state, k_need_state, b_need_state, G_need_state⟩ := C_need_state
  obtain ⟨f_need_person, fd_need_person, g_need_person, k_need_person, b_need_person, G_need_person⟩ := C_need_person
  obtain ⟨f_region_ways, fd_region_ways, g_region_ways, k_region_ways, b_region_ways, G_region_ways⟩ := C_region_ways
  refine ⟨_, (pss_cons (ps_expr (pe_call G_need_state (hr.mono (by decide)) (by rfl) g_need_state k_need_state b_need_state .nil pass0 (pa_cons (pv 0) (pa_cons (pv 1) pa_nil))))
    (pss_cons (ps_expr (pe_call G_need_person (hr.mono (by decide)) (by rfl) g_need_person k_need_person b_need_person .nil pass0 (pa_cons (pv 1) (pa_cons (pv 2) pa_nil))))
    (pss_one (ps_ret (pe_callB (call_sortedDI rfl) (by rfl) T.sorted (by decide +kernel) (pa_cons (pe_call G_region_ways (hr.mono (by decide)) (by rfl) g_region_ways k_region_ways b_region_ways .nil pass0 (pa_cons (pv 0) (pa_cons (pv 1) (pa_cons (pv 2) pa_nil)))) pa_nil)))))), ?_⟩
  refine ⟨_, rfl, _, rfl, a, s, ds, n, S, rfl, hH, tree, by omega, st, ok, fun H1 s1 => ?_⟩
  refine ⟨_, rfl, _, rfl, s, p, n, ds, S, rfl, st.same s1, ok, hp, ?_⟩
  refine ⟨_, rfl, _, rfl, _, rfl, a, s, p, n, ds, S, rfl, hH.same s1, tree, by omega, st.same s1, ok, hp, fun H2 q2 kvs ks s2 nq2 hq2 r2 rg => ?_⟩
  have le := rg.le
  refine ⟨q2, kvs, (ks.map Prod.fst).map fun x : Nat => (x : Int), rfl, .inl hq2, r2.keys, by rw [List.length_map, List.length_map]; omega, fun ys p0 pm asc np0 => ?_⟩
  obtain ⟨L, rfl, pl⟩ := perm_of_map _ _ _ pm
  rw [← nv_int]
  have s12 := s1.trans s2
  refine q _ p0 L ks (s12.trans (Same.upd np0)) (s12.free np0) upd_same rg pl ?_
  rw [List.pairwise_map] at asc
  exact asc.imp fun h => by omega
theorem ok_walk_to (T : Bl mg) (D : Def K mg "walk_to" s_walk_to) (C_need_state : Cal P w K mg base "need_state" ["house", "state"] 7 (spSt K)) (C_need_person : Cal P w K mg base "need_person" ["state", "person"] 3 (spPerson K)) (C_need_room : Cal P w K mg base "need_room" ["house", "room"] 3 (spNeedRoom K))
    (C_ways_from : Cal P w K mg base "ways_from" ["house", "room", "shut"] 2 (spWays K)) (C_doors_barring : Cal P w K mg base "doors_barring" ["state", "person"] 1 (spBarring K)) (C_steps_along : Cal P w K mg base "steps_along" ["ways", "room"] 1 (spStepsT K)) :
    CalK P w K mg base "walk_to" ["house", "state", "person", "room"] 8 (spWalkTo K) ["room", "person", "state", "house"] rev4 rev4 := by
  refine D.okK sc_walk_to (fun _ _ _ _ _ _ us ws hl => match us, ws, hl with | [], [_, _, _, _], _ => rfl) rev4_vals (fun _ _ _ _ _ _ us hl => match us, hl with | [_, _, _, _], _ => rfl) (fun vs H Q E h => ?_) (fun f cdv A outer s H vs Q E hr h => ?_)
  · obtain ⟨a, s, p, x, n, ds, S, rfl, _⟩ := h
    rfl
  obtain ⟨a, s, p, x, n, ds, S, rfl, hH, tree, hn, st, ok, hp, hx, q0, q1⟩ := h
  obtain ⟨r, b, h1, h2, h3⟩ := id st
  have hdn := tree.len
  obtain ⟨f_need_state, fd_need_state, g_need_state, k_need_state, b_need_state, G_need_state⟩ := C_need_state
  obtain ⟨f_need_person, fd_need_person, g_need_person, k_need_person, b_need_person, G_need_person⟩ := C_need_person
  obtain ⟨f_need_room, fd_need_room, g_need_room, k_need_room, b_need_room, G_need_room⟩ := C_need_room
  obtain ⟨f_ways_from, fd_ways_from, g_ways_from, k_ways_from, b_ways_from, G_ways_from⟩ := C_ways_from
  obtain ⟨f_doors_barring, fd_doors_barring, g_doors_barring, k_doors_barring, b_doors_barring, G_doors_barring⟩ := C_doors_barring
  obtain ⟨f_steps_along, fd_steps_along, g_steps_along, k_steps_along, b_steps_along, G_steps_along⟩ := C_steps_along
  refine ⟨_, (pss_cons (ps_expr (pe_call G_need_state (hr.mono (by decide)) (by rfl) g_need_state k_need_state b_need_state .nil pass0 (pa_cons (pv 0) (pa_cons (pv 1) pa_nil))))
    (pss_cons (ps_expr (pe_call G_need_person (hr.mono (by decide)) (by rfl) g_need_person k_need_person b_need_person .nil pass0 (pa_cons (pv 1) (pa_cons (pv 2) pa_nil))))
    (pss_cons (ps_expr (pe_call G_need_room (hr.mono (by decide)) (by rfl) g_need_room k_need_room b_need_room .nil pass0 (pa_cons (pv 0) (pa_cons (pv 3) pa_nil))))
    (pss_cons (ps_set (i := 4) sc_walk_to.nd rfl (.inl rfl) (pe_call G_ways_from (hr.mono (by decide)) (by rfl) g_ways_from k_ways_from b_ways_from .nil pass0 (pa_cons (pv 0) (pa_cons (pv 3) (pa_cons (pe_call G_doors_barring (hr.mono (by decide)) (by rfl) g_doors_barring k_doors_barring b_doors_barring .nil pass0 (pa_cons (pv 1) (pa_cons (pv 2) pa_nil))) pa_nil)))))
    (pss_cons (ps_set (i := 5) sc_walk_to.nd rfl (.inl rfl) (pe_ix ix_tup (pe_ix ix_tup (pv 1) pe_int (fun _ _ => rfl)) (pv 2) (fun _ _ => rfl)))
    (pss_cons (ps_if (pt_cmp (pc_dnotin (hu_of hr) (pv 5) (pv 4))) (pss_one (ps_ret pe_non)) pss_nil)
    (pss_one (ps_ret (pe_lc (own := [("door", 6), ("start", 7), ("end", 8)]) (g := gTup K 3 (gCons (gName 6) (gCons (gName 7) (gCons (gName 8) gNil))))  rfl sc_walk_to.nd (pi_list (pe_call G_steps_along (hr.mono (by decide)) (by rfl) g_steps_along k_steps_along b_steps_along .nil pass0 (pa_cons (pv 4) (pa_cons (pv 5) pa_nil)))) (blkOk_by (N := N_walk_to) (sc := defScope s_walk_to) (own := [("door", 6), ("start", 7), ("end", 8)]) (by decide +kernel)) (fun _ _ _ _ _ => (pg_tup (n := 3) rfl (pgs_cons (pg_name (i := 6) sc_walk_to.nd rfl (.inl rfl) (.inr rfl)) (pgs_cons (pg_name (i := 7) sc_walk_to.nd rfl (.inl rfl) (.inr rfl)) (pgs_cons (pg_name (i := 8) sc_walk_to.nd rfl (.inl rfl) (.inr rfl)) pgs_nil))))) (fun _ _ _ _ _ => pts_nil) (fun _ _ _ _ _ => (pe_tup (pa_cons (pv 2) (pa_cons (pv 7) (pa_cons (pv 8) pa_nil)))))))))))))), ?_⟩
  obtain ⟨v, hv⟩ : ∃ v, S.1[p]? = some v := get_of rfl hp
  have lv := ok.rooms v (List.mem_of_getElem? hv)
  refine ⟨_, rfl, _, rfl, a, s, ds, n, S, rfl, hH, tree, by omega, st, ok, fun H1 s1 => ?_⟩
  refine ⟨_, rfl, _, rfl, s, p, n, ds, S, rfl, st.same s1, ok, hp, ?_⟩
  refine ⟨_, rfl, _, rfl, a, ds, _, rfl, hH.same s1, by omega, by omega, ?_⟩
  refine ⟨_, rfl, _, rfl, _, rfl, _, rfl, s, p, n, ds, S, rfl, st.same s1, ok, hn, by omega, fun H2 sh s2 nsh hsh => ?_⟩
  have s12 := s1.trans s2
  have bl := barr_len (S := S) (p := p)
  rw [ok.doors] at bl
  refine ⟨a, sh, ds, n, x, barr S p, rfl, hH.same s12, tree, hn, hx, SqL.of hsh, by omega, fun H3 q3 kvs ks s3 nq3 hq3 r3 df pt hrm => ?_⟩
  have s13 := s12.trans s3
  have rg : Reg n ds (barr S p) x ks := ⟨df, pt, hrm⟩
  have le := rg.le
  refine ⟨_, rfl, s, _, _, _, rfl, rfl, s13.tup h1, atI_nat (j := 0) rfl, _, rfl, r, _, _, _, rfl, rfl, s13.tup h2, nv_at hv, ?_⟩
  refine ⟨_, rfl, _, rfl, q3, _, rfl, DGet.k (k := Sum.inl (v : Int)) hq3, _, rfl, ?_⟩
  by_cases hm : v ∈ ks.map Prod.fst
  · obtain ⟨vv, o, hvv, _, _⟩ := r3.val hm
    rw [hvv]
    refine iteF ?_
    refine ⟨_, rfl, _, rfl, q3, v, n, x, ds, barr S p, kvs, ks, rfl, hq3, r3, pt, tree, by omega, hm, fun H4 q4 tr s4 nq4 ⟨ts, g1, g2⟩ trl nd nsh hl => ?_⟩
    refine ⟨q4, rfl, ⟨_, SqL.of g1⟩, fun pd npd => ?_⟩
    have s14 := s13.trans s4
    have npd0 := s14.free npd
    refine lc_it (walk_list (K := K) (a := q4) (xs := ts.map V.ref)) (fun i H5 => Same H4 H5 ∧ TrisAt H5 pd ((tr.take i).map fun m => (p, m.2.1, m.2.2))) ⟨Same.upd npd, [], upd_same, TL.nil⟩ (fun i H5 _ h => SqL.of (h.1 _ _ g1)) ?_ ?_
    · rintro i y H5 H6 hi ⟨sm, tp, f1, f2⟩ ⟨rfl, ex⟩
      have hi' : i < tr.length := by
        rw [List.length_map, g2.1] at hi
        exact hi
      obtain ⟨t1, ht1⟩ : ∃ t1, ts[i]? = some t1 := get_of g2.1 hi'
      obtain ⟨m, hm'⟩ : ∃ m, tr[i]? = some m := get_of rfl hi'
      have ex' : V.ref t1 = y := by
        have ex : (ts.map V.ref)[i]? = some y := ex
        rw [List.getElem?_map, ht1] at ex
        exact Option.some.inj ex
      subst ex'
      refine ⟨t1, _, rfl, SqT.of (sm _ _ (g2.2 i t1 m ht1 hm')), rfl, _, _, rfl, _, _, rfl, _, _, rfl, rfl, rfl, lcYes ?_⟩
      refine ⟨_, rfl, _, rfl, _, rfl, by show 3 ≤ sizeLine; decide, fun t2 nt2 => ?_⟩
      have ntp : t2 ≠ pd := (ne_of_none f1 nt2).symm
      refine ⟨_, by rw [upd_ne ntp.symm]; exact f1, ?_, (sm.trans (Same.upd nt2)).at npd, tp ++ [t2], by rw [upd_same, List.map_append]; rfl, ?_⟩
      · rw [List.length_map, f2.1, List.length_map, List.length_take]
        exact small1000 (by omega)
      · rw [List.take_succ, hm', List.map_append]
        refine TL.append ⟨f2.1, fun i' t' m' e1 e2 => ?_⟩ (TL.one (by rw [upd_ne ntp, upd_same]; rfl))
        have z := f2.2 i' t' m' e1 e2
        rw [upd_ne (ne_lt f1 z), upd_ne (ne_of_none z nt2)]
        exact z
    · rintro H5 ⟨sm, tp⟩
      rw [List.length_map, g2.1, List.take_length] at tp
      exact q1 H5 pd tr (s14.trans sm) npd0 tp (by rw [getD_of hv]; exact trl) nd nsh hl
  · rw [r3.no hm]
    exact iteT (q0 H3 ks s13 rg (by rw [getD_of hv]; exact hm))
end
end K5

namespace K5
open PySem PySem.Spec PyProof.Rows L2
theorem Ptr.walk {ds : List (Nat × Nat)} {shut : List Nat} {room : Nat} {ks : List (Nat × Option (Nat × Nat))} (P : Ptr ds shut room ks) :
    ∀ (m x : Nat), x ∈ ks.map Prod.fst → (ks.map Prod.fst).idxOf x = m → ∃ p, Walk ds x p room ∧ ∀ d ∈ p, d ∉ shut := by
  intro m
  induction m using Nat.strongRecOn with
  | ind m ih =>
    intro x hx hm
    obtain ⟨⟨x', o⟩, hk, rfl⟩ := List.mem_map.mp hx
    cases o with
    | none =>
      rw [P.fin _ hk]
      exact ⟨[], .nil _, fun d h => (List.not_mem_nil h).elim⟩
    | some e =>
      obtain ⟨j, ns, hy, lt⟩ := P.st _ e.1 e.2 hk
      obtain ⟨p, w, hp⟩ := ih _ (by rw [← hm]; exact lt) e.2 hy rfl
      exact ⟨e.1 :: p, .cons j w, fun d hd => by
        rcases List.mem_cons.mp hd with rfl | hd
        · exact ns
        · exact hp d hd⟩
theorem Reg.mem {n ds shut room ks} (h : Reg n ds shut room ks) (x : Nat) : x ∈ ks.map Prod.fst ↔ ∃ p, Walk ds room p x ∧ ∀ d ∈ p, d ∉ shut := by
  constructor
  · intro hx
    obtain ⟨p, w, hp⟩ := h.pt.walk _ x hx rfl
    exact ⟨p.reverse, w.rev, fun d hd => hp d (List.mem_reverse.mp hd)⟩
  · rintro ⟨p, w, hp⟩
    exact h.df.walk w hp h.rm
theorem nodup_perm {l l' : List Nat} (a : l.Nodup) (b : l'.Nodup) (h : ∀ x, x ∈ l ↔ x ∈ l') : l.Perm l' := (List.perm_ext_iff_of_nodup a b).mpr h
theorem Reg.perm {n ds shut room ks ks'} (h : Reg n ds shut room ks) (h' : Reg n ds shut room ks') : (ks.map Prod.fst).Perm (ks'.map Prod.fst) :=
  nodup_perm h.df.nd h'.df.nd fun x => (h.mem x).trans (h'.mem x).symm
/-- each person's region, in some order -/
structure Regs (n : Nat) (ds : List (Nat × Nat)) (S : S2) (k : Nat) (Ls : List (List Nat)) : Prop where
  len : Ls.length = k
  at_ : ∀ (p : Nat) (L : List Nat), Ls[p]? = some L → ∃ ks, Reg n ds (barr S p) (S.1.getD p 0) ks ∧ L.Perm (ks.map Prod.fst)
theorem flat_perm : ∀ (Ls Ms : List (List Nat)), Ls.length = Ms.length → (∀ (p : Nat) (L M : List Nat), Ls[p]? = some L → Ms[p]? = some M → L.Perm M) → Ls.flatten.Perm Ms.flatten
  | [], [], _, _ => List.Perm.refl _
  | [], _ :: _, h, _ => by simp at h
  | _ :: _, [], h, _ => by simp at h
  | L :: Ls, M :: Ms, h, hp => by
    rw [List.flatten_cons, List.flatten_cons]
    exact (hp 0 L M rfl rfl).append (flat_perm Ls Ms (by simpa using h) fun p L' M' a b => hp (p + 1) L' M' a b)
theorem Regs.perm {n ds S k Ls Ms} (a : Regs n ds S k Ls) (b : Regs n ds S k Ms) : Ls.flatten.Perm Ms.flatten :=
  flat_perm Ls Ms (a.len.trans b.len.symm) fun p L M h1 h2 => by
    obtain ⟨ks, r1, p1⟩ := a.at_ p L h1
    obtain ⟨ks', r2, p2⟩ := b.at_ p M h2
    exact (p1.trans (r1.perm r2)).trans p2.symm
theorem Regs.snoc {n ds S k Ls L ks} (a : Regs n ds S k Ls) (r : Reg n ds (barr S k) (S.1.getD k 0) ks) (pm : L.Perm (ks.map Prod.fst)) : Regs n ds S (k + 1) (Ls ++ [L]) := by
  refine ⟨by rw [List.length_append, a.len]; rfl, fun p M h => ?_⟩
  by_cases c : p < Ls.length
  · rw [List.getElem?_append_left c] at h
    exact a.at_ p M h
  · have := get_lt h
    rw [List.length_append, List.length_singleton] at this
    have e : p = k := by have := a.len; omega
    subst e
    rw [List.getElem?_append_right (by rw [a.len]; exact Nat.le_refl _), a.len, Nat.sub_self] at h
    cases h
    exact ⟨ks, r, pm⟩
/-- no two people can meet -/
def spApart (K : PySem.W.Frag) : Sp := fun vs H Q _ => ∃ (a s : Addr) (n : Nat) (ds : List (Nat × Nat)) (S : S2), vs = [.ref a, .ref s] ∧ HouseAt K H a ds ∧ Tree n ds ∧ n ≤ 60 ∧ StateAt K H s S ∧ StOk n ds S ∧
  ∀ (H' : Hp) (Ls : List (List Nat)), Same H H' → Regs n ds S S.1.length Ls → Q (.bl (decide Ls.flatten.Nodup)) H'
section
variable {P : Program} {w : World} {K : PySem.W.Frag}
      {mg : Str → Option Value} {base : Heap}
theorem ok_is_apart (T : Bl mg) (D : Def K mg "is_apart" s_is_apart) (C_need_state : Cal P w K mg base "need_state" ["house", "state"] 7 (spSt K)) (C_region_ways : Cal P w K mg base "region_ways" ["house", "state", "person"] 3 (spRegWays K)) :
    CalK P w K mg base "is_apart" ["house", "state"] 8 (spApart K) ["state", "house"] rev2 rev2 := by
  refine D.okK sc_is_apart (fun _ _ _ _ _ _ us ws hl => match us, ws, hl with | [], [_, _], _ => rfl) rev2_vals (fun _ _ _ _ _ _ us hl => match us, hl with | [_, _], _ => rfl) (fun vs H Q E h => ?_) (fun f cdv A outer s H vs Q E hr h => ?_)
  · obtain ⟨a, s, n, ds, S, rfl, _⟩ := h
    rfl
  obtain ⟨a, s, n, ds, S, rfl, hH, tree, hn, st, ok, q⟩ := h
  obtain ⟨r, b, h1, h2, h3⟩ := id st
  have few := ok.few
  obtain ⟨f_need_state, fd_need_state, g_need_state, k_need_state, b_need_state, G_need_state⟩ := C_need_state
  obtain ⟨f_region_ways, fd_region_ways, g_region_ways, k_region_ways, b_region_ways, G_region_ways⟩ := C_region_ways
  refine ⟨_, (pss_cons (ps_expr (pe_call G_need_state (hr.mono (by decide)) (by rfl) g_need_state k_need_state b_need_state .nil pass0 (pa_cons (pv 0) (pa_cons (pv 1) pa_nil))))
    (pss_cons (ps_set (i := 2) sc_is_apart.nd rfl (.inl rfl) (pe_lst pa_nil))
    (pss_cons (ps_for PassesOwn.never rfl (pi_range1 rfl T.range (pa_cons (pe_callB call_len_seq (by rfl) T.len PySem.boot_len (pa_cons (pe_ix ix_tup (pv 1) pe_int (fun _ _ => rfl)) pa_nil)) pa_nil)) (pg_name (i := 3) sc_is_apart.nd rfl (.inl rfl))
    (pss_one (ps_expr (pe_bm PySem.F.plainAttrs_list PySem.F.slot_list_extend PySem.F.type_list_extend mt_extend (pv 2) (pa_cons (pe_callTy (call_listD rfl) (by rfl) T.list (by decide +kernel) (pa_cons (pe_call G_region_ways (hr.mono (by decide)) (by rfl) g_region_ways k_region_ways b_region_ways .nil pass0 (pa_cons (pv 0) (pa_cons (pv 1) (pa_cons (pv 3) pa_nil)))) pa_nil)) pa_nil)))))
    (pss_one (ps_ret (pe_cmpR op_eq (pe_lenSetA rfl (by rfl) T.len (by rfl) T.set (pv 2)) (pe_callB call_len_seq (by rfl) T.len PySem.boot_len (pa_cons (pv 2) pa_nil)) (nomark _))))))), ?_⟩
  refine ⟨_, rfl, _, rfl, a, s, ds, n, S, rfl, hH, tree, by omega, st, ok, fun H1 s1 => ?_⟩
  refine ⟨Nat.zero_le _, fun pd npd => ?_⟩
  have sp1 := s1.trans (Same.upd (o := .lst []) npd)
  have npd0 := s1.free npd
  refine ⟨_, rfl, s, _, _, _, rfl, rfl, sp1.tup h1, atI_nat (j := 0) rfl, _, _, rfl, .inr (sp1.tup h2), (S.1.length : Int), congrArg (fun z : Nat => [V.int (z : Int)]) (nv_len _), by omega, by omega, ?_⟩
  refine for_range (lo := 0) (n := S.1.length) (fun k σ H2 => ∃ Ls y3, σ = [some (.ref a), some (.ref s), some (.ref pd), y3] ∧ Same H H2 ∧ H2 pd = some (.lst (nv Ls.flatten)) ∧ Regs n ds S k Ls ∧ Ls.flatten.length ≤ n * k)
    ⟨[], _, rfl, sp1, upd_same, ⟨rfl, fun p L h => by simp at h⟩, Nat.zero_le _⟩ ?_ ?_
  · rintro k σ H2 hk ⟨Ls, y3, rfl, sm, hp, rg, le⟩
    rw [Int.zero_add]
    refine ⟨_, rfl, .inl ⟨rfl, _, SqL.of hp⟩, _, rfl, _, rfl, _, rfl, a, s, k, n, ds, S, rfl, hH.same sm, tree, by omega, st.same sm, ok, hk, fun H3 q3 kvs ks s3 nq3 hq3 r3 rg3 => ?_⟩
    refine ⟨q3, kvs, rfl, .inl hq3, fun p4 np4 => ?_⟩
    have s4 := s3.trans (Same.upd (o := .lst (kvs.map fun kv => kV kv.1)) np4)
    have ek : (kvs.map fun kv => kV kv.1) = nv (ks.map Prod.fst) := by
      have e := r3.keys
      have e2 : (kvs.map fun kv => kV kv.1) = (kvs.map (·.1)).map kV := by rw [List.map_map]; rfl
      rw [e2, e, List.map_map, List.map_map, nv]
      rfl
    rw [ek] at s4 ⊢
    have l3 := rg3.le
    have nk : n * k ≤ 60 * 10 := Nat.mul_le_mul hn (by omega)
    refine ⟨pd, p4, _, _, rfl, rfl, s4 _ _ hp, upd_same, ?_, ?_⟩
    · rw [nv_len, nv_len, List.length_map]
      exact Nat.le_of_lt (small1000 (by omega))
    · refine ⟨Ls ++ [ks.map Prod.fst], _, rfl, (sm.trans s4).at npd0, ?_, rg.snoc rg3 (List.Perm.refl _), ?_⟩
      · rw [upd_same, List.flatten_append, List.flatten_cons, List.flatten_nil, List.append_nil]
        unfold nv
        rw [List.map_append]
      · rw [List.flatten_append, List.length_append, List.flatten_cons, List.flatten_nil, List.append_nil, List.length_map, Nat.mul_succ]
        omega
  · rintro σ H2 ⟨Ls, y3, rfl, sm, hp, rg, le⟩
    have nk : n * S.1.length ≤ 60 * 10 := Nat.mul_le_mul hn few
    refine ⟨_, rfl, pd, Ls.flatten.map (fun x : Nat => (x : Int)), rfl, by rw [← nv_int]; exact SqL.of hp, ?_, fun m hm1 hm2 => ?_⟩
    · rw [List.length_map]
      exact Nat.lt_of_le_of_lt (by omega : Ls.flatten.length + 1 ≤ 1000) (by decide)
    · refine ⟨_, rfl, _, _, rfl, .inl (SqL.of hp), rfl, ?_⟩
      have nodup_iff : (Ls.flatten.map fun x : Nat => (x : Int)).Nodup ↔ Ls.flatten.Nodup := by
        unfold List.Nodup
        rw [List.pairwise_map]
        exact ⟨fun h => h.imp fun z e => z (by rw [e]), fun h => h.imp fun z e => z (by omega)⟩
      have e : decide (V.int (m : Int) = V.int (((nv Ls.flatten).length : Nat) : Int)) = decide Ls.flatten.Nodup := by
        rw [nv_len]
        by_cases c : Ls.flatten.Nodup
        · have := hm1 (nodup_iff.mpr c)
          rw [List.length_map] at this
          rw [decide_eq_true c, decide_eq_true (by rw [this])]
        · have := hm2 fun z => c (nodup_iff.mp z)
          rw [List.length_map] at this
          rw [decide_eq_false c, decide_eq_false fun z => by have := V.int.inj z; omega]
      show Q (.bl (decide (V.int (m : Int) = V.int (((nv Ls.flatten).length : Nat) : Int)))) H2
      rw [e]
      exact q H2 Ls sm rg
end
end K5

namespace K5
open PySem PySem.Spec PyProof.Rows L2
/-- the way from the room of the search to x, within the region -/
structure Way (ds : List (Nat × Nat)) (shut : List Nat) (room x : Nat) (p : List Nat) : Prop where
  w : Walk ds room p x
  nd : p.Nodup
  un : ∀ d ∈ p, d ∉ shut
theorem Way.unique {n ds shut room x p q} (T : Tree n ds) (a : Way ds shut room x p) (b : Way ds shut room x q) : p = q := way_unique T a.w b.w a.nd b.nd
theorem Reg.path {n ds shut room ks} (h : Reg n ds shut room ks) : ∀ (m x : Nat), x ∈ ks.map Prod.fst → (ks.map Prod.fst).idxOf x = m →
    ∃ p, Way ds shut room x p ∧ ∀ d ∈ p, ∀ u v, Joins ds d u v → (ks.map Prod.fst).idxOf u ≤ m ∧ (ks.map Prod.fst).idxOf v ≤ m := by
  intro m
  induction m using Nat.strongRecOn with
  | ind m ih =>
    intro x hx hm
    obtain ⟨⟨x', o⟩, hk, rfl⟩ := List.mem_map.mp hx
    cases o with
    | none =>
      rw [h.pt.fin _ hk]
      exact ⟨[], ⟨.nil _, List.nodup_nil, fun d h => (List.not_mem_nil h).elim⟩, fun d h => (List.not_mem_nil h).elim⟩
    | some e =>
      obtain ⟨j, ns, hy, lt⟩ := h.pt.st _ e.1 e.2 hk
      obtain ⟨p, a, bd⟩ := ih _ (by rw [← hm]; exact lt) e.2 hy rfl
      have nin : e.1 ∉ p := fun hin => by
        have := (bd _ hin _ _ j).1
        try simp only at lt this
        omega
      refine ⟨p ++ [e.1], ⟨a.w.snoc j.symm, ?_, ?_⟩, ?_⟩
      · refine List.nodup_append.mpr ⟨a.nd, by simp, fun c hc b hb => ?_⟩
        rw [List.mem_singleton] at hb
        rintro rfl
        exact nin (hb ▸ hc)
      · intro d hd
        rcases List.mem_append.mp hd with hd | hd
        · exact a.un d hd
        · rw [List.mem_singleton] at hd
          rw [hd]
          exact ns
      · intro d hd u v k
        try simp only at hm lt
        rcases List.mem_append.mp hd with hd | hd
        · have := bd d hd u v k
          omega
        · rw [List.mem_singleton] at hd
          subst hd
          rcases j with j | j <;> rcases k with k | k <;> rw [j] at k <;> cases k <;> omega
theorem Reg.way {n ds shut room ks} (h : Reg n ds shut room ks) {x : Nat} (hx : x ∈ ks.map Prod.fst) : ∃ p, Way ds shut room x p := by
  obtain ⟨p, a, _⟩ := h.path _ x hx rfl
  exact ⟨p, a⟩
/-- a room's way is its parent's and the door between -/
theorem Reg.child {n ds shut room ks} (T : Tree n ds) (h : Reg n ds shut room ks) {x d y : Nat} (hk : (x, some (d, y)) ∈ ks) {p : List Nat} (hp : Way ds shut room y p) : Way ds shut room x (p ++ [d]) := by
  obtain ⟨j, ns, hy, lt⟩ := h.pt.st _ _ _ hk
  obtain ⟨p', a, bd⟩ := h.path _ y hy rfl
  have e := a.unique T hp
  subst e
  have nin : d ∉ p' := fun hin => by
    have := (bd _ hin _ _ j).1
    omega
  refine ⟨a.w.snoc j.symm, ?_, ?_⟩
  · refine List.nodup_append.mpr ⟨a.nd, by simp, fun c hc b hb => ?_⟩
    rw [List.mem_singleton] at hb
    rintro rfl
    exact nin (hb ▸ hc)
  · intro d' hd
    rcases List.mem_append.mp hd with hd | hd
    · exact a.un d' hd
    · rw [List.mem_singleton] at hd
      rw [hd]
      exact ns
/-- x ends a walk of k steps -/
def EndAt (ds : List (Nat × Nat)) (shut : List Nat) (room k : Nat) : Prop := ∃ x p, Way ds shut room x p ∧ p.length = k ∧ ∀ d z, Joins ds d x z → d ∉ shut → d ∈ p
structure MinMax (P : Nat → Prop) (lo hi : Nat) : Prop where
  isLo : P lo
  isHi : P hi
  all : ∀ k, P k → lo ≤ k ∧ k ≤ hi
theorem MinMax.unique {P : Nat → Prop} {a b c d : Nat} (x : MinMax P a b) (y : MinMax P c d) : a = c ∧ b = d := by
  have h1 := x.all _ y.isLo
  have h2 := y.all _ x.isLo
  have h3 := x.all _ y.isHi
  have h4 := y.all _ x.isHi
  omega
theorem MinMax.iff {P Q : Nat → Prop} {a b : Nat} (x : MinMax P a b) (h : ∀ k, P k ↔ Q k) : MinMax Q a b := ⟨(h a).mp x.isLo, (h b).mp x.isHi, fun k hk => x.all k ((h k).mpr hk)⟩
/-- the rooms that nobody leads on from -/
theorem Reg.leaf {n ds shut room ks} (T : Tree n ds) (h : Reg n ds shut room ks) {x : Nat} {p : List Nat} (hx : x ∈ ks.map Prod.fst) (hp : Way ds shut room x p) :
    (¬ ∃ z d, (z, some (d, x)) ∈ ks) ↔ ∀ d z, Joins ds d x z → d ∉ shut → d ∈ p := by
  constructor
  · intro no d z j ns
    refine Classical.byContradiction fun hd => no ?_
    have hz : z ∈ ks.map Prod.fst := h.df.cl _ hx (by simp) d z j ns
    have wz : Way ds shut room z (p ++ [d]) := by
      refine ⟨hp.w.snoc j, ?_, ?_⟩
      · refine List.nodup_append.mpr ⟨hp.nd, by simp, fun c hc b hb => ?_⟩
        rw [List.mem_singleton] at hb
        rintro rfl
        exact hd (hb ▸ hc)
      · intro d' hd'
        rcases List.mem_append.mp hd' with hd' | hd'
        · exact hp.un d' hd'
        · rw [List.mem_singleton] at hd'
          rw [hd']
          exact ns
    obtain ⟨⟨z', o⟩, hk, rfl⟩ := List.mem_map.mp hz
    cases o with
    | none =>
      have e0 : z' = room := h.pt.fin _ hk
      subst e0
      have w0 : Way ds shut z' z' [] := ⟨.nil _, List.nodup_nil, fun d h => (List.not_mem_nil h).elim⟩
      have := wz.unique T w0
      simp at this
    | some e =>
      obtain ⟨j2, ns2, hy, _⟩ := h.pt.st _ e.1 e.2 hk
      obtain ⟨py, wy⟩ := h.way hy
      have w2 := h.child T hk wy
      have e3 := wz.unique T w2
      obtain ⟨_, e4⟩ := List.append_inj' e3 rfl
      have e4 : d = e.1 := by simpa using e4
      have e5 : x = e.2 := by
        rw [← e4] at j2
        exact j.symm.other j2 (j.lt T).2.2.2.symm
      exact ⟨z', d, by rw [e4, e5]; exact hk⟩
  · rintro all ⟨z, d, hk⟩
    obtain ⟨j, ns, hy, lt⟩ := h.pt.st _ _ _ hk
    have hin := all d z j.symm ns
    have w2 := h.child T hk hp
    obtain ⟨_, _, q⟩ := List.nodup_append.mp w2.nd
    exact q d hin d (by simp) rfl
theorem Reg.ends {n ds shut room ks} (T : Tree n ds) (h : Reg n ds shut room ks) (k : Nat) : EndAt ds shut room k ↔ ∃ x p, x ∈ ks.map Prod.fst ∧ (¬ ∃ z d, (z, some (d, x)) ∈ ks) ∧ Way ds shut room x p ∧ p.length = k := by
  constructor
  · rintro ⟨x, p, hp, hk, all⟩
    have hx := (h.mem x).mpr ⟨p, hp.w, hp.un⟩
    exact ⟨x, p, hx, (h.leaf T hx hp).mpr all, hp, hk⟩
  · rintro ⟨x, p, hx, no, hp, hk⟩
    exact ⟨x, p, hp, hk, (h.leaf T hx hp).mp no⟩
end K5

namespace K5
open PySem PySem.Spec PyProof.Rows L2
noncomputable def dep (ds : List (Nat × Nat)) (shut : List Nat) (room x : Nat) : Nat := by
  classical exact if h : ∃ p, Way ds shut room x p then h.choose.length else 0
theorem dep_is {n ds shut room x p} (T : Tree n ds) (h : Way ds shut room x p) : dep ds shut room x = p.length := by
  unfold dep
  rw [dif_pos ⟨p, h⟩]
  have hh : ∃ p, Way ds shut room x p := ⟨p, h⟩
  rw [hh.choose_spec.unique T h]
def par (ks : List (Nat × Option (Nat × Nat))) : List Nat := ks.filterMap fun z => z.2.map Prod.snd
theorem mem_par {ks : List (Nat × Option (Nat × Nat))} {y : Nat} : y ∈ par ks ↔ ∃ z d, (z, some (d, y)) ∈ ks := by
  unfold par
  rw [List.mem_filterMap]
  constructor
  · rintro ⟨⟨z, o⟩, hk, e⟩
    cases o with
    | none => cases e
    | some c =>
      have e : c.2 = y := Option.some.inj e
      exact ⟨z, c.1, by rw [← e]; exact hk⟩
  · rintro ⟨z, d, hk⟩
    exact ⟨_, hk, rfl⟩
theorem keys_old {kvs : List (Key × V)} {k : Key} {v : V} (c : k ∈ kvs.map (fun kv : Key × V => kv.1)) : (putK kvs k v).map (fun kv : Key × V => kv.1) = kvs.map (fun kv : Key × V => kv.1) := by
  unfold putK
  have a : (kvs.any fun kv => decide (kv.1 = k)) = true := by
    obtain ⟨kv, h1, h2⟩ := List.mem_map.mp c
    exact List.any_eq_true.mpr ⟨kv, h1, decide_eq_true h2⟩
  rw [if_pos a, List.map_map]
  refine List.map_congr_left fun kv _ => ?_
  show (if kv.1 = k then (kv.1, v) else kv).1 = kv.1
  by_cases e : kv.1 = k
  · rw [if_pos e]
  · rw [if_neg e]
theorem keys_new {kvs : List (Key × V)} {k : Key} {v : V} (c : k ∉ kvs.map (fun kv : Key × V => kv.1)) : (putK kvs k v).map (fun kv : Key × V => kv.1) = kvs.map (fun kv : Key × V => kv.1) ++ [k] := by
  unfold putK
  have a : ¬ (kvs.any fun kv => decide (kv.1 = k)) = true := fun z => by
    obtain ⟨kv, h1, h2⟩ := List.any_eq_true.mp z
    exact c (List.mem_map.mpr ⟨kv, h1, of_decide_eq_true h2⟩)
  rw [if_neg a, List.map_append]
  rfl
theorem paired_get {α β : Type} {F : α → β → Prop} : ∀ {l : List α} {m : List β} {i : Nat} {a : α} {b : β}, Paired F l m → l[i]? = some a → m[i]? = some b → F a b
  | _, _, i, a, b, .nil, h1, h2 => by simp at h1
  | _, _, 0, a, b, .cons h t, h1, h2 => by
    cases h1
    cases h2
    exact h
  | _, _, i + 1, a, b, .cons h t, h1, h2 => paired_get t h1 h2
theorem Reg.has_leaf {n ds shut room ks} (h : Reg n ds shut room ks) : ∃ x, x ∈ ks.map Prod.fst ∧ x ∉ par ks := by
  refine Classical.byContradiction fun no => ?_
  have all : ∀ x, x ∈ ks.map Prod.fst → x ∈ par ks := fun x hx => Classical.byContradiction fun z => no ⟨x, hx, z⟩
  have climb : ∀ m : Nat, ∃ x, x ∈ ks.map Prod.fst ∧ m ≤ (ks.map Prod.fst).idxOf x := by
    intro m
    induction m with
    | zero => exact ⟨room, h.rm, Nat.zero_le _⟩
    | succ m ih =>
      obtain ⟨x, hx, le⟩ := ih
      obtain ⟨z, d, hk⟩ := mem_par.mp (all x hx)
      obtain ⟨_, _, _, lt⟩ := h.pt.st _ _ _ hk
      exact ⟨z, List.mem_map.mpr ⟨_, hk, rfl⟩, by omega⟩
  obtain ⟨x, hx, le⟩ := climb (ks.map Prod.fst).length
  have := List.idxOf_lt_length_iff.mpr hx
  omega
theorem take_keys {ks : List (Nat × Option (Nat × Nat))} {i : Nat} {e : Nat × Option (Nat × Nat)} (he : ks[i]? = some e) : (ks.take (i + 1)).map Prod.fst = (ks.take i).map Prod.fst ++ [e.1] := by
  rw [List.take_succ, he, List.map_append]
  rfl
theorem take_par {ks : List (Nat × Option (Nat × Nat))} {i : Nat} {e : Nat × Option (Nat × Nat)} (he : ks[i]? = some e) : par (ks.take (i + 1)) = par (ks.take i) ++ (e.2.map Prod.snd).toList := by
  unfold par
  rw [List.take_succ, he, List.filterMap_append]
  obtain ⟨x, o⟩ := e
  cases o <;> rfl
theorem fresh_key {ks : List (Nat × Option (Nat × Nat))} {i : Nat} {e : Nat × Option (Nat × Nat)} (nd : (ks.map Prod.fst).Nodup) (he : ks[i]? = some e) : e.1 ∉ (ks.take i).map Prod.fst := by
  intro hm
  have h2 : (ks.map Prod.fst)[i]? = some e.1 := by rw [List.getElem?_map, he]; rfl
  rw [List.map_take] at hm
  obtain ⟨j, hj⟩ := List.mem_iff_getElem?.mp hm
  rw [List.getElem?_take] at hj
  split at hj
  · rename_i hji
    have l1 := get_lt hj
    have l2 := get_lt h2
    rw [List.getElem?_eq_getElem l1] at hj
    rw [List.getElem?_eq_getElem l2] at h2
    have := (List.getElem_inj nd).mp ((Option.some.inj hj).trans (Option.some.inj h2).symm)
    omega
  · cases hj
theorem inl_mem {x : Nat} {l : List Nat} : (Sum.inl (x : Int) : Key) ∈ (l.map fun y : Nat => (y : Int)).map Sum.inl ↔ x ∈ l := by
  rw [List.map_map, List.mem_map]
  constructor
  · rintro ⟨y, hy, e⟩
    have e : (y : Int) = (x : Int) := Sum.inl.inj e
    have : y = x := by omega
    exact this ▸ hy
  · intro h
    exact ⟨x, h, rfl⟩
/-- the two dicts of the count, i entries read -/
structure Cnt (ds : List (Nat × Nat)) (shut : List Nat) (room : Nat) (ks : List (Nat × Option (Nat × Nat))) (i : Nat) (l1 l2 : List (Key × V)) : Prop where
  keys : l1.map (·.1) = (((ks.take i).map Prod.fst).map fun y : Nat => (y : Int)).map Sum.inl
  val : ∀ x, x ∈ (ks.take i).map Prod.fst → valV l1 (Sum.inl (x : Int)) = some (.int (dep ds shut room x : Int))
  pas : ∀ y : Nat, (valV l2 (Sum.inl (y : Int))).isSome = decide (y ∈ par (ks.take i))
  few : l2.length ≤ i
def spFew (K : PySem.W.Frag) : Sp := fun vs H Q _ => ∃ (q : Addr) (n room : Nat) (ds : List (Nat × Nat)) (shut : List Nat) (kvs : List (Key × V)) (ks : List (Nat × Option (Nat × Nat))), vs = [.ref q] ∧ H q = some (.dK kvs) ∧ DicR (WayR H) kvs ks ∧ Tree n ds ∧ Reg n ds shut room ks ∧ n ≤ 60 ∧
  ∀ (H' : Hp) (t : Addr) (lo hi : Nat), Same H H' → H t = none → H' t = some (.tup [.int (lo : Int), .int (hi : Int)]) → MinMax (EndAt ds shut room) lo hi → Q (.ref t) H'
theorem putlen (kvs : List (Key × V)) (k : Key) (v : V) : (putK kvs k v).length ≤ kvs.length + 1 := by
  unfold putK
  split
  · rw [List.length_map]; omega
  · simp
section
variable {P : Program} {w : World} {K : PySem.W.Frag}
      {mg : Str → Option Value} {base : Heap}
theorem ok_fewest_and_most (T : Bl mg) (D : Def K mg "fewest_and_most" s_fewest_and_most) : Cal P w K mg base "fewest_and_most" ["ways"] 1 (spFew K) := by
  refine D.ok sc_fewest_and_most (fun _ _ _ _ _ _ us hl => match us, hl with | [_], _ => rfl) (fun vs H Q E h => ?_) (fun f cdv A outer s H vs Q E hr h => ?_)
  · obtain ⟨q, n, room, ds, shut, kvs, ks, rfl, _⟩ := h
    rfl
  obtain ⟨q0, n, room, ds, shut, kvs, ks, rfl, hq, r, tree, rg, hn, q⟩ := h
  have le := rg.le
  have kl : kvs.length = ks.length := r.len
  refine ⟨_, (pss_cons (ps_set (i := 1) sc_fewest_and_most.nd rfl (.inr rfl) pe_dnewK)
    (pss_cons (ps_set (i := 2) sc_fewest_and_most.nd rfl (.inr rfl) pe_dnewK)
    (pss_cons (ps_lock (ps_for PassesOwn.never rfl (pi_items (pv 0)) (pg_tup (n := 2) rfl (pgs_cons (pg_name (i := 3) sc_fewest_and_most.nd rfl (.inl rfl)) (pgs_cons (pg_name (i := 4) sc_fewest_and_most.nd rfl (.inl rfl)) pgs_nil)))
    (pss_cons (ps_dput (hu_of hr) (pv 1) (pv 3) pe_int rfl)
    (pss_one (ps_if (pt_cmpR op_notN (pv 4) pe_non (nomark _)) (pss_cons (ps_dput (hu_of hr) (pv 1) (pv 3) (pe_op op_add (pe_dget (hu_of hr) (pv 1) (pe_ix ix_tup (pv 4) pe_int (fun _ _ => rfl)) (fun _ _ => rfl)) pe_int) rfl)
    (pss_one (ps_dput (hu_of hr) (pv 2) (pe_ix ix_tup (pv 4) pe_int (fun _ _ => rfl)) pe_bl rfl))) pss_nil)))))
    (pss_cons (ps_lock (ps_setLc (i := 5) (own := [("room", 3)]) (g := gName 3)  rfl sc_fewest_and_most.nd rfl rfl (sw_true rfl rfl rfl (by decide +kernel)) (pi_keys (pv 1)) (blkOk_by (N := N_fewest_and_most) (sc := defScope s_fewest_and_most) (own := [("room", 3)]) (by decide +kernel)) (fun _ _ _ _ _ => (pg_name (i := 3) sc_fewest_and_most.nd rfl (.inl rfl) (.inr rfl))) (fun _ _ _ _ _ => (pts_one (pt_cmp (pc_dnotin (hu_of hr) (pv 3) (pv 2))))) (fun _ _ _ _ _ => (pe_dget (hu_of hr) (pv 1) (pv 3) (fun _ _ => rfl)))))
    (pss_one (ps_ret (pe_tup (pa_cons (pe_callB (cr_min rfl) (by rfl) T.min (by decide +kernel) (pa_cons (pv 5) pa_nil)) (pa_cons (pe_callB (cr_max rfl) (by rfl) T.max (by decide +kernel) (pa_cons (pv 5) pa_nil)) pa_nil))))))))), ?_⟩
  refine fun pl npl => ?_
  refine fun pp npp => ?_
  have ne1 : pl ≠ pp := ne_of_none upd_same npp
  have npp0 : H pp = none := by rw [upd_ne ne1.symm] at npp; exact npp
  have nq1 : q0 ≠ pl := ne_of_none hq npl
  have nq2 : q0 ≠ pp := ne_of_none hq npp0
  have fr2 : ∀ b o, b ≠ pl → b ≠ pp → H b = some o → (upd (upd H pl (.dK [])) pp (.dK [])) b = some o := fun b o h1 h2 e => by rw [upd_ne h2, upd_ne h1]; exact e
  have hq2 := fr2 _ _ nq1 nq2 hq
  have hpl2 : (upd (upd H pl (.dK [])) pp (.dK [])) pl = some (.dK []) := by rw [upd_ne ne1, upd_same]
  have hpp2 : (upd (upd H pl (.dK [])) pp (.dK [])) pp = some (.dK []) := upd_same
  generalize upd (upd H pl (.dK [])) pp (.dK []) = H2 at fr2 hq2 hpl2 hpp2
  refine ⟨q0, _, hq2, trivial, fun od => ?_⟩
  have frL : ∀ b o, b ≠ pl → b ≠ pp → b ≠ q0 → H b = some o → (upd H2 q0 (.frz od (.dK kvs))) b = some o := fun b o h1 h2 h3 e => by rw [upd_ne h3]; exact fr2 b o h1 h2 e
  refine ⟨_, rfl, q0, od, kvs, rfl, upd_same, ?_⟩
  refine for_it (walk_items (d := q0) (o := od) (kvs := kvs)) (fun i σ H3 => ∃ l1 l2 y3 y4 y5, σ = [some (.ref q0), some (.ref pl), some (.ref pp), y3, y4, y5] ∧ (∀ b o, b ≠ pl → b ≠ pp → b ≠ q0 → H b = some o → H3 b = some o) ∧ H3 q0 = some (.frz od (.dK kvs)) ∧ H3 pl = some (.dK l1) ∧ H3 pp = some (.dK l2) ∧ Cnt ds shut room ks i l1 l2)
    ⟨[], [], _, _, _, rfl, frL, upd_same, by rw [upd_ne nq1.symm]; exact hpl2, by rw [upd_ne nq2.symm]; exact hpp2, ⟨rfl, fun x hx => (List.not_mem_nil hx).elim, fun y => rfl, Nat.le_refl _⟩⟩ (fun i σ H3 _ ⟨_, _, _, _, _, _, _, h, _⟩ => h) ?_ ?_
  · rintro i x σ H3 H4 hi ⟨l1, l2, y3, y4, y5, rfl, fr, h3q, h3l, h3p, cn⟩ ⟨t, x1, x2, rfl, nt, rfl, ex1, ex2⟩
    obtain ⟨kv, hkv⟩ : ∃ kv, kvs[i]? = some kv := get_of rfl hi
    obtain ⟨e, he⟩ : ∃ e, ks[i]? = some e := get_of rfl (by rw [← kl]; exact hi)
    obtain ⟨r1, r2⟩ := paired_get r hkv he
    have ex1 : kV kv.1 = x1 := by
      have ex1 : (kvs[i]?.map fun kv => kV kv.1) = some x1 := ex1
      rw [hkv] at ex1
      exact Option.some.inj ex1
    have ex2 : kv.2 = x2 := by
      have ex2 : (kvs[i]?.map Prod.snd) = some x2 := ex2
      rw [hkv] at ex2
      exact Option.some.inj ex2
    subst ex1 ex2
    rw [r1]
    have st : ∀ b o, H3 b = some o → (upd H3 t (.tup [kV (Sum.inl (e.1 : Int)), kv.2])) b = some o := fun b o z => Same.upd nt b o z
    have ntq : t ≠ q0 := (ne_of_none h3q nt).symm
    refine ⟨t, _, rfl, SqT.of upd_same, rfl, _, _, rfl, _, _, rfl, rfl, ?_⟩
    have fr5 : ∀ b o, b ≠ pl → b ≠ pp → b ≠ q0 → H b = some o → (upd H3 t (.tup [kV (Sum.inl (e.1 : Int)), kv.2])) b = some o := fun b o h1 h2 h3 z => st b o (fr b o h1 h2 h3 z)
    have h5q := st _ _ h3q
    have h5l := st _ _ h3l
    have h5p := st _ _ h3p
    generalize upd H3 t (.tup [kV (Sum.inl (e.1 : Int)), kv.2]) = H5 at fr5 h5q h5l h5p
    have nk := fresh_key rg.df.nd he
    have l1l : l1.length ≤ ks.length := by
      have e := congrArg List.length cn.keys
      simp only [List.length_map, List.length_take] at e
      omega
    have l2l := cn.few
    have hil : i < ks.length := get_lt he
    have hkey : e.1 ∈ ks.map Prod.fst := List.mem_map.mpr ⟨_, List.mem_of_getElem? he, rfl⟩
    have newk : (Sum.inl (e.1 : Int) : Key) ∉ l1.map (fun kv : Key × V => kv.1) := by
      have e0 : l1.map (fun kv : Key × V => kv.1) = (((ks.take i).map Prod.fst).map fun y : Nat => (y : Int)).map Sum.inl := cn.keys
      rw [e0]
      exact fun z => nk (inl_mem.mp z)
    refine ⟨_, rfl, _, rfl, pl, _, rfl, DPut.k (k := Sum.inl (e.1 : Int)) h5l (small1000 (by omega)), ?_⟩
    have h6l : (upd H5 pl (.dK (putK l1 (Sum.inl (e.1 : Int)) (.int 0)))) pl = some (.dK (putK l1 (Sum.inl (e.1 : Int)) (.int 0))) := upd_same
    have h6p : (upd H5 pl (.dK (putK l1 (Sum.inl (e.1 : Int)) (.int 0)))) pp = some (.dK l2) := by rw [upd_ne ne1.symm]; exact h5p
    have h6q : (upd H5 pl (.dK (putK l1 (Sum.inl (e.1 : Int)) (.int 0)))) q0 = some (.frz od (.dK kvs)) := by rw [upd_ne nq1]; exact h5q
    have fr6 : ∀ b o, b ≠ pl → b ≠ pp → b ≠ q0 → H b = some o → (upd H5 pl (.dK (putK l1 (Sum.inl (e.1 : Int)) (.int 0)))) b = some o := fun b o h1 h2 h3 z => by rw [upd_ne h1]; exact fr5 b o h1 h2 h3 z
    have k6 : (putK l1 (Sum.inl (e.1 : Int)) (.int 0)).map (fun kv : Key × V => kv.1) = (((ks.take (i + 1)).map Prod.fst).map fun y : Nat => (y : Int)).map Sum.inl := by
      have e0 : l1.map (fun kv : Key × V => kv.1) = (((ks.take i).map Prod.fst).map fun y : Nat => (y : Int)).map Sum.inl := cn.keys
      rw [keys_new newk, e0, take_keys he, List.map_append, List.map_append]
      rfl
    have lp1 := putlen l1 (Sum.inl (e.1 : Int)) (.int 0)
    generalize upd H5 pl (.dK (putK l1 (Sum.inl (e.1 : Int)) (.int 0))) = H6 at h6l h6p h6q fr6
    obtain ⟨px, wx⟩ := rg.way hkey
    have ks_i := List.mem_of_getElem? he
    obtain ⟨xe, oe⟩ := e
    cases oe with
    | none =>
      have hv : kv.2 = .non := r2
      rw [hv]
      have ex : xe = room := rg.pt.fin _ ks_i
      refine ⟨_, rfl, rfl, _, rfl, iteF ⟨_, l2, _, _, _, rfl, fr6, h6q, h6l, h6p, ⟨k6, fun x hx => ?_, fun y => ?_, by omega⟩⟩⟩
      · rw [valV_put]
        rw [take_keys he] at hx
        rcases List.mem_append.mp hx with hx | hx
        · have ne : (Sum.inl (x : Int) : Key) ≠ Sum.inl (xe : Int) := fun z => by
            have z := Sum.inl.inj z
            have : x = xe := by omega
            exact nk (this ▸ hx)
          rw [if_neg ne]
          exact cn.val x hx
        · rw [List.mem_singleton] at hx
          have hx : x = xe := hx
          subst hx
          rw [if_pos rfl]
          have w0 : Way ds shut x x [] := ⟨.nil _, List.nodup_nil, fun d h => (List.not_mem_nil h).elim⟩
          rw [← ex, dep_is tree w0]
          rfl
      · rw [cn.pas y, take_par he]
        simp
    | some c =>
      obtain ⟨tt, hv, htt⟩ := r2
      rw [hv]
      obtain ⟨j, ns, hy, lt⟩ := rg.pt.st _ c.1 c.2 ks_i
      obtain ⟨py, wy⟩ := rg.way hy
      have wc := rg.child tree ks_i wy
      have htt6 := fr6 _ _ (fun z => by rw [z, npl] at htt; cases htt) (fun z => by rw [z, npp0] at htt; cases htt) (fun z => by rw [z, hq] at htt; cases htt) htt
      have yin : c.2 ∈ (ks.take i).map Prod.fst := by
        have hidx : (ks.map Prod.fst).idxOf xe = i := by
          have h2 : (ks.map Prod.fst)[i]? = some xe := by rw [List.getElem?_map, he]; rfl
          have l2 := get_lt h2
          rw [List.getElem?_eq_getElem l2] at h2
          have := List.Nodup.idxOf_getElem rg.df.nd i l2
          rw [Option.some.inj h2] at this
          exact this
        rw [List.map_take]
        have ly := List.idxOf_lt_length_iff.mpr hy
        have h3 : (ks.map Prod.fst)[(ks.map Prod.fst).idxOf c.2]? = some c.2 := by
          rw [List.getElem?_eq_getElem ly]
          exact congrArg some (List.getElem_idxOf ly)
        refine List.mem_of_getElem? (i := (ks.map Prod.fst).idxOf c.2) ?_
        rw [List.getElem?_take, if_pos (by omega)]
        exact h3
      have vy : valV (putK l1 (Sum.inl (xe : Int)) (.int 0)) (Sum.inl (c.2 : Int)) = some (.int (dep ds shut room c.2 : Int)) := by
        have ne : (Sum.inl (c.2 : Int) : Key) ≠ Sum.inl (xe : Int) := fun z => by
          have z := Sum.inl.inj z
          have : c.2 = xe := by omega
          exact nk (this ▸ yin)
        rw [valV_put, if_neg ne]
        exact cn.val _ yin
      refine ⟨_, rfl, rfl, _, rfl, iteT ?_⟩
      refine ⟨_, rfl, _, rfl, tt, _, _, _, rfl, rfl, SqT.of htt6, atI_nat (j := 1) rfl, pl, _, rfl, by rw [← vy]; exact DGet.k (k := Sum.inl (c.2 : Int)) h6l, _, _, rfl, rfl, _, rfl, _, rfl, pl, _, rfl, DPut.k (k := Sum.inl (xe : Int)) h6l (small1000 (by omega)), ?_⟩
      refine ⟨_, rfl, _, rfl, tt, _, _, _, rfl, rfl, SqT.of (by rw [upd_ne (fun z => by rw [z, h6l] at htt6; cases htt6)]; exact htt6), atI_nat (j := 1) rfl, pp, _, rfl, DPut.k (k := Sum.inl (c.2 : Int)) (by rw [upd_ne ne1.symm]; exact h6p) (small1000 (by omega)), ?_⟩
      have lp2 := putlen l2 (Sum.inl (c.2 : Int)) (.bl true)
      refine ⟨_, _, _, _, _, rfl, fun b o h1 h2 h3 z => by rw [upd_ne h2, upd_ne h1]; exact fr6 b o h1 h2 h3 z, by rw [upd_ne nq2, upd_ne nq1]; exact h6q, by rw [upd_ne ne1, upd_same], upd_same, ⟨?_, fun x hx => ?_, fun y => ?_, by omega⟩⟩
      · have z := keys_old (kvs := putK l1 (Sum.inl (xe : Int)) (.int 0)) (k := Sum.inl (xe : Int)) (v := .int ((dep ds shut room c.2 : Int) + 1)) (by
          rw [k6]
          exact inl_mem.mpr (by rw [take_keys he]; simp))
        exact z.trans k6
      · rw [valV_put]
        rw [take_keys he] at hx
        rcases List.mem_append.mp hx with hx | hx
        · have ne : (Sum.inl (x : Int) : Key) ≠ Sum.inl (xe : Int) := fun z => by
            have z := Sum.inl.inj z
            have : x = xe := by omega
            exact nk (this ▸ hx)
          rw [if_neg ne, valV_put, if_neg ne]
          exact cn.val x hx
        · rw [List.mem_singleton] at hx
          have hx : x = xe := hx
          subst hx
          rw [if_pos rfl, dep_is tree wc, dep_is tree wy, List.length_append]
          rfl
      · rw [valV_put, take_par he]
        by_cases ey : (Sum.inl (y : Int) : Key) = Sum.inl (c.2 : Int)
        · have z := Sum.inl.inj ey
          have : y = c.2 := by omega
          subst this
          rw [if_pos rfl]
          simp
        · rw [if_neg ey, cn.pas y]
          have : y ≠ c.2 := fun z => ey (by rw [z])
          simp [this]
  · rintro σ H3 ⟨l1, l2, y3, y4, y5, rfl, fr, h3q, h3l, h3p, cn⟩
    refine ⟨h3q, ?_⟩
    rw [kl] at cn
    have s4l : (upd H3 q0 (.dK kvs)) pl = some (.dK l1) := by rw [upd_ne nq1.symm]; exact h3l
    have s4p : (upd H3 q0 (.dK kvs)) pp = some (.dK l2) := by rw [upd_ne nq2.symm]; exact h3p
    have s4 : Same H (upd H3 q0 (.dK kvs)) := fun b o z => by
      by_cases c : b = q0
      · subst c
        rw [upd_same, ← hq]
        exact z
      · rw [upd_ne c]
        exact fr b o (ne_of_none z npl) (ne_of_none z npp0) c z
    generalize upd H3 q0 (.dK kvs) = H4 at s4 s4l s4p
    refine ⟨pl, _, s4l, trivial, fun od2 => ?_⟩
    have L1 : l1.map (fun kv : Key × V => kv.1) = ((ks.map Prod.fst).map fun y : Nat => (y : Int)).map Sum.inl := by
      have z := cn.keys
      rw [List.take_length] at z
      exact z
    have l1l : l1.length = ks.length := by
      have z := congrArg List.length L1
      simpa using z
    have hpL : (upd H4 pl (.frz od2 (.dK l1))) pp = some (.dK l2) := by rw [upd_ne ne1.symm]; exact s4p
    have hlL : (upd H4 pl (.frz od2 (.dK l1))) pl = some (.frz od2 (.dK l1)) := upd_same
    have frL : ∀ b o, b ≠ pl → H4 b = some o → (upd H4 pl (.frz od2 (.dK l1))) b = some o := fun b o c z => by rw [upd_ne c]; exact z
    refine ⟨_, rfl, pl, od2, rfl, .inl ⟨l1, hlL, fun pe npe => ?_⟩⟩
    have nep : pe ≠ pl := (ne_of_none hlL npe).symm
    have npe4 : H4 pe = none := by
      cases z : H4 pe with
      | none => rfl
      | some o => rw [frL pe o nep z] at npe; cases npe
    have npe0 := s4.free npe4
    refine lc_it (walk_keys (d := pl) (o := od2) (kvs := l1)) (fun i H5 => (∀ b o, b ≠ pe → (upd H4 pl (.frz od2 (.dK l1))) b = some o → H5 b = some o) ∧ H5 pe = some (.lst (nv ((((ks.take i).map Prod.fst).filter fun x => decide (x ∉ par ks)).map (dep ds shut room)))))
      ⟨fun b o c z => by rw [upd_ne c]; exact z, upd_same⟩ (fun i H5 _ h => h.1 _ _ nep.symm hlL) ?_ ?_
    · rintro i x H5 H6 hi ⟨fr5, he5⟩ ⟨rfl, k, v, hkv, rfl⟩
      obtain ⟨e, he⟩ : ∃ e, ks[i]? = some e := get_of rfl (by rw [← l1l]; exact hi)
      have hk : k = Sum.inl (e.1 : Int) := by
        have z : (l1.map (fun kv : Key × V => kv.1))[i]? = some k := by rw [List.getElem?_map, hkv]; rfl
        rw [L1, List.getElem?_map, List.getElem?_map, List.getElem?_map, he] at z
        exact (Option.some.inj z).symm
      subst hk
      have h5p := fr5 _ _ (fun z => by rw [z, npe] at hpL; cases hpL) hpL
      have h5l := fr5 _ _ nep.symm hlL
      have pas := cn.pas e.1
      rw [List.take_length] at pas
      have hkey : e.1 ∈ ks.map Prod.fst := List.mem_map.mpr ⟨_, List.mem_of_getElem? he, rfl⟩
      have vx := cn.val e.1 (by rw [List.take_length]; exact hkey)
      refine ⟨rfl, _, rfl, _, rfl, pp, _, rfl, DGet.k (k := Sum.inl (e.1 : Int)) h5p, _, rfl, ?_⟩
      rw [pas]
      by_cases c : e.1 ∈ par ks
      · rw [decide_eq_true c]
        refine iteF ⟨fr5, ?_⟩
        rw [he5, take_keys he, List.filter_append]
        simp [c]
      · rw [decide_eq_false c]
        refine iteT ⟨_, rfl, _, rfl, pl, .int (dep ds shut room e.1 : Int), rfl, .inl ⟨l1, Sum.inl (e.1 : Int), .inr ⟨od2, h5l⟩, rfl, vx.symm⟩, _, he5, ?_, fun b o d z => by rw [upd_ne d]; exact fr5 b o d z, ?_⟩
        · rw [nv_len, List.length_map]
          have h1 := List.length_filter_le (fun x => decide (x ∉ par ks)) ((ks.take i).map Prod.fst)
          rw [List.length_map, List.length_take] at h1
          exact small1000 (by omega)
        · rw [upd_same, take_keys he, List.filter_append, List.map_append]
          have e1 : [e.1].filter (fun x => decide (x ∉ par ks)) = [e.1] := by simp [c]
          rw [e1]
          show some (HO.lst (_ ++ [V.int _])) = some (HO.lst (nv (_ ++ [dep ds shut room e.1])))
          rw [nv_snoc]
    · rintro H5 ⟨fr5, he5⟩
      rw [l1l, List.take_length] at he5
      refine ⟨fr5 _ _ nep.symm hlL, ?_⟩
      have sF : Same H (upd H5 pl (.dK l1)) := fun b o z => by
        have c1 := ne_of_none z npl
        have c2 := ne_of_none z npe0
        rw [upd_ne c1]
        exact fr5 b o c2 (frL b o c1 (s4 b o z))
      have heF : (upd H5 pl (.dK l1)) pe = some (.lst (nv (((ks.map Prod.fst).filter fun x => decide (x ∉ par ks)).map (dep ds shut room)))) := by rw [upd_ne nep]; exact he5
      generalize upd H5 pl (.dK l1) = H6 at sF heF
      have mem : ∀ k, k ∈ (((ks.map Prod.fst).filter fun x => decide (x ∉ par ks)).map (dep ds shut room)) ↔ EndAt ds shut room k := by
        intro k
        rw [rg.ends tree k, List.mem_map]
        constructor
        · rintro ⟨x, hx, rfl⟩
          obtain ⟨h1, h2⟩ := List.mem_filter.mp hx
          have h2 := of_decide_eq_true h2
          obtain ⟨p, wp⟩ := rg.way h1
          exact ⟨x, p, h1, fun z => h2 (mem_par.mpr z), wp, (dep_is tree wp).symm⟩
        · rintro ⟨x, p, h1, h2, wp, rfl⟩
          exact ⟨x, List.mem_filter.mpr ⟨h1, decide_eq_true fun z => h2 (mem_par.mp z)⟩, dep_is tree wp⟩
      have pos : 0 < (((ks.map Prod.fst).filter fun x => decide (x ∉ par ks)).map (dep ds shut room)).length := by
        obtain ⟨x, h1, h2⟩ := rg.has_leaf
        exact List.length_pos_of_mem (List.mem_map.mpr ⟨x, List.mem_filter.mpr ⟨h1, decide_eq_true h2⟩, rfl⟩)
      generalize (((ks.map Prod.fst).filter fun x => decide (x ∉ par ks)).map (dep ds shut room)) = E at heF mem pos
      rw [nv_int] at heF
      refine ⟨_, rfl, pe, E.map (fun x : Nat => (x : Int)), rfl, SqL.of heF, by rw [List.length_map]; exact pos, fun m1 a1 a2 => ⟨_, rfl, pe, E.map (fun x : Nat => (x : Int)), rfl, SqL.of heF, by rw [List.length_map]; exact pos, fun m2 b1 b2 => ⟨by show 2 ≤ sizeLine; decide, fun t nt => ?_⟩⟩⟩
      obtain ⟨lo, hlo, rfl⟩ := List.mem_map.mp a1
      obtain ⟨hi, hhi, rfl⟩ := List.mem_map.mp b1
      refine q _ t lo hi (sF.trans (Same.upd nt)) (sF.free nt) upd_same ⟨(mem lo).mp hlo, (mem hi).mp hhi, fun k hk => ?_⟩
      have hk := (mem k).mpr hk
      have z1 := a2 (k : Int) (List.mem_map.mpr ⟨k, hk, rfl⟩)
      have z2 := b2 (k : Int) (List.mem_map.mpr ⟨k, hk, rfl⟩)
      omega
end
end K5

namespace K5
open PySem PySem.Spec PyProof.Rows L2
/-- the fewest and the most steps of each person -/
def Lens (ds : List (Nat × Nat)) (S : S2) (k : Nat) (l : List (Nat × Nat)) : Prop := l.length = k ∧ ∀ (p : Nat) (e : Nat × Nat), l[p]? = some e → MinMax (EndAt ds (barr S p) (S.1.getD p 0)) e.1 e.2
theorem Lens.unique {ds S k l l'} (a : Lens ds S k l) (b : Lens ds S k l') : l = l' := by
  apply List.ext_getElem?
  intro i
  by_cases h : i < k
  · obtain ⟨e, he⟩ : ∃ e, l[i]? = some e := get_of a.1 h
    obtain ⟨e', he'⟩ : ∃ e, l'[i]? = some e := get_of b.1 h
    obtain ⟨h1, h2⟩ := (a.2 i e he).unique (b.2 i e' he')
    rw [he, he']
    congr 1
    exact Prod.ext h1 h2
  · rw [List.getElem?_eq_none (by have := a.1; omega), List.getElem?_eq_none (by have := b.1; omega)]
def spLens (K : PySem.W.Frag) : Sp := fun vs H Q _ => ∃ (a s : Addr) (n : Nat) (ds : List (Nat × Nat)) (S : S2), vs = [.ref a, .ref s] ∧ HouseAt K H a ds ∧ Tree n ds ∧ n ≤ 60 ∧ StateAt K H s S ∧ StOk n ds S ∧
  ∀ (Ls : List (List Nat)), Regs n ds S S.1.length Ls → ((¬ Ls.flatten.Nodup → ∀ H', Same H H' → Q .non H') ∧ (Ls.flatten.Nodup → ∀ (H' : Hp) (q : Addr) (l : List (Nat × Nat)), Same H H' → H q = none → PairsAt H' q l → Lens ds S S.1.length l → Q (.ref q) H'))
section
variable {P : Program} {w : World} {K : PySem.W.Frag}
      {mg : Str → Option Value} {base : Heap}
theorem ok_walk_lengths (T : Bl mg) (D : Def K mg "walk_lengths" s_walk_lengths) (C_is_apart : Cal P w K mg base "is_apart" ["house", "state"] 8 (spApart K)) (C_fewest_and_most : Cal P w K mg base "fewest_and_most" ["ways"] 1 (spFew K)) (C_region_ways : Cal P w K mg base "region_ways" ["house", "state", "person"] 3 (spRegWays K)) :
    CalK P w K mg base "walk_lengths" ["house", "state"] 9 (spLens K) ["state", "house"] rev2 rev2 := by
  refine D.okK sc_walk_lengths (fun _ _ _ _ _ _ us ws hl => match us, ws, hl with | [], [_, _], _ => rfl) rev2_vals (fun _ _ _ _ _ _ us hl => match us, hl with | [_, _], _ => rfl) (fun vs H Q E h => ?_) (fun f cdv A outer s H vs Q E hr h => ?_)
  · obtain ⟨a, s, n, ds, S, rfl, _⟩ := h
    rfl
  obtain ⟨a, s, n, ds, S, rfl, hH, tree, hn, st, ok, q⟩ := h
  obtain ⟨r, b, h1, h2, h3⟩ := id st
  have few := ok.few
  obtain ⟨f_is_apart, fd_is_apart, g_is_apart, k_is_apart, b_is_apart, G_is_apart⟩ := C_is_apart
  obtain ⟨f_fewest_and_most, fd_fewest_and_most, g_fewest_and_most, k_fewest_and_most, b_fewest_and_most, G_fewest_and_most⟩ := C_fewest_and_most
  obtain ⟨f_region_ways, fd_region_ways, g_region_ways, k_region_ways, b_region_ways, G_region_ways⟩ := C_region_ways
  refine ⟨_, (pss_cons (ps_if (pt_not (pt_val (pe_call G_is_apart (hr.mono (by decide)) (by rfl) g_is_apart k_is_apart b_is_apart .nil pass0 (pa_cons (pv 0) (pa_cons (pv 1) pa_nil))))) (pss_one (ps_ret pe_non)) pss_nil)
    (pss_one (ps_ret (pe_lc (own := [("person", 2)]) (g := gName 2)  rfl sc_walk_lengths.nd (pi_range1 rfl T.range (pa_cons (pe_callB call_len_seq (by rfl) T.len PySem.boot_len (pa_cons (pe_ix ix_tup (pv 1) pe_int (fun _ _ => rfl)) pa_nil)) pa_nil)) (blkOk_by (N := N_walk_lengths) (sc := defScope s_walk_lengths) (own := [("person", 2)]) (by decide +kernel)) (fun _ _ _ _ _ => (pg_name (i := 2) sc_walk_lengths.nd rfl (.inl rfl) (.inr rfl))) (fun _ _ _ _ _ => pts_nil) (fun _ _ _ _ _ => (pe_call G_fewest_and_most (hr.mono (by decide)) (by rfl) g_fewest_and_most k_fewest_and_most b_fewest_and_most .nil pass0 (pa_cons (pe_call G_region_ways (hr.mono (by decide)) (by rfl) g_region_ways k_region_ways b_region_ways .nil pass0 (pa_cons (pv 0) (pa_cons (pv 1) (pa_cons (pv 2) pa_nil)))) pa_nil))))))), ?_⟩
  refine ⟨_, rfl, _, rfl, a, s, n, ds, S, rfl, hH, tree, hn, st, ok, fun H1 Ls s1 rg => ?_⟩
  obtain ⟨qn, qy⟩ := q Ls rg
  by_cases c : Ls.flatten.Nodup
  · rw [decide_eq_true c]
    refine ⟨_, rfl, iteF ?_⟩
    refine ⟨_, rfl, s, _, _, _, rfl, rfl, s1.tup h1, atI_nat (j := 0) rfl, _, _, rfl, .inr (s1.tup h2), (S.1.length : Int), congrArg (fun z : Nat => [V.int (z : Int)]) (nv_len _), by omega, by omega, fun pd npd => ?_⟩
    refine lc_range (lo := 0) (n := S.1.length) (fun i H2 => ∃ l, Same H1 H2 ∧ PairsAt H2 pd l ∧ Lens ds S i l) ?_ ?_ ?_
    · exact ⟨[], Same.upd npd, ⟨[], upd_same, rfl, fun i t e h => by simp at h⟩, rfl, fun p e h => by simp at h⟩
    · rintro i H2 hi ⟨l, sm, pa, ln⟩
      rw [Int.zero_add]
      refine ⟨rfl, lcYes ?_⟩
      have s12 := s1.trans sm
      refine ⟨_, rfl, _, rfl, _, rfl, a, s, i, n, ds, S, rfl, hH.same s12, tree, by omega, st.same s12, ok, hi, fun H3 q3 kvs ks s3 nq3 hq3 r3 rg3 => ?_⟩
      refine ⟨q3, n, S.1.getD i 0, ds, barr S i, kvs, ks, rfl, hq3, r3, tree, rg3, hn, fun H4 t lo hi' s4 nt ht mm => ?_⟩
      obtain ⟨ts, f1, f2, f3⟩ := (pa.same s3).same s4
      refine ⟨_, f1, by rw [List.length_map, f2, ln.1]; exact small1000 (by omega), l ++ [(lo, hi')], ((sm.trans s3).trans s4).at npd, .push (ts := ts) f1 f2 f3 (fun b o ne e => by rw [upd_ne ne]; exact e) upd_same (by rw [upd_ne (ne_lt f1 ht)]; exact ht), ?_⟩
      refine ⟨by rw [List.length_append, ln.1]; rfl, fun p e he => ?_⟩
      by_cases d : p < l.length
      · rw [List.getElem?_append_left d] at he
        exact ln.2 p e he
      · have hlt := get_lt he
        rw [List.length_append, List.length_singleton] at hlt
        have ep : p = i := by have := ln.1; omega
        subst ep
        rw [List.getElem?_append_right (by rw [ln.1]; exact Nat.le_refl _), ln.1, Nat.sub_self] at he
        cases he
        exact mm
    · rintro H2 ⟨l, sm, pa, ln⟩
      exact qy c H2 pd l (s1.trans sm) (s1.free npd) pa ln
  · rw [decide_eq_false c]
    exact ⟨_, rfl, iteT (qn c H1 s1)⟩
end
end K5

namespace K5
open PySem PySem.Spec PyProof.Rows L2
theorem ex_memA {ds : List (Nat × Nat)} {ex : Nat → List (Nat × Nat)} {k : Nat} {e : Nat × Nat} (he : ds[k]? = some e) (ne : e.1 ≠ e.2) (mem : ∀ x d y, (y, d) ∈ ex x ↔ d < k ∧ Joins ds d x y) (x d y : Nat) :
    (y, d) ∈ (if x = e.2 then (if x = e.1 then ex x ++ [(e.2, k)] else ex x) ++ [(e.1, k)] else if x = e.1 then ex x ++ [(e.2, k)] else ex x) ↔ d < k + 1 ∧ Joins ds d x y := by
  have J : Joins ds k x y ↔ (x = e.1 ∧ y = e.2) ∨ (x = e.2 ∧ y = e.1) := by
    unfold Joins
    rw [he]
    constructor
    · rintro (h | h)
      · have h := Option.some.inj h
        exact .inl ⟨by rw [h], by rw [h]⟩
      · have h := Option.some.inj h
        exact .inr ⟨by rw [h], by rw [h]⟩
    · rintro (⟨rfl, rfl⟩ | ⟨rfl, rfl⟩)
      · exact .inl rfl
      · exact .inr rfl
  have step : (d < k + 1 ∧ Joins ds d x y) ↔ (d < k ∧ Joins ds d x y) ∨ (d = k ∧ ((x = e.1 ∧ y = e.2) ∨ (x = e.2 ∧ y = e.1))) := by
    constructor
    · rintro ⟨h1, h2⟩
      by_cases q : d = k
      · subst q
        exact .inr ⟨rfl, J.mp h2⟩
      · exact .inl ⟨by omega, h2⟩
    · rintro (⟨h1, h2⟩ | ⟨rfl, h2⟩)
      · exact ⟨by omega, h2⟩
      · exact ⟨by omega, J.mpr h2⟩
  rw [step, ← mem x d y]
  by_cases h2 : x = e.2
  · have h1 : ¬ x = e.1 := fun z => ne (z.symm.trans h2)
    rw [if_pos h2, if_neg h1, List.mem_append, List.mem_singleton, Prod.mk.injEq]
    simp [h1, h2, ne.symm, and_comm]
  · rw [if_neg h2]
    by_cases h1 : x = e.1
    · rw [if_pos h1, List.mem_append, List.mem_singleton, Prod.mk.injEq]
      simp [h1, ne, and_comm]
    · rw [if_neg h1]
      simp [h1, h2]
def spAround (K : PySem.W.Frag) : Sp := fun vs H Q _ => ∃ (a : Addr) (ds : List (Nat × Nat)) (n : Nat), vs = [.ref a] ∧ HouseAt K H a ds ∧ Tree n ds ∧ n ≤ 1000 ∧
  ∀ (H' : Hp) (p : Addr) (ps : List Addr) (ex : Nat → List (Nat × Nat)), Same H H' → H p = none → H' p = some (.lst (ps.map V.ref)) → ps.length = n → Rows H' ps ex → (∀ x d y, (y, d) ∈ ex x ↔ Joins ds d x y) → (∀ x, (ex x).Nodup) → (∀ x ∈ ps, H x = none) → Q (.ref p) H'
section
variable {P : Program} {w : World} {K : PySem.W.Frag}
      {mg : Str → Option Value} {base : Heap}
theorem ok_around (T : Bl mg) (D : Def K mg "_law_around" s_l_around) : Cal P w K mg base "_law_around" ["_law_layout"] 1 (spAround K) := by
  refine D.ok sc_l_around (fun _ _ _ _ _ _ us hl => match us, hl with | [_], _ => rfl) (fun vs H Q E h => ?_) (fun f cdv A outer s H vs Q E hr h => ?_)
  · obtain ⟨a, ds, n, rfl, _⟩ := h
    rfl
  obtain ⟨a, ds, n, rfl, hH, tree, hn, q⟩ := h
  obtain ⟨rs, hrs, hlen, hds⟩ := id hH
  have hdn := tree.len
  refine ⟨_, (pss_cons (ps_setLc (i := 1) (own := [("_law_spot", 2)]) (g := gName 2)  rfl sc_l_around.nd rfl rfl (sw_true rfl rfl rfl (by decide +kernel)) (pi_range1 rfl T.range (pa_cons (pe_op op_add (pe_callB call_len_seq (by rfl) T.len PySem.boot_len (pa_cons (pv 0) pa_nil)) pe_int) pa_nil)) (blkOk_by (N := N_l_around) (sc := defScope s_l_around) (own := [("_law_spot", 2)]) (by decide +kernel)) (fun _ _ _ _ _ => (pg_name (i := 2) sc_l_around.nd rfl (.inl rfl) (.inr rfl))) (fun _ _ _ _ _ => pts_nil) (fun _ _ _ _ _ => (pe_lst pa_nil)))
    (pss_cons (ps_for PassesOwn.never rfl (pi_enumT (by rfl) T.enumerate (pa_cons (pv 0) pa_nil)) (pg_tup (n := 2) rfl (pgs_cons (pg_name (i := 3) sc_l_around.nd rfl (.inl rfl)) (pgs_cons (pg_tup (n := 2) rfl (pgs_cons (pg_name (i := 4) sc_l_around.nd rfl (.inl rfl)) (pgs_cons (pg_name (i := 5) sc_l_around.nd rfl (.inl rfl)) pgs_nil))) pgs_nil)))
    (pss_cons (ps_expr (pe_bm PySem.F.plainAttrs_list PySem.F.slot_list_append PySem.F.type_list_append mt_append (pe_ix ix_list (pv 1) (pv 4) (fun _ _ => rfl)) (pa_cons (pe_tup (pa_cons (pv 5) (pa_cons (pv 3) pa_nil))) pa_nil)))
    (pss_one (ps_expr (pe_bm PySem.F.plainAttrs_list PySem.F.slot_list_append PySem.F.type_list_append mt_append (pe_ix ix_list (pv 1) (pv 5) (fun _ _ => rfl)) (pa_cons (pe_tup (pa_cons (pv 4) (pa_cons (pv 3) pa_nil))) pa_nil))))))
    (pss_one (ps_ret (pv 1))))), ?_⟩
  have en : (((rs.map V.ref).length : Nat) : Int) + 1 = ((n : Nat) : Int) := by
    rw [List.length_map, hlen]
    omega
  refine ⟨_, rfl, _, _, rfl, .inr hrs, _, _, rfl, rfl, (n : Int), congrArg (fun z => [V.int z]) en, by omega, by omega, fun p np => ?_⟩
  refine lc_range (lo := 0) (n := n) (fun i H1 => ∃ ps : List Addr, Same H H1 ∧ H1 p = some (.lst (ps.map V.ref)) ∧ ps.length = i ∧ ps.Nodup ∧ ∀ x ∈ ps, H x = none ∧ H1 x = some (.lst [])) ?_ ?_ ?_
  · exact ⟨[], Same.upd np, upd_same, rfl, List.nodup_nil, fun _ h => nomatch h⟩
  · rintro i H1 hi ⟨ps, sm, hp, hl, nd, hx⟩
    refine ⟨rfl, lcYes ?_⟩
    refine ⟨Nat.zero_le _, fun x nx => ?_⟩
    have npx : p ≠ x := ne_of_none hp nx
    have xps : x ∉ ps := fun m => by
      rw [(hx x m).2] at nx
      cases nx
    have pps : p ∉ ps := fun m => by
      have h1 := (hx p m).2
      rw [hp] at h1
      cases ps with
      | nil => cases m
      | cons a r => cases h1
    refine ⟨ps.map V.ref, by rw [upd_ne npx]; exact hp, ?_, ps ++ [x], (sm.trans (Same.upd nx)).at np, ?_, by simp [hl], ?_, fun z m => ?_⟩
    · rw [List.length_map]
      exact small1000 (by omega)
    · rw [upd_same, List.map_append]
      rfl
    · exact nd_snoc nd xps
    · rcases List.mem_append.mp m with m | m
      · have ne1 : z ≠ p := fun e => pps (e ▸ m)
        have ne2 : z ≠ x := fun e => xps (e ▸ m)
        rw [upd_ne ne1, upd_ne ne2]
        exact hx z m
      · rw [List.mem_singleton.mp m, upd_ne npx.symm, upd_same]
        exact ⟨sm.free nx, rfl⟩
  · rintro H1 ⟨ps, sm, hp, hl, nd, hx⟩
    have pps : p ∉ ps := fun m => by
      have h1 := (hx p m).2
      rw [hp] at h1
      cases ps with
      | nil => cases m
      | cons a r => cases h1
    refine ⟨_, rfl, a, _, rfl, sm.tup hrs, ?_⟩
    refine for_it (walk_enumT (K := K) (a := a) (xs := rs.map V.ref)) (fun k σ H2 => ∃ ex y2 y3 y4 y5, σ = [some (.ref a), some (.ref p), y2, y3, y4, y5] ∧ Same H H2 ∧ H2 p = some (.lst (ps.map V.ref)) ∧ Rows H2 ps ex ∧
        (∀ x d y, (y, d) ∈ ex x ↔ d < k ∧ Joins ds d x y) ∧ (∀ x, (ex x).length ≤ 2 * k) ∧ ∀ x, (ex x).Nodup)
      ⟨fun _ => [], _, _, _, _, rfl, sm, hp, fun x q e => ⟨[], (hx q (List.mem_of_getElem? e)).2, rfl, fun i t e h => by simp at h⟩, fun x d y => by simp, fun x => Nat.zero_le _, fun x => List.nodup_nil⟩
      (fun i σ H1 _ ⟨_, _, _, _, _, _, sm, _⟩ => sm.tup hrs) ?_ ?_
    · rintro k x σ H2 H3 hk ⟨ex, y2, y3, y4, y5, rfl, sm2, hp2, ro, mem, le, nod⟩ ⟨t, x1, x2, rfl, nt, rfl, ex1, ex2⟩
      cases ex1
      have hk' : k < ds.length := by
        rw [List.length_map, hlen] at hk
        exact hk
      obtain ⟨e, he⟩ : ∃ e, ds[k]? = some e := get_of rfl hk'
      obtain ⟨r, hr0⟩ : ∃ r, rs[k]? = some r := get_of hlen hk'
      have ex2' : V.ref r = x2 := by
        have ex2 : (rs.map V.ref)[k]? = some x2 := ex2
        rw [List.getElem?_map, hr0] at ex2
        exact Option.some.inj ex2
      subst ex2'
      have elt := tree.lt e (List.mem_of_getElem? he)
      obtain ⟨side, s1, s2⟩ := tree.side
      have ene : e.1 ≠ e.2 := fun z => s1 k e he (by rw [z])
      have smt : Same H2 (upd H2 t (.tup [.int (k : Nat), .ref r])) := Same.upd nt
      have sm3 := sm2.trans smt
      have hp3 := smt _ _ hp2
      have ro3 := ro.same smt
      refine ⟨t, _, rfl, SqT.of upd_same, rfl, _, _, rfl, _, _, rfl, ⟨r, _, rfl, sm3.tup (hds k r e hr0 he), rfl, _, _, rfl, _, _, rfl, rfl, rfl, ?_⟩⟩
      generalize upd H2 t (.tup [.int (k : Nat), .ref r]) = H4 at sm3 hp3 ro3 smt
      obtain ⟨q1, hq1⟩ := get_of hl elt.1
      obtain ⟨q2, hq2⟩ := get_of hl elt.2
      obtain ⟨ts1, g1, g2, g3⟩ := ro3 _ _ hq1
      refine ⟨_, rfl, _, rfl, _, _, _, V.ref q1, rfl, rfl, SqL.of hp3, atI_nat (v := V.ref q1) (by rw [List.getElem?_map, hq1]; rfl), .inl ⟨rfl, _, SqL.of g1⟩, _, rfl, _, rfl, by show 2 ≤ sizeLine; decide, fun t1 nt1 => ?_⟩
      refine ⟨q1, _, _, rfl, rfl, by rw [upd_ne (ne_of_none g1 nt1)]; exact g1, by rw [List.length_map, g2]; exact small3k (by have := le e.1; omega), ?_⟩
      have ro4 := ro3.push nd hq1 nt1 (d := e.2) (y := k) g1
      have nq1 : H q1 = none := (hx q1 (List.mem_of_getElem? hq1)).1
      have nq2 : H q2 = none := (hx q2 (List.mem_of_getElem? hq2)).1
      have pq1 : p ≠ q1 := fun z => pps (z ▸ List.mem_of_getElem? hq1)
      have pq2 : p ≠ q2 := fun z => pps (z ▸ List.mem_of_getElem? hq2)
      have sm4 : Same H (upd (upd H4 t1 (.tup [.int (e.2 : Nat), .int (k : Nat)])) q1 (.lst (ts1.map V.ref ++ [V.ref t1]))) := (sm3.trans (Same.upd nt1)).at nq1
      have hp4 : (upd (upd H4 t1 (.tup [.int (e.2 : Nat), .int (k : Nat)])) q1 (.lst (ts1.map V.ref ++ [V.ref t1]))) p = some (.lst (ps.map V.ref)) := by
        rw [upd_ne pq1, upd_ne (ne_of_none hp3 nt1)]
        exact hp3
      generalize (upd (upd H4 t1 (.tup [.int (e.2 : Nat), .int (k : Nat)])) q1 (.lst (ts1.map V.ref ++ [V.ref t1]))) = H5 at ro4 sm4 hp4
      obtain ⟨ts2, f1, f2, f3⟩ := ro4 _ _ hq2
      have f2' : ts2.length = (ex e.2).length := by
        rw [f2]
        simp only [if_neg ene.symm]
      refine ⟨_, rfl, _, rfl, _, _, _, V.ref q2, rfl, rfl, SqL.of hp4, atI_nat (v := V.ref q2) (by rw [List.getElem?_map, hq2]; rfl), .inl ⟨rfl, _, SqL.of f1⟩, _, rfl, _, rfl, by show 2 ≤ sizeLine; decide, fun t2 nt2 => ?_⟩
      refine ⟨q2, _, _, rfl, rfl, by rw [upd_ne (ne_of_none f1 nt2)]; exact f1, by rw [List.length_map, f2']; exact small3k (by have := le e.2; omega), ?_⟩
      refine ⟨_, _, _, _, _, rfl, (sm4.trans (Same.upd nt2)).at nq2, by rw [upd_ne pq2, upd_ne (ne_of_none hp4 nt2)]; exact hp4, ro4.push nd hq2 nt2 (d := e.1) (y := k) f1, fun x d y => ?_, fun x => ?_, fun x => ?_⟩
      · exact ex_memA he ene mem x d y
      · have := le x
        by_cases e2 : x = e.2
        · simp only [e2, if_true, if_neg ene.symm]
          have := le e.2
          simp; omega
        · by_cases e1 : x = e.1
          · simp only [e1, if_true, if_neg ene]
            have := le e.1
            simp; omega
          · simp only [if_neg e1, if_neg e2]
            omega
      · have nk : ∀ y, (y, k) ∉ ex x := fun y z => by
          have := ((mem x k y).mp z).1
          omega
        have sn : ∀ y, (ex x ++ [(y, k)]).Nodup := fun y => nd_snoc (nod x) (nk y)
        by_cases e2 : x = e.2
        · have e1 : ¬ x = e.1 := fun z => ene (z.symm.trans e2)
          simp only [if_pos e2, if_neg e1]
          exact sn _
        · simp only [if_neg e2]
          by_cases e1 : x = e.1
          · simp only [if_pos e1]
            exact sn _
          · simp only [if_neg e1]
            exact nod x
    · rintro σ H2 ⟨ex, y2, y3, y4, y5, rfl, sm2, hp2, ro, mem, le, nod⟩
      refine ⟨_, rfl, q H2 p ps ex sm2 np hp2 hl ro (fun x d y => ?_) nod fun x m => (hx x m).1⟩
      rw [mem x d y]
      refine ⟨fun h => h.2, fun h => ⟨?_, h⟩⟩
      rw [List.length_map, hlen]
      rcases h with h | h
      · exact get_lt h
      · exact get_lt h
end
end K5

namespace K5
open PySem PySem.Spec PyProof.Rows L2
theorem Dfs.front {n ds shut kl ws here} (h : Dfs n ds shut kl (here :: ws)) : DfsIn n ds shut kl ws here [] :=
  ⟨h.nd, h.lt, fun x m => h.sub x (List.mem_cons_of_mem _ m), fun x m nw ne d y j ns => h.cl x m (fun q => by
    rcases List.mem_cons.mp q with q | q
    · exact ne q
    · exact nw q) d y j ns, h.sub here List.mem_cons_self, fun d y m => nomatch m⟩
/-- the rooms that can be reached -/
structure RegSet (ds : List (Nat × Nat)) (shut : List Nat) (room : Nat) (L : List Nat) : Prop where
  nd : L.Nodup
  mem : ∀ x, x ∈ L ↔ ∃ p, Walk ds room p x ∧ ∀ d ∈ p, d ∉ shut
theorem Reg.set {n ds shut room ks} (h : Reg n ds shut room ks) : RegSet ds shut room (ks.map Prod.fst) := ⟨h.df.nd, h.mem⟩
theorem RegSet.perm {ds shut room L M} (a : RegSet ds shut room L) (b : RegSet ds shut room M) : L.Perm M := nodup_perm a.nd b.nd fun x => (a.mem x).trans (b.mem x).symm
theorem RegSet.of_perm {ds shut room L M} (a : RegSet ds shut room L) (p : M.Perm L) : RegSet ds shut room M := ⟨p.nodup_iff.mpr a.nd, fun x => p.mem_iff.trans (a.mem x)⟩
theorem le_unique : ∀ (l m : List Nat), l.Perm m → l.Pairwise (· ≤ ·) → m.Pairwise (· ≤ ·) → l = m
  | [], m, p, _, _ => p.symm.eq_nil.symm
  | a :: r, [], p, _, _ => by have := p.eq_nil; cases this
  | a :: r, b :: s, p, h1, h2 => by
    obtain ⟨h1a, h1b⟩ := List.pairwise_cons.mp h1
    obtain ⟨h2a, h2b⟩ := List.pairwise_cons.mp h2
    have e : a = b := by
      rcases List.mem_cons.mp (p.mem_iff.mp List.mem_cons_self) with e | q
      · exact e
      · rcases List.mem_cons.mp (p.symm.mem_iff.mp List.mem_cons_self) with e | q2
        · exact e.symm
        · have := h1a b q2
          have := h2a a q
          omega
    subst e
    rw [le_unique r s ((List.perm_cons a).mp p) h1b h2b]
def spRegL (K : PySem.W.Frag) : Sp := fun vs H Q _ => ∃ (a s : Addr) (p n : Nat) (ds : List (Nat × Nat)) (S : S2), vs = [.ref a, .ref s, .int (p : Int)] ∧ HouseAt K H a ds ∧ Tree n ds ∧ n ≤ 60 ∧ StateAt K H s S ∧ StOk n ds S ∧ p < S.1.length ∧
  ∀ (H' : Hp) (q : Addr) (L : List Nat), Same H H' → H q = none → H' q = some (.lst (nv L)) → RegSet ds (barr S p) (S.1.getD p 0) L → L.Pairwise (· ≤ ·) → Q (.ref q) H'
section
variable {P : Program} {w : World} {K : PySem.W.Frag}
      {mg : Str → Option Value} {base : Heap}
theorem inV_nv (x : Nat) (l : List Nat) : inV (.int (x : Int)) (nv l) = decide (x ∈ l) := by
  induction l with
  | nil => rfl
  | cons a r ih =>
    show (((a : Int) == (x : Int)) || inV (.int (x : Int)) (nv r)) = _
    rw [ih]
    by_cases h : x = a
    · subst h
      simp
    · have e1 : ((a : Int) == (x : Int)) = false := beq_eq_false_iff_ne.mpr (by omega)
      rw [e1]
      simp [h]
theorem flat_nv (l : List Nat) : (nv l).all flatV = true := by
  induction l with
  | nil => rfl
  | cons a r ih => exact ih
theorem _root_.L2.But.tupN {K : PySem.W.Frag} {H H' : Hp} {g a : Addr} {xs : List V} (e : But g H H') (ng : H g = none) (h : SqT K H a xs) : SqT K H' a xs := by
  rcases h with (z | ⟨o, z⟩) | z
  · exact .inl (.inl (e _ _ (ne_of_none z ng) z))
  · exact .inl (.inr ⟨o, e _ _ (ne_of_none z ng) z⟩)
  · exact .inr z
theorem ok_l_region (T : Bl mg) (D : Def K mg "_law_region" s_l_region) (C_l_around : Cal P w K mg base "_law_around" ["_law_layout"] 1 (spAround K)) : Cal P w K mg base "_law_region" ["_law_layout", "_law_situation", "_law_who"] 2 (spRegL K) := by
  refine D.ok sc_l_region (fun _ _ _ _ _ _ us hl => match us, hl with | [_, _, _], _ => rfl) (fun vs H Q E h => ?_) (fun f cdv A outer s H vs Q E hr h => ?_)
  · obtain ⟨a, s, p, n, ds, S, rfl, _⟩ := h
    rfl
  obtain ⟨a, s, p, n, ds, S, rfl, hH, tree, hn, st, ok, hp, q⟩ := h
  obtain ⟨r, b, h1, h2, h3⟩ := id st
  have hdn := tree.len
  obtain ⟨f_l_around, fd_l_around, g_l_around, k_l_around, b_l_around, G_l_around⟩ := C_l_around
  refine ⟨_, (pss_cons (ps_set (i := 3) sc_l_region.nd rfl (.inl rfl) (pe_call G_l_around (hr.mono (by decide)) (by rfl) g_l_around k_l_around b_l_around .nil pass0 (pa_cons (pv 0) pa_nil)))
    (pss_cons (ps_set (i := 4) sc_l_region.nd rfl (.inl rfl) (pe_lst (pa_cons (pe_ix ix_tup (pe_ix ix_tup (pv 1) pe_int (fun _ _ => rfl)) (pv 2) (fun _ _ => rfl)) pa_nil)))
    (pss_cons (ps_set (i := 5) sc_l_region.nd rfl (.inl rfl) pe_int)
    (pss_cons (ps_while PassesOwn.never (pt_cmpR op_lt (pv 5) (pe_callB call_len_seq (by rfl) T.len PySem.boot_len (pa_cons (pv 4) pa_nil)) (nomark _)) (pss_cons (ps_for PassesOwn.never rfl (pi_list (pe_ix ix_list (pv 3) (pe_ix ix_list (pv 4) (pv 5) (fun _ _ => rfl)) (fun _ _ => rfl))) (pg_tup (n := 2) rfl (pgs_cons (pg_name (i := 6) sc_l_region.nd rfl (.inl rfl)) (pgs_cons (pg_name (i := 7) sc_l_region.nd rfl (.inl rfl)) pgs_nil)))
    (pss_one (ps_if (PW.pt (pw_and (pt_cmpR op_notIn_seq (pv 6) (pv 4) (by rfl)) (pw_and1 (pt_cmpR op_ne (pe_ix ix_tup (pe_ix ix_tup (pv 1) pe_int (fun _ _ => rfl)) (pv 7) (fun _ _ => rfl)) (pv 2) (nomark _))))) (pss_one (ps_expr (pe_bm PySem.F.plainAttrs_list PySem.F.slot_list_append PySem.F.type_list_append mt_append (pv 4) (pa_cons (pv 6) pa_nil)))) pss_nil)))
    (pss_one (ps_set (i := 5) sc_l_region.nd rfl (.inl rfl) (pe_op op_add (pv 5) pe_int)))))
    (pss_one (ps_ret (pe_callB cr_sorted (by rfl) T.sorted (by decide +kernel) (pa_cons (pv 4) pa_nil)))))))), ?_⟩
  obtain ⟨v, hv⟩ : ∃ v, S.1[p]? = some v := get_of rfl hp
  have lv := ok.rooms v (List.mem_of_getElem? hv)
  refine ⟨_, rfl, a, ds, n, rfl, hH, tree, by omega, fun H1 px ps ex s1 npx hpx hpl ro mem nodx _ => ?_⟩
  refine ⟨_, rfl, s, _, _, _, rfl, rfl, s1.tup h1, atI_nat (j := 0) rfl, _, rfl, r, _, _, _, rfl, rfl, s1.tup h2, nv_at hv, by show 1 ≤ sizeLine; decide, fun pf npf => ?_⟩
  have s2 := s1.trans (Same.upd (o := .lst [.int (v : Int)]) npf)
  have npf0 := s1.free npf
  refine ⟨fun m σ H2 => ∃ (L : List Nat) (i : Nat) (y6 y7 : Option V), m = n - i ∧ σ = [some (.ref a), some (.ref s), some (.int (p : Int)), some (.ref px), some (.ref pf), some (.int (i : Int)), y6, y7] ∧ But pf H1 H2 ∧ H2 pf = some (.lst (nv L)) ∧ Dfs n ds (barr S p) L (L.drop i) ∧ (∀ x ∈ L, ∃ w, Walk ds v w x ∧ ∀ d ∈ w, d ∉ barr S p) ∧ v ∈ L ∧ i ≤ L.length,
    ⟨_, [v], 0, _, _, rfl, rfl, (Same.upd npf).but, upd_same, Dfs.start lv, fun x hx => (by rw [List.mem_singleton] at hx; subst hx; exact ⟨[], .nil _, fun d h => (List.not_mem_nil h).elim⟩), List.mem_singleton.mpr rfl, Nat.zero_le _⟩, fun m σ H2 hW => ?_⟩
  obtain ⟨L, i, y6, y7, rfl, rfl, bt, hL, df, rch, hvL, hi⟩ := hW
  have ln := df.le
  refine ⟨_, rfl, _, rfl, _, _, rfl, .inl (SqL.of hL), _, _, rfl, rfl, _, rfl, ite2 (fun c => ?_) (fun c => ?_)⟩
  · have c := of_decide_eq_true c
    rw [nv_len] at c
    have il : i < L.length := by omega
    obtain ⟨here, hh⟩ : ∃ here, L[i]? = some here := get_of rfl il
    have hin : here ∈ L := List.mem_of_getElem? hh
    have hlt := df.lt here hin
    refine ⟨fun σ' H' => ∃ (L' : List Nat) (y6 y7 : Option V), σ' = [some (.ref a), some (.ref s), some (.int (p : Int)), some (.ref px), some (.ref pf), some (.int ((i + 1 : Nat) : Int)), y6, y7] ∧ But pf H1 H' ∧ H' pf = some (.lst (nv L')) ∧ Dfs n ds (barr S p) L' (L'.drop (i + 1)) ∧ (∀ x ∈ L', ∃ w, Walk ds v w x ∧ ∀ d ∈ w, d ∉ barr S p) ∧ v ∈ L' ∧ i + 1 ≤ L'.length,
      fun σ' H' ⟨L', z6, z7, g1, g2⟩ => ⟨n - (i + 1), by omega, L', i + 1, z6, z7, rfl, g1, g2⟩, ?_⟩
    obtain ⟨qx, hqx⟩ := get_of hpl hlt
    obtain ⟨ts, g1, g2, g3⟩ := ro _ _ hqx
    have nqx : qx ≠ pf := ne_of_none g1 npf
    have npx' : px ≠ pf := ne_of_none hpx npf
    have dh : L.drop i = here :: L.drop (i + 1) := by
      rw [List.drop_eq_getElem_cons il]
      rw [List.getElem?_eq_getElem il] at hh
      rw [Option.some.inj hh]
    have di0 : DfsIn n ds (barr S p) L (L.drop (i + 1)) here [] := (dh ▸ df).front
    refine ⟨_, rfl, _, rfl, _, rfl, pf, _, _, _, rfl, rfl, SqL.of hL, nv_at hh, px, _, _, V.ref qx, rfl, rfl, SqL.of (bt _ _ npx' hpx), atI_nat (v := V.ref qx) (by rw [List.getElem?_map, hqx]; rfl), qx, rfl, ⟨_, SqL.of (bt _ _ nqx g1)⟩, ?_⟩
    refine for_it (walk_list (K := K) (a := qx) (xs := ts.map V.ref)) (fun j σ H3 => ∃ (L' : List Nat) (y6 y7 : Option V), σ = [some (.ref a), some (.ref s), some (.int (p : Int)), some (.ref px), some (.ref pf), some (.int (i : Int)), y6, y7] ∧ But pf H1 H3 ∧ H3 pf = some (.lst (nv L')) ∧
        DfsIn n ds (barr S p) L' (L'.drop (i + 1)) here (((ex here).take j).map fun e => (e.2, e.1)) ∧ (∀ x ∈ L', ∃ w, Walk ds v w x ∧ ∀ d ∈ w, d ∉ barr S p) ∧ v ∈ L' ∧ i + 1 ≤ L'.length)
      ⟨L, _, _, rfl, bt, hL, di0, rch, hvL, il⟩ (fun j σ H3 _ ⟨_, _, _, _, bt3, _⟩ => SqL.of (bt3 _ _ nqx g1)) ?_ ?_
    · rintro j x σ H3 H4 hj ⟨L', y6, y7, rfl, bt3, hL3, di, rch3, hv3, il3⟩ ⟨rfl, ex1⟩
      have hj' : j < (ex here).length := by
        rw [List.length_map, g2] at hj
        exact hj
      obtain ⟨t, ht⟩ : ∃ t, ts[j]? = some t := get_of g2 hj'
      obtain ⟨e, he⟩ : ∃ e, (ex here)[j]? = some e := get_of rfl hj'
      have ex1 : (ts.map V.ref)[j]? = some x := ex1
      rw [List.getElem?_map, ht] at ex1
      cases ex1
      have htup := bt3 _ _ (fun z => by have q1 := g3 j t e ht he; rw [z, npf] at q1; cases q1) (g3 j t e ht he)
      have ejoin : Joins ds e.2 here e.1 := (mem here e.2 e.1).mp (List.mem_of_getElem? he)
      have etake : ((ex here).take (j + 1)).map (fun e => (e.2, e.1)) = ((ex here).take j).map (fun e => (e.2, e.1)) ++ [(e.2, e.1)] := by
        rw [List.take_add_one, he, List.map_append]
        rfl
      have bt03 : But pf H H4 := s1.but.trans bt3
      have h1' : SqT K H4 s [.ref r, .ref b] := (bt3.tupN npf (s1.tup h1))
      have h3' : SqT K H4 b (nv S.2) := (bt3.tupN npf (s1.tup h3))
      obtain ⟨bk, hbk⟩ : ∃ bk, S.2[e.2]? = some bk := get_of ok.doors (joins_lt ejoin)
      refine ⟨t, _, rfl, SqT.of htup, rfl, _, _, rfl, _, _, rfl, rfl, ?_⟩
      refine ⟨_, rfl, _, rfl, pf, _, rfl, .inl (SqL.of hL3), rfl, flat_nv _, _, rfl, ?_⟩
      show if (!inV (V.int (e.1 : Int)) (nv L')) = true then _ else _
      rw [inV_nv]
      by_cases hy : e.1 ∈ L'
      · rw [decide_eq_true hy]
        exact iteF (iteF ⟨L', _, _, rfl, bt3, hL3, by rw [etake]; exact di.skip (.inr hy), rch3, hv3, il3⟩)
      · rw [decide_eq_false hy]
        refine iteT ⟨_, rfl, s, _, _, _, rfl, rfl, h1', atI_nat (j := 1) rfl, _, rfl, b, _, _, _, rfl, rfl, h3', nv_at hbk, _, rfl, rfl, _, rfl, ?_⟩
        by_cases cb : bk = p
        · rw [decide_eq_true (show V.int (bk : Int) = V.int (p : Int) by rw [cb])]
          exact iteF ⟨L', _, _, rfl, bt3, hL3, by rw [etake]; exact di.skip (.inl (mem_barr.mpr (by rw [hbk, cb]))), rch3, hv3, il3⟩
        · rw [decide_eq_false (show ¬ V.int (bk : Int) = V.int (p : Int) from fun z => cb (by have := V.int.inj z; omega))]
          have nsh : e.2 ∉ barr S p := fun z => by
            have z := mem_barr.mp z
            rw [hbk] at z
            exact cb (Option.some.inj z)
          have ely := (Joins.lt tree ejoin).2.1
          have di2 := di.add (d := e.2) ely hy
          have hle := di2.le
          rw [List.length_append, List.length_singleton] at hle
          refine iteT ⟨_, rfl, .inl ⟨rfl, _, SqL.of hL3⟩, _, rfl, pf, _, _, rfl, rfl, hL3, by rw [nv_len]; exact small1000 (by omega), ?_⟩
          refine ⟨L' ++ [e.1], _, _, rfl, bt3.upd _, by rw [upd_same, nv_snoc], ?_, fun x hx => ?_, List.mem_append.mpr (.inl hv3), by rw [List.length_append]; omega⟩
          · rw [etake, List.drop_append_of_le_length il3]
            exact di2
          · rcases List.mem_append.mp hx with hx | hx
            · exact rch3 x hx
            · rw [List.mem_singleton] at hx
              subst hx
              obtain ⟨w0, w1, w2⟩ := rch3 here di.he
              refine ⟨w0 ++ [e.2], w1.snoc ejoin, fun d hd => ?_⟩
              rcases List.mem_append.mp hd with hd | hd
              · exact w2 d hd
              · rw [List.mem_singleton] at hd
                rw [hd]
                exact nsh
    · rintro σ H3 ⟨L', y6, y7, rfl, bt3, hL3, di, rch3, hv3, il3⟩
      refine ⟨_, rfl, _, _, rfl, rfl, L', _, _, rfl, bt3, hL3, di.done fun d y j => ?_, rch3, hv3, il3⟩
      rw [List.length_map, g2, List.take_length]
      exact List.mem_map.mpr ⟨(y, d), (mem here d y).mpr j, rfl⟩
  · have c : ¬ (i : Int) < ((nv L).length : Nat) := fun z => c (decide_eq_true z)
    rw [nv_len] at c
    have il : i = L.length := by omega
    subst il
    rw [List.drop_length] at df
    have rs : RegSet ds (barr S p) v L := ⟨df.nd, fun x => ⟨fun hx => rch x hx, fun ⟨w, h1, h2⟩ => df.walk h1 h2 hvL⟩⟩
    refine ⟨_, rfl, pf, L.map (fun x : Nat => (x : Int)), rfl, by rw [← nv_int]; exact SqL.of hL, by rw [List.length_map]; omega, fun ys p0 pm asc np0 => ?_⟩
    obtain ⟨L', rfl, pl⟩ := perm_of_map _ _ _ pm
    rw [← nv_int]
    have sF : Same H (upd H2 p0 (.lst (nv L'))) := (But.same s1 npf0 bt).trans (Same.upd np0)
    refine q _ p0 L' sF ((But.same s1 npf0 bt).free np0) upd_same (by rw [getD_of hv]; exact rs.of_perm pl) ?_
    rw [List.pairwise_map] at asc
    exact asc.imp fun h => by omega
end
end K5

namespace K5
open PySem PySem.Spec PyProof.Rows L2
/-- lists of rooms, by their addresses -/
def ListsAt (H : Hp) (q : Addr) (Ls : List (List Nat)) : Prop := ∃ rs : List Addr, H q = some (.lst (rs.map V.ref)) ∧ rs.length = Ls.length ∧ ∀ (i : Nat) (r : Addr) (L : List Nat), rs[i]? = some r → Ls[i]? = some L → r ≠ q ∧ H r = some (.lst (nv L))
theorem ListsAt.same {H H' : Hp} {q Ls} (h : ListsAt H q Ls) (s : Same H H') : ListsAt H' q Ls := by
  obtain ⟨rs, h1, h2, h3⟩ := h
  exact ⟨rs, s _ _ h1, h2, fun i r L a b => ⟨(h3 i r L a b).1, s _ _ (h3 i r L a b).2⟩⟩
/-- the regions of the first k people -/
structure RegsL (ds : List (Nat × Nat)) (S : S2) (k : Nat) (Ls : List (List Nat)) : Prop where
  len : Ls.length = k
  at_ : ∀ (p : Nat) (L : List Nat), Ls[p]? = some L → RegSet ds (barr S p) (S.1.getD p 0) L
theorem RegsL.perm {n ds S k Ls Ms} (a : Regs n ds S k Ls) (b : RegsL ds S k Ms) : Ls.flatten.Perm Ms.flatten :=
  flat_perm Ls Ms (a.len.trans b.len.symm) fun p L M h1 h2 => by
    obtain ⟨ks, r1, p1⟩ := a.at_ p L h1
    exact p1.trans (r1.set.perm (b.at_ p M h2))
theorem RegsL.snoc {ds S k Ls L} (a : RegsL ds S k Ls) (r : RegSet ds (barr S k) (S.1.getD k 0) L) : RegsL ds S (k + 1) (Ls ++ [L]) := by
  refine ⟨by rw [List.length_append, a.len]; rfl, fun p M h => ?_⟩
  by_cases c : p < Ls.length
  · rw [List.getElem?_append_left c] at h
    exact a.at_ p M h
  · have := get_lt h
    rw [List.length_append, List.length_singleton] at this
    have e : p = k := by have := a.len; omega
    subst e
    rw [List.getElem?_append_right (by rw [a.len]; exact Nat.le_refl _), a.len, Nat.sub_self] at h
    cases h
    exact r
def spRegsL (K : PySem.W.Frag) : Sp := fun vs H Q _ => ∃ (a s : Addr) (n : Nat) (ds : List (Nat × Nat)) (S : S2), vs = [.ref a, .ref s] ∧ HouseAt K H a ds ∧ Tree n ds ∧ n ≤ 60 ∧ StateAt K H s S ∧ StOk n ds S ∧
  ∀ (H' : Hp) (q : Addr) (Ls : List (List Nat)), Same H H' → H q = none → ListsAt H' q Ls → RegsL ds S S.1.length Ls → Q (.ref q) H'
section
variable {P : Program} {w : World} {K : PySem.W.Frag}
      {mg : Str → Option Value} {base : Heap}
theorem ok_l_regions (T : Bl mg) (D : Def K mg "_law_regions" s_l_regions) (C_l_region : Cal P w K mg base "_law_region" ["_law_layout", "_law_situation", "_law_who"] 2 (spRegL K)) : Cal P w K mg base "_law_regions" ["_law_layout", "_law_situation"] 3 (spRegsL K) := by
  refine D.ok sc_l_regions (fun _ _ _ _ _ _ us hl => match us, hl with | [_, _], _ => rfl) (fun vs H Q E h => ?_) (fun f cdv A outer s H vs Q E hr h => ?_)
  · obtain ⟨a, s, n, ds, S, rfl, _⟩ := h
    rfl
  obtain ⟨a, s, n, ds, S, rfl, hH, tree, hn, st, ok, q⟩ := h
  obtain ⟨r, b, h1, h2, h3⟩ := id st
  have few := ok.few
  obtain ⟨f_l_region, fd_l_region, g_l_region, k_l_region, b_l_region, G_l_region⟩ := C_l_region
  refine ⟨_, (pss_one (ps_ret (pe_lc (own := [("_law_who", 2)]) (g := gName 2)  rfl sc_l_regions.nd (pi_range1 rfl T.range (pa_cons (pe_callB call_len_seq (by rfl) T.len PySem.boot_len (pa_cons (pe_ix ix_tup (pv 1) pe_int (fun _ _ => rfl)) pa_nil)) pa_nil)) (blkOk_by (N := N_l_regions) (sc := defScope s_l_regions) (own := [("_law_who", 2)]) (by decide +kernel)) (fun _ _ _ _ _ => (pg_name (i := 2) sc_l_regions.nd rfl (.inl rfl) (.inr rfl))) (fun _ _ _ _ _ => pts_nil) (fun _ _ _ _ _ => (pe_call G_l_region (hr.mono (by decide)) (by rfl) g_l_region k_l_region b_l_region .nil pass0 (pa_cons (pv 0) (pa_cons (pv 1) (pa_cons (pv 2) pa_nil)))))))), ?_⟩
  refine ⟨_, rfl, s, _, _, _, rfl, rfl, h1, atI_nat (j := 0) rfl, _, _, rfl, .inr h2, (S.1.length : Int), congrArg (fun z : Nat => [V.int (z : Int)]) (nv_len _), by omega, by omega, fun pd npd => ?_⟩
  refine lc_range (lo := 0) (n := S.1.length) (fun i H2 => ∃ Ls, Same H H2 ∧ ListsAt H2 pd Ls ∧ RegsL ds S i Ls) ?_ ?_ ?_
  · exact ⟨[], Same.upd npd, ⟨[], upd_same, rfl, fun i r L h => by simp at h⟩, rfl, fun p L h => by simp at h⟩
  · rintro i H2 hi ⟨Ls, sm, ⟨rs, f1, f2, f3⟩, rg⟩
    rw [Int.zero_add]
    refine ⟨rfl, lcYes ?_⟩
    refine ⟨_, rfl, _, rfl, _, rfl, a, s, i, n, ds, S, rfl, hH.same sm, tree, hn, st.same sm, ok, hi, fun H3 q3 L s3 nq3 hq3 rs3 _ => ?_⟩
    have f13 := s3 _ _ f1
    have nqd : q3 ≠ pd := (ne_of_none f1 nq3).symm
    refine ⟨_, f13, by rw [List.length_map, f2, rg.len]; exact small1000 (by omega), Ls ++ [L], (sm.trans s3).at npd, ⟨rs ++ [q3], by rw [upd_same, List.map_append]; rfl, by simp [f2], fun j r' M e1 e2 => ?_⟩, rg.snoc rs3⟩
    by_cases c : j < rs.length
    · rw [List.getElem?_append_left c] at e1
      rw [List.getElem?_append_left (by rw [← f2]; exact c)] at e2
      obtain ⟨g1, g2⟩ := f3 j r' M e1 e2
      exact ⟨g1, by rw [upd_ne g1]; exact s3 _ _ g2⟩
    · have hlt := get_lt e1
      rw [List.length_append, List.length_singleton] at hlt
      have ej : j = rs.length := by omega
      subst ej
      rw [List.getElem?_append_right (Nat.le_refl _), Nat.sub_self] at e1
      rw [f2, List.getElem?_append_right (Nat.le_refl _), Nat.sub_self] at e2
      cases e1
      cases e2
      exact ⟨nqd, by rw [upd_ne nqd]; exact hq3⟩
  · rintro H2 ⟨Ls, sm, la, rg⟩
    exact q H2 pd Ls sm npd la rg
end
end K5

namespace K5
open PySem PySem.Spec PyProof.Rows L2
theorem PairsAt.but {g q : Addr} {H H' : Hp} {l} (h : PairsAt H q l) (hg : ∃ xs, H g = some (.lst xs)) (ne : q ≠ g) (s : But g H H') : PairsAt H' q l := by
  obtain ⟨xs, hx⟩ := hg
  exact h.aside hx ne s
/-- a rearranged list of the same pairs -/
theorem PairsAt.perm {H : Hp} {l : List (Nat × Nat)} {ts : List Addr} {ys : List V} (h2 : ts.length = l.length) (h3 : ∀ (i : Nat) (t : Addr) (e : Nat × Nat), ts[i]? = some t → l[i]? = some e → H t = some (.tup [.int e.1, .int e.2]))
    (p : ys.Perm (ts.map V.ref)) : ∃ (ts' : List Addr) (l' : List (Nat × Nat)), ys = ts'.map V.ref ∧ l'.Perm l ∧ ts'.length = l'.length ∧ ∀ (i : Nat) (t : Addr) (e : Nat × Nat), ts'[i]? = some t → l'[i]? = some e → H t = some (.tup [.int e.1, .int e.2]) := by
  have e1 : ts.map V.ref = (ts.zip l).map (fun z => V.ref z.1) := by
    have e : (ts.zip l).map (fun z => V.ref z.1) = ((ts.zip l).map Prod.fst).map V.ref := by rw [List.map_map]; rfl
    rw [e, List.map_fst_zip (by omega)]
  rw [e1] at p
  obtain ⟨zs, ez, pz⟩ := perm_of_map _ _ _ p
  refine ⟨zs.map Prod.fst, zs.map Prod.snd, by rw [ez, List.map_map]; rfl, ?_, by simp, fun i t e a b => ?_⟩
  · have q := pz.map Prod.snd
    rw [List.map_snd_zip (by omega)] at q
    exact q
  · rw [List.getElem?_map] at a b
    cases hz : zs[i]? with
    | none => rw [hz] at a; cases a
    | some z =>
      rw [hz] at a b
      cases a
      cases b
      have hm := pz.mem_iff.mp (List.mem_of_getElem? hz)
      obtain ⟨j, hj⟩ := List.mem_iff_getElem?.mp hm
      rw [List.getElem?_zip_eq_some] at hj
      exact h3 j _ _ hj.1 hj.2
theorem Flip.perm {fs ds : List (Nat × Nat)} (p : fs.Perm ds) : ∀ {es : List (Nat × Nat)}, Flip es fs → ∃ es', es'.Perm es ∧ Flip es' ds := by
  induction p with
  | nil => intro es h; exact ⟨es, List.Perm.refl _, h⟩
  | cons x _ ih =>
    intro es h
    cases h with
    | same h =>
      obtain ⟨e', p', f'⟩ := ih h
      exact ⟨_ :: e', p'.cons _, .same f'⟩
    | turn h =>
      obtain ⟨e', p', f'⟩ := ih h
      exact ⟨_ :: e', p'.cons _, .turn f'⟩
  | swap x y l =>
    intro es h
    cases h with
    | same h =>
      cases h with
      | same h => exact ⟨_, List.Perm.swap _ _ _, .same (.same h)⟩
      | turn h => exact ⟨_, List.Perm.swap _ _ _, .turn (.same h)⟩
    | turn h =>
      cases h with
      | same h => exact ⟨_, List.Perm.swap _ _ _, .same (.turn h)⟩
      | turn h => exact ⟨_, List.Perm.swap _ _ _, .turn (.turn h)⟩
  | trans _ _ ih1 ih2 =>
    intro es h
    obtain ⟨e1, p1, f1⟩ := ih1 h
    obtain ⟨e2, p2, f2⟩ := ih2 f1
    exact ⟨e2, p2.trans p1, f2⟩
def spHouse (K : PySem.W.Frag) : Sp := fun vs H Q _ => ∃ (g : Addr) (b n : Nat), vs = [.ref g, .int (n : Int)] ∧ GenAt H g b ∧ 0 < n ∧ n ≤ 60 ∧ b < 2 ^ 50 ∧
  ∀ (H' : Hp) (a : Addr) (ds : List (Nat × Nat)), But g H H' → GenAt H' g (b + 1000) → a ≠ g → HouseAt K H' a ds → Tree n ds → Q (.ref a) H'
section
variable {P : Program} {w : World} {K : PySem.W.Frag}
      {mg : Str → Option Value} {base : Heap}
theorem ok_random_house (T : Bl mg) (D : Def K mg "_law_random_house" s_l_random_house) (C_l_random : Cal P w K mg base "_law_random" ["_law_generator_here", "_law_bound"] 2 spRand)
    (C_l_shuffled : Cal P w K mg base "_law_shuffled" ["_law_generator_here", "_law_items"] 3 (spShuf K)) : Cal P w K mg base "_law_random_house" ["_law_generator_here", "_law_size"] 4 (spHouse K) := by
  refine D.ok sc_l_random_house (fun _ _ _ _ _ _ us hl => match us, hl with | [_, _], _ => rfl) (fun vs H Q E h => ?_) (fun f cdv A outer s H vs Q E hr h => ?_)
  · obtain ⟨g, b, n, rfl, _⟩ := h
    rfl
  obtain ⟨g, b, n, rfl, hg, hn0, hn1, hb, q⟩ := h
  obtain ⟨f_l_shuffled, fd_l_shuffled, g_l_shuffled, k_l_shuffled, b_l_shuffled, G_l_shuffled⟩ := C_l_shuffled
  obtain ⟨f_l_random, fd_l_random, g_l_random, k_l_random, b_l_random, G_l_random⟩ := C_l_random
  refine ⟨_, (pss_cons (ps_set (i := 2) sc_l_random_house.nd rfl (.inl rfl) (pe_call G_l_shuffled (hr.mono (by decide)) (by rfl) g_l_shuffled k_l_shuffled b_l_shuffled .nil pass0 (pa_cons (pv 0) (pa_cons (pe_listRg rfl (by rfl) T.list (prg_1 (by rfl) T.range (pv 1))) pa_nil))))
    (pss_cons (ps_set (i := 3) sc_l_random_house.nd rfl (.inl rfl) (pe_call G_l_random (hr.mono (by decide)) (by rfl) g_l_random k_l_random b_l_random .nil pass0 (pa_cons (pv 0) (pa_cons pe_int pa_nil))))
    (pss_cons (ps_set (i := 4) sc_l_random_house.nd rfl (.inl rfl) (pe_lst pa_nil))
    (pss_cons (ps_for PassesOwn.never rfl (pi_range2 rfl T.range (pa_cons pe_int (pa_cons (pv 1) pa_nil))) (pg_name (i := 5) sc_l_random_house.nd rfl (.inl rfl))
    (pss_cons (ps_set (i := 6) sc_l_random_house.nd rfl (.inl rfl) (pe_ix ix_list (pe_lst (pa_cons (pe_op op_sub (pv 5) pe_int) (pa_cons pe_int (pa_cons (pe_call G_l_random (hr.mono (by decide)) (by rfl) g_l_random k_l_random b_l_random .nil pass0 (pa_cons (pv 0) (pa_cons (pv 5) pa_nil))) (pa_cons (pe_call G_l_random (hr.mono (by decide)) (by rfl) g_l_random k_l_random b_l_random .nil pass0 (pa_cons (pv 0) (pa_cons (pv 5) pa_nil))) pa_nil))))) (pv 3) (fun _ _ => rfl)))
    (pss_cons (ps_set (i := 7) sc_l_random_house.nd rfl (.inl rfl) (pe_tup (pa_cons (pe_ix ix_list (pv 2) (pv 6) (fun _ _ => rfl)) (pa_cons (pe_ix ix_list (pv 2) (pv 5) (fun _ _ => rfl)) pa_nil))))
    (pss_one (ps_expr (pe_bm PySem.F.plainAttrs_list PySem.F.slot_list_append PySem.F.type_list_append mt_append (pv 4) (pa_cons (pe_stp (pv 7) (pe_op op_sub pe_int (pe_op op_mul pe_int (pe_call G_l_random (hr.mono (by decide)) (by rfl) g_l_random k_l_random b_l_random .nil pass0 (pa_cons (pv 0) (pa_cons pe_int pa_nil)))))) pa_nil)))))))
    (pss_one (ps_ret (pe_callTy call_tuple_of (by rfl) T.tuple (by decide +kernel) (pa_cons (pe_call G_l_shuffled (hr.mono (by decide)) (by rfl) g_l_shuffled k_l_shuffled b_l_shuffled .nil pass0 (pa_cons (pv 0) (pa_cons (pv 4) pa_nil))) pa_nil)))))))), ?_⟩
  have en : rgV 0 (n : Int) = nv (List.range n) := rgV_nat n
  refine ⟨_, rfl, _, rfl, _, rfl, .of_le (Int.le_refl _) (by omega) (by omega) (by omega), fun pn npn => ?_⟩
  rw [en]
  have npng : pn ≠ g := hg.ne npn
  have s1 := Same.upd (o := .lst (nv (List.range n))) npn
  have g1 := hg.same s1
  have hn1' : (upd H pn (.lst (nv (List.range n)))) pn = some (.lst (nv (List.range n))) := upd_same
  generalize upd H pn (.lst (nv (List.range n))) = H1 at s1 g1 hn1'
  refine ⟨g, pn, b, nv (List.range n), rfl, g1, SqL.of hn1', npng, by rw [nv_len, List.length_range]; omega, by omega, fun H2 ql ys bt2 g2 nql hql pm => ?_⟩
  rw [nv_len, List.length_range] at g2
  obtain ⟨L, rfl, pL⟩ := perm_of_map _ _ _ pm
  have hql : H2 ql = some (.lst (nv L)) := hql
  have hLl : L.length = n := by rw [pL.length_eq, List.length_range]
  have nqlg : ql ≠ g := fun z => by
    subst z
    obtain ⟨xs, hxs⟩ := g1.lst
    rw [hxs] at nql
    cases nql
  refine ⟨_, rfl, g, b + n, 4, rfl, g2, by decide, by decide, by omega, fun H3 kind bt3 g3 hk => ?_⟩
  refine ⟨Nat.zero_le _, fun pd npd => ?_⟩
  have hpdg := g3.ne npd
  have bt03 : But g H H3 := (s1.but.trans bt2).trans bt3
  have npd0 : H pd = none := bt03.free hpdg npd
  have nlp : ql ≠ pd := ne_of_none (bt3 _ _ nqlg hql) npd
  refine ⟨_, rfl, _, _, rfl, ⟨by omega, by omega, by omega, by omega⟩, ?_⟩
  refine for_it (walk_range (lo := 1) (n := ((n : Int) - 1).toNat)) (fun i σ H4 => ∃ es fs y5 y6 y7, σ = [some (.ref g), some (.int (n : Int)), some (.ref ql), some (.int (kind : Int)), some (.ref pd), y5, y6, y7] ∧
    But g H H4 ∧ GenAt H4 g (b + n + 1 + 3 * i) ∧ H4 ql = some (.lst (nv L)) ∧ PairsAt H4 pd fs ∧ Tr0 (1 + i) es ∧ Flip (es.map fun e => (L.getD e.1 0, L.getD e.2 0)) fs)
    ⟨[], [], _, _, _, rfl, bt03.at npd0 _, g3.same (Same.upd npd), by rw [upd_ne nlp]; exact bt3 _ _ nqlg hql, ⟨[], upd_same, rfl, fun i t e h => by simp at h⟩, Tr0.one, .nil⟩ (fun _ _ _ _ _ => trivial) ?_ ?_
  · rintro i x σ H4 H5 hi ⟨es, fs, y5, y6, y7, rfl, bt4, g4, hl4, ⟨ts, f1, f2, f3⟩, tr, fl⟩ ⟨rfl, hx⟩
    have hel := tr.len
    have flen : fs.length = i := by
      rw [← fl.len, List.length_map]
      omega
    have hi' : 1 + i < n := by omega
    have er : (1 : Int) + (i : Int) = ((1 + i : Nat) : Int) := by omega
    have hx' : x = V.int ((1 + i : Nat) : Int) := hx.trans (congrArg V.int er)
    subst hx'
    refine ⟨_, rfl, _, _, rfl, rfl, _, rfl, _, rfl, g, b + n + 1 + 3 * i, 1 + i, rfl, g4, by omega, by omega, by omega, fun H6 u1 bt6 g6 hu1 => ?_⟩
    refine ⟨_, rfl, _, rfl, g, _, 1 + i, rfl, g6, by omega, by omega, by omega, fun H7 u2 bt7 g7 hu2 => ⟨by show 4 ≤ sizeLine; decide, fun pl npl => ?_⟩⟩
    obtain ⟨o, ho, hlt⟩ : ∃ o : Nat, ([V.int (((1 + i : Nat) : Int) - 1), V.int 0, V.int (u1 : Int), V.int (u2 : Int)] : List V)[kind]? = some (.int (o : Int)) ∧ o < 1 + i := by
      match kind, hk with
      | 0, _ => exact ⟨i, congrArg (fun z => some (V.int z)) (by omega), by omega⟩
      | 1, _ => exact ⟨0, rfl, by omega⟩
      | 2, _ => exact ⟨u1, rfl, hu1⟩
      | 3, _ => exact ⟨u2, rfl, hu2⟩
    refine ⟨_, rfl, pl, _, _, _, rfl, rfl, SqL.of upd_same, atI_nat ho, ?_⟩
    have nplg : pl ≠ g := g7.ne npl
    have gl4 := g4.lst.choose_spec
    have gl6 := g6.lst.choose_spec
    have bt47 := bt6.trans bt7
    have hl7 := bt47 _ _ nqlg hl4
    have f17 := bt47 _ _ hpdg f1
    have f37 := fun i t e a b => bt47 _ _ (ne_lt gl4 (f3 i t e a b)) (f3 i t e a b)
    have s8 := Same.upd (o := .lst [V.int (((1 + i : Nat) : Int) - 1), V.int 0, V.int (u1 : Int), V.int (u2 : Int)]) npl
    have hl8 := s8 _ _ hl7
    have f18 := s8 _ _ f17
    have f38 := fun i t e a b => s8 _ _ (f37 i t e a b)
    have g8 := g7.same s8
    have bt8 := (bt4.trans bt47).trans s8.but
    generalize upd H7 pl (.lst [V.int (((1 + i : Nat) : Int) - 1), V.int 0, V.int (u1 : Int), V.int (u2 : Int)]) = H8 at s8 hl8 f18 f38 g8 bt8
    have a1 : L[o]? = some (L.getD o 0) := by
      rw [List.getD_eq_getElem?_getD, List.getElem?_eq_getElem (by omega)]
      rfl
    have a2 : L[1 + i]? = some (L.getD (1 + i) 0) := by
      rw [List.getD_eq_getElem?_getD, List.getElem?_eq_getElem (by omega)]
      rfl
    refine ⟨_, rfl, _, rfl, ql, _, _, _, rfl, rfl, SqL.of hl8, nv_at a1, _, rfl, _, rfl, ql, _, _, _, rfl, rfl, SqL.of hl8, nv_at a2, by show 2 ≤ sizeLine; decide, fun te nte => ?_⟩
    generalize hd1 : L.getD o 0 = d1 at *
    generalize hd2 : L.getD (1 + i) 0 = d2 at *
    have nteg : te ≠ g := g8.ne nte
    have sA := Same.upd (o := .tup [.int (d1 : Int), .int (d2 : Int)]) nte
    have hteA : (upd H8 te (.tup [.int (d1 : Int), .int (d2 : Int)])) te = some (.tup [.int (d1 : Int), .int (d2 : Int)]) := upd_same
    have gA := g8.same sA
    have hlA := sA _ _ hl8
    have fA := sA _ _ f18
    have f3A := fun i t e a b => sA _ _ (f38 i t e a b)
    have btA := bt8.trans sA.but
    generalize upd H8 te (.tup [.int (d1 : Int), .int (d2 : Int)]) = HA at sA hteA gA hlA fA f3A btA
    refine ⟨_, rfl, .inl ⟨rfl, _, SqL.of fA⟩, _, rfl, _, rfl, g, b + n + 1 + 3 * i + 1 + 1, 2, rfl, gA, by decide, by decide, by omega, fun HB u btB gB hu => ?_⟩
    have gAl := gA.lst.choose_spec
    have hteB := btB _ _ nteg hteA
    have hlB := btB _ _ nqlg hlA
    have fB := btB _ _ hpdg fA
    have f3B := fun i t e x y => btB _ _ (ne_lt gAl (f3A i t e x y)) (f3A i t e x y)
    have btHB := btA.trans btB
    have tr' := tr.grow o hlt
    have em : ((es ++ [(o, 1 + i)]).map fun e => (L.getD e.1 0, L.getD e.2 0)) = (es.map fun e => (L.getD e.1 0, L.getD e.2 0)) ++ [(d1, d2)] := by
      rw [List.map_append, ← hd1, ← hd2]
      rfl
    refine ⟨_, _, rfl, rfl, .inl (by decide), _, _, rfl, rfl, te, _, _, rfl, SqT.of hteB, ?_⟩
    match u, hu with
    | 0, _ =>
      refine .inl ⟨rfl, pd, _, _, rfl, rfl, fB, by rw [List.length_map, f2]; exact small1000 (by omega), ?_⟩
      refine ⟨es ++ [(o, 1 + i)], fs ++ [(d1, d2)], _, _, _, rfl, btHB.at npd0 _, (gB.at hpdg).mono (by omega), by rw [upd_ne nlp]; exact hlB, .push (ts := ts) fB f2 f3B (fun b o ne e => by rw [upd_ne ne]; exact e) upd_same (by rw [upd_ne (ne_lt fB hteB)]; exact hteB), ?_, by rw [em]; exact fl.snoc _⟩
      rw [show 1 + (i + 1) = 1 + i + 1 by omega]
      exact tr'
    | 1, _ =>
      refine .inr ⟨rfl, fun tt ntt => ⟨pd, _, _, rfl, rfl, by rw [upd_ne (ne_of_none fB ntt)]; exact fB, by rw [List.length_map, f2]; exact small1000 (by omega), ?_⟩⟩
      have nttg : tt ≠ g := gB.ne ntt
      have sC := Same.upd (o := .tup [.int (d2 : Int), .int (d1 : Int)]) ntt
      refine ⟨es ++ [(o, 1 + i)], fs ++ [(d2, d1)], _, _, _, rfl, (btHB.at (btHB.free nttg ntt) _).at npd0 _, ((gB.same sC).at hpdg).mono (by omega), by rw [upd_ne nlp]; exact sC _ _ hlB, .push (ts := ts) (sC _ _ fB) f2 (fun i t e x y => sC _ _ (f3B i t e x y)) (fun b o ne e => by rw [upd_ne ne]; exact e) upd_same (by rw [upd_ne (ne_of_none fB ntt).symm, upd_same]), ?_, by rw [em]; exact fl.snocT _ _⟩
      rw [show 1 + (i + 1) = 1 + i + 1 by omega]
      exact tr'
  · rintro σ H4 ⟨es, fs, y5, y6, y7, rfl, bt4, g4, hl4, ⟨ts, f1, f2, f3⟩, tr, fl⟩
    have e1 : 1 + ((n : Int) - 1).toNat = n := by omega
    rw [e1] at tr
    have flen : fs.length + 1 = n := by
      rw [← fl.len, List.length_map]
      exact tr.len
    refine ⟨_, rfl, _, rfl, g, pd, _, _, rfl, g4, SqL.of f1, hpdg, by rw [List.length_map, f2]; omega, by omega, fun H5 qs ys bt5 g5 nqs hqs pm2 => ?_⟩
    rw [List.length_map, f2] at g5
    have gl4 := g4.lst.choose_spec
    have f35 := fun i t e a b => bt5 _ _ (ne_lt gl4 (f3 i t e a b)) (f3 i t e a b)
    obtain ⟨ts', ds, rfl, pe, hl', pr'⟩ := PairsAt.perm f2 f35 pm2
    refine ⟨qs, _, rfl, .inl ⟨SqL.of hqs, fun pt npt => ?_⟩⟩
    have nptg : pt ≠ g := g5.ne npt
    obtain ⟨es', p', f'⟩ := Flip.perm pe.symm fl
    have bt05 := bt4.trans bt5
    exact q _ pt ds (bt05.at (bt05.free nptg npt) _) ((g5.same (Same.upd npt)).mono (by omega)) nptg ⟨ts', SqT.of upd_same, hl', fun d r e x y => SqT.of (Same.upd npt _ _ (pr' d r e x y))⟩ (((tr.nv pL).perm p').tree f')
end
end K5

namespace K5
open PySem PySem.Spec PyProof.Rows L2
theorem Walk.det {n ds} (T : Tree n ds) : ∀ {p a b c}, Walk ds a p b → Walk ds a p c → b = c := by
  intro p
  induction p with
  | nil =>
    intro a b c h1 h2
    cases h1
    cases h2
    rfl
  | cons d p ih =>
    intro a b c h1 h2
    cases h1 with
    | cons j1 w1 =>
      cases h2 with
      | cons j2 w2 =>
        have e := j1.other j2 (j1.lt T).2.2.2
        subst e
        exact ih w1 w2
section
variable {n : Nat} {ds : List (Nat × Nat)} {shut : List Nat} {spot : Nat}
theorem Way.ext {x d y p} (h : Way ds shut spot x p) (j : Joins ds d x y) (ns : d ∉ shut) (nd : d ∉ p) : Way ds shut spot y (p ++ [d]) := by
  refine ⟨h.w.snoc j, ?_, ?_⟩
  · refine List.nodup_append.mpr ⟨h.nd, by simp, fun c hc b hb => ?_⟩
    rw [List.mem_singleton] at hb
    rintro rfl
    exact nd (hb ▸ hc)
  · intro c hc
    rcases List.mem_append.mp hc with hc | hc
    · exact h.un c hc
    · rw [List.mem_singleton] at hc
      rw [hc]
      exact ns
theorem Way.last (T : Tree n ds) {x d z p} (h : Way ds shut spot x p) (hd : d ∈ p) (j : Joins ds d x z) : ∃ p', p = p' ++ [d] ∧ Way ds shut spot z p' := by
  obtain ⟨p1, p2, u, v, rfl, w1, j1, w2⟩ := h.w.split hd
  obtain ⟨n1, n2, n3⟩ := List.nodup_append.mp h.nd
  have wu : Way ds shut spot u p1 := ⟨w1, n1, fun c hc => h.un c (List.mem_append.mpr (.inl hc))⟩
  have hx := (j.lt T).2.2.2
  have cases' : (u = x ∧ v = z) ∨ (u = z ∧ v = x) := by
    rcases j with j | j <;> rcases j1 with k | k <;> rw [j] at k <;> cases k
    · exact .inl ⟨rfl, rfl⟩
    · exact .inr ⟨rfl, rfl⟩
    · exact .inr ⟨rfl, rfl⟩
    · exact .inl ⟨rfl, rfl⟩
  rcases cases' with ⟨rfl, rfl⟩ | ⟨rfl, rfl⟩
  · have := wu.unique T h
    have := congrArg List.length this
    simp at this
  · have n4 := (List.nodup_cons.mp n2).2
    have e : p2 = [] := way_unique T w2 (.nil _) n4 List.nodup_nil
    subst e
    exact ⟨p1, rfl, wu⟩
/-- here, before, steps -/
abbrev WI := Nat × Option Nat × Nat
def rms (ws : List WI) : List Nat := ws.map fun z => z.1
/-- the law's count of the ends: seen what was ever put, ws what waits, ls the lengths found -/
structure Wk (n : Nat) (ds : List (Nat × Nat)) (shut : List Nat) (spot : Nat) (seen : List Nat) (ws : List WI) (ls : List Nat) : Prop where
  nd : seen.Nodup
  wnd : (rms ws).Nodup
  sub : ∀ z ∈ ws, z.1 ∈ seen
  lt : ∀ x ∈ seen, x < n
  it : ∀ z ∈ ws, ∃ p, Way ds shut spot z.1 p ∧ p.length = z.2.2 ∧ ((z.2.1 = none ∧ p = []) ∨ ∃ y d p', z.2.1 = some y ∧ p = p' ++ [d] ∧ Joins ds d y z.1)
  cl : ∀ x ∈ seen, x ∉ rms ws → ∀ d y, Joins ds d x y → d ∉ shut → y ∈ seen
  pa : ∀ x ∈ seen, x = spot ∨ ∃ y d p, y ∈ seen ∧ y ∉ rms ws ∧ Way ds shut spot y p ∧ Way ds shut spot x (p ++ [d])
  lsm : ∀ k, k ∈ ls ↔ ∃ x p, x ∈ seen ∧ x ∉ rms ws ∧ Way ds shut spot x p ∧ p.length = k ∧ ∀ d z, Joins ds d x z → d ∉ shut → d ∈ p
  ln : ls.length + ws.length ≤ seen.length
theorem Wk.start (h : spot < n) : Wk n ds shut spot [spot] [(spot, none, 0)] [] := by
  refine ⟨by simp, by simp [rms], fun z hz => ?_, fun x hx => ?_, fun z hz => ?_, fun x hx hn => ?_, fun x hx => .inl (List.mem_singleton.mp hx), fun k => ⟨fun h => (List.not_mem_nil h).elim, fun ⟨x, p, h1, h2, _⟩ => ?_⟩, by simp⟩
  · rw [List.mem_singleton] at hz
    rw [hz]
    exact List.mem_singleton.mpr rfl
  · rw [List.mem_singleton] at hx
    rw [hx]
    exact h
  · rw [List.mem_singleton] at hz
    subst hz
    exact ⟨[], ⟨.nil _, List.nodup_nil, fun d h => (List.not_mem_nil h).elim⟩, rfl, .inl ⟨rfl, rfl⟩⟩
  · rw [List.mem_singleton] at hx
    exact absurd (by simp [rms, hx]) hn
  · rw [List.mem_singleton] at h1
    exact absurd (by simp [rms, h1]) h2
/-- the rooms beyond -/
def onw (ex : List (Nat × Nat)) (shut : List Nat) (b : Option Nat) : List Nat := (ex.filter fun e => decide (e.2 ∉ shut ∧ some e.1 ≠ b)).map fun e => e.1
theorem Wk.step (T : Tree n ds) {seen wr ls} {z : WI} {ex : List (Nat × Nat)} (h : Wk n ds shut spot seen (wr ++ [z]) ls) (mem : ∀ y d, (y, d) ∈ ex ↔ Joins ds d z.1 y) (nod : ex.Nodup) :
    Wk n ds shut spot (seen ++ onw ex shut z.2.1) (wr ++ (onw ex shut z.2.1).map fun y => (y, some z.1, z.2.2 + 1)) (ls ++ if onw ex shut z.2.1 = [] then [z.2.2] else []) := by
  obtain ⟨here, b, k⟩ := z
  simp only at mem ⊢
  have hz : ((here, b, k) : WI) ∈ wr ++ [(here, b, k)] := List.mem_append.mpr (.inr (List.mem_singleton.mpr rfl))
  obtain ⟨p, wp, pk, pb⟩ := h.it _ hz
  simp only at wp pk pb
  have hs := h.sub _ hz
  have rap : rms (wr ++ [((here, b, k) : WI)]) = rms wr ++ [here] := by unfold rms; rw [List.map_append]; rfl
  have hnr : here ∉ rms wr := by
    have := h.wnd
    rw [rap] at this
    obtain ⟨_, _, q⟩ := List.nodup_append.mp this
    exact fun hm => q here hm here (by simp) rfl
  have on : ∀ y, y ∈ onw ex shut b ↔ ∃ d, Joins ds d here y ∧ d ∉ shut ∧ d ∉ p := by
    intro y
    unfold onw
    rw [List.mem_map]
    constructor
    · rintro ⟨e, he, rfl⟩
      obtain ⟨h1, h2⟩ := List.mem_filter.mp he
      obtain ⟨h3, h4⟩ := of_decide_eq_true h2
      have j := (mem e.1 e.2).mp h1
      refine ⟨e.2, j, h3, fun hd => ?_⟩
      obtain ⟨p', e1, w1⟩ := wp.last T hd j
      rcases pb with ⟨_, e2⟩ | ⟨y0, d0, p0, e2, e3, j0⟩
      · rw [e2] at e1
        simp at e1
      · rw [e1] at e3
        obtain ⟨_, e4⟩ := List.append_inj' e3 rfl
        have e4 : e.2 = d0 := by simpa using e4
        rw [e4] at j
        have := j.other j0.symm (j.lt T).2.2.2
        exact h4 (by rw [e2, this])
    · rintro ⟨d, j, h3, h4⟩
      refine ⟨(y, d), List.mem_filter.mpr ⟨(mem y d).mpr j, decide_eq_true ⟨h3, fun e => ?_⟩⟩, rfl⟩
      rcases pb with ⟨e2, _⟩ | ⟨y0, d0, p0, e2, e3, j0⟩
      · rw [e2] at e
        cases e
      · rw [e2] at e
        have e : y = y0 := Option.some.inj e
        subst e
        have := T.one_door j j0.symm
        exact h4 (by rw [e3, this]; simp)
  have onnd : (onw ex shut b).Nodup := by
    unfold onw
    have h1 : (ex.filter fun e => decide (e.2 ∉ shut ∧ some e.1 ≠ b)).Nodup := nod.filter _
    refine List.pairwise_map.mpr (List.Pairwise.imp_of_mem (fun {a c} ha hc ne e => ne ?_) h1)
    have j1 := (mem a.1 a.2).mp ((List.mem_filter.mp ha).1)
    have j2 := (mem c.1 c.2).mp ((List.mem_filter.mp hc).1)
    rw [← e] at j2
    exact Prod.ext e (T.one_door j1 j2)
  have fresh : ∀ y, y ∈ onw ex shut b → y ∉ seen := by
    intro y hy hseen
    obtain ⟨d, j, ns, nd⟩ := (on y).mp hy
    have wy := wp.ext j ns nd
    rcases h.pa y hseen with rfl | ⟨y', d', p', h1, h2, h3, h4⟩
    · have w0 : Way ds shut y y [] := ⟨.nil _, List.nodup_nil, fun d h => (List.not_mem_nil h).elim⟩
      have := w0.unique T wy
      simp at this
    · have e := wy.unique T h4
      obtain ⟨e1, _⟩ := List.append_inj' e rfl
      subst e1
      have := Walk.det T wp.w h3.w
      subst this
      exact h2 (by rw [rap]; simp)
  have rms' : rms (wr ++ (onw ex shut b).map fun y => ((y, some here, k + 1) : WI)) = rms wr ++ onw ex shut b := by
    unfold rms
    rw [List.map_append, List.map_map]
    congr 1
    exact List.map_id' _
  have popped : ∀ x, x ∈ seen → (x ∉ rms wr ↔ x ∉ rms (wr ++ [((here, b, k) : WI)]) ∨ x = here) := by
    intro x _
    rw [rap, List.mem_append, List.mem_singleton]
    constructor
    · intro q
      by_cases e : x = here
      · exact .inr e
      · exact .inl fun z => z.elim q e
    · rintro (q | rfl)
      · exact fun z => q (.inl z)
      · exact hnr
  refine ⟨?_, ?_, ?_, ?_, ?_, ?_, ?_, ?_, ?_⟩
  · exact List.nodup_append.mpr ⟨h.nd, onnd, fun a ha c hc e => fresh c hc (e ▸ ha)⟩
  · rw [rms']
    have hw := h.wnd
    rw [rap] at hw
    refine List.nodup_append.mpr ⟨(List.nodup_append.mp hw).1, onnd, fun a ha c hc e => fresh c hc ?_⟩
    obtain ⟨z, hz, rfl⟩ := List.mem_map.mp ha
    rw [← e]
    exact h.sub z (List.mem_append.mpr (.inl hz))
  · intro z hz
    rcases List.mem_append.mp hz with hz | hz
    · exact List.mem_append.mpr (.inl (h.sub z (List.mem_append.mpr (.inl hz))))
    · obtain ⟨y, hy, rfl⟩ := List.mem_map.mp hz
      exact List.mem_append.mpr (.inr hy)
  · intro x hx
    rcases List.mem_append.mp hx with hx | hx
    · exact h.lt x hx
    · obtain ⟨d, j, _⟩ := (on x).mp hx
      exact (j.lt T).2.1
  · intro z hz
    rcases List.mem_append.mp hz with hz | hz
    · exact h.it z (List.mem_append.mpr (.inl hz))
    · obtain ⟨y, hy, rfl⟩ := List.mem_map.mp hz
      obtain ⟨d, j, ns, nd⟩ := (on y).mp hy
      exact ⟨p ++ [d], wp.ext j ns nd, by rw [List.length_append, pk]; rfl, .inr ⟨here, d, p, rfl, rfl, j⟩⟩
  · intro x hx hn d y j ns
    rw [rms', List.mem_append] at hn
    have hx' : x ∈ seen := (List.mem_append.mp hx).resolve_right fun q => hn (.inr q)
    rcases (popped x hx').mp fun q => hn (.inl q) with q | rfl
    · exact List.mem_append.mpr (.inl (h.cl x hx' q d y j ns))
    · by_cases hd : d ∈ p
      · obtain ⟨p', e1, w1⟩ := wp.last T hd j
        rcases h.pa x hx' with rfl | ⟨y', d', p'', h1, h2, h3, h4⟩
        · have w0 : Way ds shut x x [] := ⟨.nil _, List.nodup_nil, fun d h => (List.not_mem_nil h).elim⟩
          have := w0.unique T wp
          rw [← this] at hd
          cases hd
        · have e := wp.unique T h4
          rw [e1] at e
          obtain ⟨e2, _⟩ := List.append_inj' e rfl
          subst e2
          have := Walk.det T w1.w h3.w
          subst this
          exact List.mem_append.mpr (.inl h1)
      · exact List.mem_append.mpr (.inr ((on y).mpr ⟨d, j, ns, hd⟩))
  · intro x hx
    rcases List.mem_append.mp hx with hx | hx
    · rcases h.pa x hx with q | ⟨y, d, p', h1, h2, h3, h4⟩
      · exact .inl q
      · refine .inr ⟨y, d, p', List.mem_append.mpr (.inl h1), ?_, h3, h4⟩
        rw [rms', List.mem_append]
        rintro (q | q)
        · exact h2 (by rw [rap, List.mem_append]; exact .inl q)
        · exact fresh y q h1
    · obtain ⟨d, j, ns, nd⟩ := (on x).mp hx
      refine .inr ⟨here, d, p, List.mem_append.mpr (.inl hs), ?_, wp, wp.ext j ns nd⟩
      rw [rms', List.mem_append]
      rintro (q | q)
      · exact hnr q
      · exact fresh here q hs
  · intro m
    rw [List.mem_append, h.lsm m]
    have leaf : (onw ex shut b = []) ↔ ∀ d z, Joins ds d here z → d ∉ shut → d ∈ p := by
      constructor
      · intro e d z j ns
        refine Classical.byContradiction fun nd => ?_
        have := (on z).mpr ⟨d, j, ns, nd⟩
        rw [e] at this
        cases this
      · intro all
        refine List.eq_nil_iff_forall_not_mem.mpr fun y hy => ?_
        obtain ⟨d, j, ns, nd⟩ := (on y).mp hy
        exact nd (all d y j ns)
    constructor
    · rintro (⟨x, q, h1, h2, h3⟩ | h1)
      · refine ⟨x, q, List.mem_append.mpr (.inl h1), ?_, h3⟩
        rw [rms', List.mem_append]
        rintro (z | z)
        · exact h2 (by rw [rap, List.mem_append]; exact .inl z)
        · exact fresh x z h1
      · by_cases e : onw ex shut b = []
        · rw [if_pos e, List.mem_singleton] at h1
          refine ⟨here, p, List.mem_append.mpr (.inl hs), ?_, wp, by rw [h1]; exact pk, leaf.mp e⟩
          rw [rms', e, List.append_nil]
          exact hnr
        · rw [if_neg e] at h1
          cases h1
    · rintro ⟨x, q, h1, h2, h3, h4, h5⟩
      rw [rms', List.mem_append] at h2
      have hx' : x ∈ seen := (List.mem_append.mp h1).resolve_right fun z => h2 (.inr z)
      rcases (popped x hx').mp fun z => h2 (.inl z) with z | rfl
      · exact .inl ⟨x, q, hx', z, h3, h4, h5⟩
      · have e := wp.unique T h3
        subst e
        refine .inr ?_
        rw [if_pos (leaf.mpr h5), List.mem_singleton, ← h4]
        exact pk
  · have hl := h.ln
    rw [List.length_append, List.length_singleton]
          at hl
    rw [List.length_append, List.length_append, List.length_append, List.length_map]
    by_cases e : onw ex shut b = []
    · rw [if_pos e, List.length_singleton]
      omega
    · rw [if_neg e, List.length_nil]
      omega
theorem Wk.done {seen ls} (h : Wk n ds shut spot seen [] ls) (hs : spot ∈ seen) (k : Nat) : k ∈ ls ↔ EndAt ds shut spot k := by
  rw [h.lsm k]
  constructor
  · rintro ⟨x, p, _, _, h3⟩
    exact ⟨x, p, h3⟩
  · rintro ⟨x, p, w, h4⟩
    have reach : ∀ {a p y}, Walk ds a p y → (∀ d ∈ p, d ∉ shut) → a ∈ seen → y ∈ seen := by
      intro a p y w
      induction w with
      | nil a => intro _ m; exact m
      | cons j w ih => intro ns m; exact ih (fun d hd => ns d (List.mem_cons_of_mem _ hd)) (h.cl _ m (by simp [rms]) _ _ j (ns _ List.mem_cons_self))
    exact ⟨x, p, reach w.w w.un hs, by simp [rms], w, h4⟩
end
end K5

namespace K5
open PySem PySem.Spec PyProof.Rows L2
def oV : Option Nat → V
  | none => .non
  | some y => .int (y : Int)
def oD : Option Nat → PyData
  | none => .none
  | some y => .int (y : Int)
def tW (z : WI) : List V := [.int (z.1 : Int), oV z.2.1, .int (z.2.2 : Int)]
def WL (H : Hp) (ts : List Addr) (ws : List WI) : Prop := ts.length = ws.length ∧ ∀ (i : Nat) (t : Addr) (z : WI), ts[i]? = some t → ws[i]? = some z → H t = some (.tup (tW z))
def dW (z : WI) : PyData := .tuple [.int (z.1 : Int), oD z.2.1, .int (z.2.2 : Int)]
theorem dW_lay (z : WI) : (dW z).canLay0 = true := by
  obtain ⟨a, b, c⟩ := z
  cases b <;> simp [dW, oD, PyData.canLay0, PyData.canLayAll0]
theorem dW_depth (z : WI) : (dW z).depth ≤ 2 := by
  obtain ⟨a, b, c⟩ := z
  cases b <;> simp [dW, oD, PyData.depth, PyData.depthAll]
theorem dWs_lay : ∀ zs : List WI, PyData.canLayAll0 (zs.map dW) = true
  | [] => by simp [PyData.canLayAll0]
  | z :: zs => by simp [PyData.canLayAll0, dW_lay z, dWs_lay zs]
theorem dWs_depth : ∀ zs : List WI, PyData.depthAll (zs.map dW) ≤ 2
  | [] => by simp [PyData.depthAll]
  | z :: zs => by
    have h1 := dWs_depth zs
    have h2 := dW_depth z
    simp only [List.map_cons, PyData.depthAll]
    omega
def dWs (l : List WI) : PyData := .list (l.map dW)
theorem dWs_shaped (l : List WI) : SeqAt.shaped (dWs l) = true := by
  have h := dWs_depth l
  refine shaped_mk ?_ ?_
  · simp only [dWs, PyData.canLay0]
    exact dWs_lay l
  · simp only [dWs, PyData.depth]
    omega
theorem dWs_nil (l : List WI) : PyData.eqv (dWs l) (dWs []) = decide (l = []) := by
  cases l with
  | nil => exact d_refl (dWs_shaped [])
  | cons m r =>
    rw [decide_eq_false (by simp)]
    simp only [dWs, List.map_cons, List.map_nil, PyData.eqv, PyData.eqvAll]
theorem dp_o {K : PySem.W.Frag} {H : Hp} : ∀ o, Dp K H (oV o) (oD o)
  | none => .non
  | some _ => .int _
theorem dp_W {K : PySem.W.Frag} {H : Hp} : ∀ (ts : List Addr) (l : List WI), WL H ts l → DpAll K H (ts.map V.ref) (l.map dW)
  | [], [], _ => .nil
  | [], m :: l, h => by have := h.1; simp at this
  | t :: ts, [], h => by have := h.1; simp at this
  | t :: ts, m :: l, h => .cons (.tup (SqT.of (h.2 0 t m rfl rfl)) (.cons (.int _) (.cons (dp_o _) (.cons (.int _) .nil)))) (dp_W ts l ⟨by have := h.1; simpa using this, fun i t' m' x y => h.2 (i + 1) t' m' x y⟩)
theorem WL.same {H H' ts ws} (h : WL H ts ws) (s : Same H H') : WL H' ts ws := ⟨h.1, fun i t m x y => s _ _ (h.2 i t m x y)⟩
theorem WL.but {g : Addr} {H H' ts ws} {xs : List V} (h : WL H ts ws) (hg : H g = some (.lst xs)) (s : But g H H') : WL H' ts ws := ⟨h.1, fun i t m x y => s _ _ (ne_lt hg (h.2 i t m x y)) (h.2 i t m x y)⟩
theorem WL.append {H ts ws ts2 ws2} (h : WL H ts ws) (h2 : WL H ts2 ws2) : WL H (ts ++ ts2) (ws ++ ws2) := by
  refine ⟨by rw [List.length_append, List.length_append, h.1, h2.1], fun i t m x y => ?_⟩
  by_cases hi : i < ts.length
  · rw [List.getElem?_append_left hi] at x
    rw [List.getElem?_append_left (by rw [← h.1]; exact hi)] at y
    exact h.2 i t m x y
  · rw [List.getElem?_append_right (by omega)] at x
    rw [List.getElem?_append_right (by rw [← h.1]; omega), ← h.1] at y
    exact h2.2 _ t m x y
theorem WL.one {H : Hp} {t : Addr} {z : WI} (h : H t = some (.tup (tW z))) : WL H [t] [z] := by
  refine ⟨rfl, fun i t' m' x y => ?_⟩
  match i with
  | 0 => cases x; cases y; exact h
  | i + 1 => simp at x
theorem onw_take {ex : List (Nat × Nat)} {shut : List Nat} {b : Option Nat} {i : Nat} {e : Nat × Nat} (he : ex[i]? = some e) :
    onw (ex.take (i + 1)) shut b = onw (ex.take i) shut b ++ if e.2 ∉ shut ∧ some e.1 ≠ b then [e.1] else [] := by
  unfold onw
  rw [List.take_succ, he, List.filter_append, List.map_append]
  congr 1
  by_cases c : e.2 ∉ shut ∧ some e.1 ≠ b
  · rw [if_pos c]
    simp [c]
  · rw [if_neg c]
    have : (fun e : Nat × Nat => decide (e.2 ∉ shut ∧ some e.1 ≠ b)) e = false := decide_eq_false c
    simp only [Option.toList, List.filter_cons, this]
    rfl
theorem ex_len {n : Nat} {ds : List (Nat × Nat)} (T : Tree n ds) {x : Nat} {ex : List (Nat × Nat)} (mem : ∀ y d, (y, d) ∈ ex ↔ Joins ds d x y) (nod : ex.Nodup) : ex.length ≤ n := by
  have nd : (ex.map Prod.snd).Nodup := by
    refine List.pairwise_map.mpr (List.Pairwise.imp_of_mem (fun {a c} ha hc ne e => ne ?_) nod)
    have j1 := (mem a.1 a.2).mp ha
    have j2 := (mem c.1 c.2).mp hc
    rw [← e] at j2
    exact Prod.ext (j1.other j2 (j1.lt T).2.2.2) e
  have lt : ∀ d ∈ ex.map Prod.snd, d < n := by
    intro d hd
    obtain ⟨e, he, rfl⟩ := List.mem_map.mp hd
    have := joins_lt ((mem e.1 e.2).mp he)
    have := T.len
    omega
  have h := nodup_le n (ex.map Prod.snd) nd lt
  rw [List.length_map] at h
  exact h
def spEnds (K : PySem.W.Frag) : Sp := fun vs H Q _ => ∃ (px b : Addr) (who spot n : Nat) (ds : List (Nat × Nat)) (S : S2) (ps : List Addr) (ex : Nat → List (Nat × Nat)), vs = [.ref px, .ref b, .int (who : Int), .int (spot : Int), .non] ∧
  H px = some (.lst (ps.map V.ref)) ∧ ps.length = n ∧ Rows H ps ex ∧ (∀ x d y, (y, d) ∈ ex x ↔ Joins ds d x y) ∧ (∀ x, (ex x).Nodup) ∧ SqT K H b (nv S.2) ∧ S.2.length = ds.length ∧ Tree n ds ∧ n ≤ 60 ∧ spot < n ∧
  ∀ (H' : Hp) (q : Addr) (ls : List Nat), Same H H' → H q = none → H' q = some (.lst (nv ls)) → (∀ k, k ∈ ls ↔ EndAt ds (barr S who) spot k) → Q (.ref q) H'
section
variable {P : Program} {w : World} {K : PySem.W.Frag}
      {mg : Str → Option Value} {base : Heap}
theorem ok_walk_ends (T : Bl mg) (D : Def K mg "_law_walk_ends" s_l_walk_ends) : Cal P w K mg base "_law_walk_ends" ["_law_around_here", "_law_barred", "_law_who", "_law_spot", "_law_previous"] 1 (spEnds K) := by
  refine D.ok sc_l_walk_ends (fun _ _ _ _ _ _ us hl => match us, hl with | [_, _, _, _, _], _ => rfl) (fun vs H Q E h => ?_) (fun f cdv A outer s H vs Q E hr h => ?_)
  · obtain ⟨px, b, who, spot, n, ds, S, ps, ex, rfl, _⟩ := h
    rfl
  obtain ⟨px, b, who, spot, n, ds, S, ps, ex, rfl, hpx, hpl, ro, mem, nod, h3, h4, tree, hn, hsp, q⟩ := h
  refine ⟨_, (pss_cons (ps_set (i := 5) sc_l_walk_ends.nd rfl (.inl rfl) (pe_lst pa_nil))
    (pss_cons (ps_set (i := 6) sc_l_walk_ends.nd rfl (.inl rfl) (pe_lst (pa_cons (pe_tup (pa_cons (pv 3) (pa_cons (pv 4) (pa_cons pe_int pa_nil)))) pa_nil)))
    (pss_cons (ps_while PassesOwn.never (pt_cmpR (op_neD hr.units) (pv 6) (pe_lst pa_nil) (nomark _)) (pss_cons (ps_asg (pe_bm0 PySem.F.plainAttrs_list PySem.F.slot_list_pop PySem.F.type_list_pop mt_pop (pv 6)) (pg_tup (n := 3) rfl (pgs_cons (pg_name (i := 7) sc_l_walk_ends.nd rfl (.inr rfl)) (pgs_cons (pg_name (i := 8) sc_l_walk_ends.nd rfl (.inr rfl)) (pgs_cons (pg_name (i := 9) sc_l_walk_ends.nd rfl (.inr rfl)) pgs_nil)))))
    (pss_cons (ps_setLc (i := 10) (own := [("_law_other", 11), ("_law_door", 12)]) (g := gTup K 2 (gCons (gName 11) (gCons (gName 12) gNil)))  (tt := (tAnd (tTest (tOp rNe (tOp (rIxT K) (tVar 1) (tVar 12)) (tVar 2))) (tTest (tOp rNe (tVar 11) (tVar 8))))) rfl sc_l_walk_ends.nd rfl rfl (sw_true rfl rfl rfl (by decide +kernel)) (pi_list (pe_ix ix_list (pv 0) (pv 7) (fun _ _ => rfl))) (blkOk_by (N := N_l_walk_ends) (sc := defScope s_l_walk_ends) (own := [("_law_other", 11), ("_law_door", 12)]) (by decide +kernel)) (fun _ _ _ _ _ => (pg_tup (n := 2) rfl (pgs_cons (pg_name (i := 11) sc_l_walk_ends.nd rfl (.inl rfl) (.inr rfl)) (pgs_cons (pg_name (i := 12) sc_l_walk_ends.nd rfl (.inl rfl) (.inr rfl)) pgs_nil)))) (fun _ _ _ _ _ => (pts_one (PW.pt (pw_and (pt_cmpR op_ne (pe_ix ix_tup (pv 1) (pv 12) (fun _ _ => rfl)) (pv 2) (nomark _)) (pw_and1 (pt_cmpR op_ne (pv 11) (pv 8) (nomark _))))))) (fun _ _ _ _ _ => (pv 11)))
    (pss_cons (ps_set (i := 6) sc_l_walk_ends.nd rfl (.inl rfl) (pe_op op_cat (pv 6) (pe_lc (own := [("_law_other", 11)]) (g := gName 11)  rfl sc_l_walk_ends.nd (pi_list (pv 10)) (blkOk_by (N := N_l_walk_ends) (sc := defScope s_l_walk_ends) (own := [("_law_other", 11)]) (by decide +kernel)) (fun _ _ _ _ _ => (pg_name (i := 11) sc_l_walk_ends.nd rfl (.inl rfl) (.inr rfl))) (fun _ _ _ _ _ => pts_nil) (fun _ _ _ _ _ => (pe_tup (pa_cons (pv 11) (pa_cons (pv 7) (pa_cons (pe_op op_add (pv 9) pe_int) pa_nil))))))))
    (pss_one (ps_set (i := 5) sc_l_walk_ends.nd rfl (.inl rfl) (pe_op op_cat (pv 5) (pe_op op_rep (pe_lst (pa_cons (pv 9) pa_nil)) (pe_callTy call_int1 (by rfl) T.int (by decide +kernel) (pa_cons (pe_cmpR (op_eqD hr.units) (pv 10) (pe_lst pa_nil) (nomark _)) pa_nil))))))))))
    (pss_one (ps_ret (pv 5)))))), ?_⟩
  refine ⟨Nat.zero_le _, fun pl0 npl0 => ?_⟩
  have s1 := Same.upd (o := .lst []) npl0
  refine ⟨_, rfl, _, rfl, by show 3 ≤ sizeLine; decide, fun t0 nt0 => ⟨by show 1 ≤ sizeLine; decide, fun pw0 npw0 => ?_⟩⟩
  have s2 := s1.trans (Same.upd (o := .tup (tW (spot, none, 0))) nt0)
  have s3 := s2.trans (Same.upd (o := .lst [.ref t0]) npw0)
  refine ⟨fun m σ H2 => ∃ (seen : List Nat) (ws : List WI) (ls : List Nat) (pw pl : Addr) (ts : List Addr) (y7 y8 y9 y10 y11 y12 : Option V), m = n - (seen.length - ws.length) ∧ σ = [some (.ref px), some (.ref b), some (.int (who : Int)), some (.int (spot : Int)), some .non, some (.ref pl), some (.ref pw), y7, y8, y9, y10, y11, y12] ∧
      Same H H2 ∧ H pw = none ∧ H2 pw = some (.lst (ts.map V.ref)) ∧ WL H2 ts ws ∧ pl ≠ pw ∧ H pl = none ∧ H2 pl = some (.lst (nv ls)) ∧ Wk n ds (barr S who) spot seen ws ls ∧ spot ∈ seen,
    ⟨_, [spot], [(spot, none, 0)], [], pw0, pl0, [t0], _, _, _, _, _, _, rfl, rfl, s3, s2.free npw0, upd_same, WL.one (by rw [upd_ne (ne_of_none upd_same npw0), upd_same]; rfl), ?_, npl0, ?_, Wk.start hsp, List.mem_singleton.mpr rfl⟩, fun m σ H2 hW => ?_⟩
  · intro z
    subst z
    rw [(Same.upd nt0) _ _ upd_same] at npw0
    cases npw0
  · exact (Same.upd npw0) _ _ ((Same.upd nt0) _ _ upd_same)
  obtain ⟨seen, ws, ls, pw, pl, ts, y7, y8, y9, y10, y11, y12, rfl, rfl, sm, npw, hpw, wl, nlw, npl, hpl2, wk, hss⟩ := hW
  have sl := nodup_le n seen wk.nd wk.lt
  have ln := wk.ln
  refine ⟨_, rfl, Nat.zero_le _, fun pe npe => ?_⟩
  have sE := Same.upd (o := .lst []) npe
  refine ⟨dWs ws, dWs [], .lst (SqL.of (sE _ _ hpw)) (dp_W ts ws (wl.same sE)), .lst (SqL.of upd_same) .nil, dWs_shaped _, dWs_shaped _, _, rfl, ?_⟩
  rw [dWs_nil]
  have sm3 := sm.trans sE
  have hpw3 := sE _ _ hpw
  have wl3 := wl.same sE
  have hpl3 := sE _ _ hpl2
  generalize upd H2 pe (.lst []) = H3 at sm3 hpw3 wl3 hpl3
  rcases snoc_nil ws with rfl | ⟨wr, z, rfl⟩
  · rw [decide_eq_true rfl]
    exact iteF ⟨_, rfl, q H3 pl ls sm3 npl hpl3 fun k => wk.done hss k⟩
  · rw [decide_eq_false (by simp)]
    obtain ⟨tr, tz, rfl⟩ : ∃ tr tz, ts = tr ++ [tz] := by
      rcases snoc_nil ts with rfl | ⟨r, x, e⟩
      · have := wl.1
        simp at this
      · exact ⟨r, x, e⟩
    have trl : tr.length = wr.length := by have := wl.1; simpa using this
    have htz : H3 tz = some (.tup (tW z)) := wl3.2 tr.length tz z (by rw [List.getElem?_append_right (Nat.le_refl _), Nat.sub_self]; rfl) (by rw [trl, List.getElem?_append_right (Nat.le_refl _), Nat.sub_self]; rfl)
    have wlr : WL H3 tr wr := ⟨trl, fun i t m x y => wl3.2 i t m (by rw [List.getElem?_append_left (get_lt x)]; exact x) (by rw [List.getElem?_append_left (get_lt y)]; exact y)⟩
    have hz := wk.sub z (List.mem_append.mpr (.inr (List.mem_singleton.mpr rfl)))
    have hlt := wk.lt _ hz
    have hlast : ((tr ++ [tz]).map V.ref)[((tr ++ [tz]).map V.ref).length - 1]? = some (.ref tz) := by
      rw [List.map_append, List.length_append, List.map_cons, List.map_nil, List.length_singleton, Nat.add_sub_cancel, List.getElem?_append_right (Nat.le_refl _), Nat.sub_self]
      rfl
    refine iteT ⟨fun σ' H' => ∃ (seen' : List Nat) (ws' : List WI) (ls' : List Nat) (pw' pl' : Addr) (ts' : List Addr) (y7 y8 y9 y10 y11 y12 : Option V), n - (seen'.length - ws'.length) < n - (seen.length - (wr ++ [z]).length) ∧ σ' = [some (.ref px), some (.ref b), some (.int (who : Int)), some (.int (spot : Int)), some .non, some (.ref pl'), some (.ref pw'), y7, y8, y9, y10, y11, y12] ∧
      Same H H' ∧ H pw' = none ∧ H' pw' = some (.lst (ts'.map V.ref)) ∧ WL H' ts' ws' ∧ pl' ≠ pw' ∧ H pl' = none ∧ H' pl' = some (.lst (nv ls')) ∧ Wk n ds (barr S who) spot seen' ws' ls' ∧ spot ∈ seen',
      fun σ' H' ⟨a1, a2, a3, a4, a5, a6, a7, a8, a9, a10, a11, a12, lt, r⟩ => ⟨_, lt, a1, a2, a3, a4, a5, a6, a7, a8, a9, a10, a11, a12, rfl, r⟩, ?_⟩
    refine ⟨_, rfl, .inl ⟨rfl, _, SqL.of hpw3⟩, pw, _, _, rfl, rfl, hpw3, hlast, ?_⟩
    have btp : But pw H3 (upd H3 pw (.lst ((tr ++ [tz]).map V.ref).dropLast)) := But.upd (But.refl _ _) _
    have hpw4 : (upd H3 pw (.lst ((tr ++ [tz]).map V.ref).dropLast)) pw = some (.lst (tr.map V.ref)) := by
      rw [upd_same, List.map_append, List.map_cons, List.map_nil, List.dropLast_concat]
    have sm4 := sm3.at npw (o := .lst ((tr ++ [tz]).map V.ref).dropLast)
    have wl4 := wlr.but hpw3 btp
    have htz4 := btp _ _ (ne_lt hpw3 htz) htz
    have hpl4 := btp _ _ nlw hpl3
    generalize upd H3 pw (.lst ((tr ++ [tz]).map V.ref).dropLast) = H4 at hpw4 sm4 wl4 htz4 hpl4
    refine ⟨tz, _, rfl, SqT.of htz4, rfl, _, _, rfl, _, _, rfl, _, _, rfl, rfl, ?_⟩
    have exl := ex_len tree (ex := ex z.1) (fun y d => mem z.1 d y) (nod z.1)
    obtain ⟨qx, hqx⟩ := get_of hpl hlt
    obtain ⟨tx, g1, g2, g3⟩ := (ro _ _ hqx).same sm4
    refine ⟨_, rfl, _, rfl, px, _, _, V.ref qx, rfl, rfl, SqL.of (sm4 _ _ hpx), atI_nat (v := V.ref qx) (by rw [List.getElem?_map, hqx]; rfl), qx, rfl, ⟨_, SqL.of g1⟩, fun pd npd => ?_⟩
    have sD := Same.upd (o := .lst []) npd
    refine lc_it (walk_list (K := K) (a := qx) (xs := tx.map V.ref)) (fun i H5 => Same H4 H5 ∧ H5 pd = some (.lst (nv (onw ((ex z.1).take i) (barr S who) z.2.1)))) ⟨sD, upd_same⟩ (fun i H5 _ h => SqL.of (h.1 _ _ g1)) ?_ ?_
    · rintro i x H5 H6 hi ⟨s5, hp5⟩ ⟨rfl, ex1⟩
      have hi' : i < (ex z.1).length := by
        rw [List.length_map, g2] at hi
        exact hi
      obtain ⟨t, ht⟩ : ∃ t, tx[i]? = some t := get_of g2 hi'
      obtain ⟨e, he⟩ : ∃ e, (ex z.1)[i]? = some e := get_of rfl hi'
      have ex1 : (tx.map V.ref)[i]? = some x := ex1
      rw [List.getElem?_map, ht] at ex1
      cases ex1
      have je := (mem z.1 e.2 e.1).mp (List.mem_of_getElem? he)
      obtain ⟨bk, hbk⟩ : ∃ bk, S.2[e.2]? = some bk := get_of h4 (joins_lt je)
      have bar : e.2 ∈ barr S who ↔ bk = who := by
        rw [mem_barr, hbk]
        exact ⟨fun z => Option.some.inj z, fun z => by rw [z]⟩
      refine ⟨t, _, rfl, SqT.of (s5 _ _ (g3 i t e ht he)), rfl, _, _, rfl, _, _, rfl, rfl, rfl, ?_⟩
      refine ⟨_, rfl, _, rfl, b, _, _, _, rfl, rfl, (sm4.trans s5).tup h3, nv_at hbk, _, rfl, rfl, _, rfl, ?_⟩
      by_cases cb : bk = who
      · rw [decide_eq_true (show V.int (bk : Int) = V.int (who : Int) by rw [cb])]
        refine iteF (iteF ⟨s5, ?_⟩)
        rw [hp5, onw_take he, if_neg (fun c => c.1 (bar.mpr cb)), List.append_nil]
      · rw [decide_eq_false (show ¬ V.int (bk : Int) = V.int (who : Int) from fun z => cb (by have := V.int.inj z; omega))]
        refine iteT ⟨_, rfl, _, rfl, (by cases z.2.1 <;> rfl), _, rfl, ?_⟩
        have dec : decide (V.int (e.1 : Int) = oV z.2.1) = decide (some e.1 = z.2.1) := by
          cases z.2.1 with
          | none => rfl
          | some y => exact decide_eq_decide.mpr ⟨fun q => by have q := V.int.inj q; rw [show e.1 = y by omega], fun q => by rw [Option.some.inj q]; rfl⟩
        rw [dec]
        by_cases c : some e.1 = z.2.1
        · rw [decide_eq_true c]
          refine iteF ⟨s5, ?_⟩
          rw [hp5, onw_take he, if_neg (fun d => d.2 c), List.append_nil]
        · rw [decide_eq_false c]
          refine iteT ⟨_, rfl, _, hp5, ?_, s5.at npd, ?_⟩
          · rw [nv_len]
            have h1 : (onw ((ex z.1).take i) (barr S who) z.2.1).length ≤ ((ex z.1).take i).length := by
              unfold onw
              rw [List.length_map]
              exact List.length_filter_le _ _
            rw [List.length_take] at h1
            exact small1000 (by omega)
          · rw [upd_same, onw_take he, if_pos ⟨fun z => cb (bar.mp z), c⟩, nv_snoc]
    · rintro H5 ⟨s5, hp5⟩
      rw [List.length_map, g2, List.take_length] at hp5
      have wk2 := wk.step tree (fun y d => mem z.1 d y) (nod z.1)
      have onl : (onw (ex z.1) (barr S who) z.2.1).length ≤ n := by
        unfold onw
        rw [List.length_map]
        exact Nat.le_trans (List.length_filter_le _ _) exl
      generalize onw (ex z.1) (barr S who) z.2.1 = on at hp5 wk2 onl
      have s35 := sm4.trans s5
      have npd0 : H pd = none := sm4.free npd
      -- the new items
      refine ⟨_, rfl, _, rfl, pd, rfl, ⟨_, SqL.of hp5⟩, fun pd2 npd2 => ?_⟩
      refine lc_it (walk_list (K := K) (a := pd) (xs := nv on)) (fun i H6 => ∃ ts2 : List Addr, Same H5 H6 ∧ H6 pd2 = some (.lst (ts2.map V.ref)) ∧ WL H6 ts2 ((on.take i).map fun y => (y, some z.1, z.2.2 + 1))) ⟨[], Same.upd npd2, upd_same, rfl, fun i t m h => by simp at h⟩ (fun i H6 _ ⟨_, h, _⟩ => SqL.of (h _ _ hp5)) ?_ ?_
      · rintro i x H6 H7 hi ⟨ts2, s6, hp6, wl6⟩ ⟨rfl, ex1⟩
        obtain ⟨y, hy, rfl⟩ := nv_some ex1
        refine ⟨rfl, lcYes ?_⟩
        refine ⟨_, rfl, _, rfl, _, rfl, _, _, rfl, rfl, by show 3 ≤ sizeLine; decide, fun t2 nt2 => ?_⟩
        have ntp : t2 ≠ pd2 := (ne_of_none hp6 nt2).symm
        have tl2 : ts2.length ≤ on.length := by
          have := wl6.1
          rw [List.length_map, List.length_take] at this
          omega
        refine ⟨_, by rw [upd_ne ntp.symm]; exact hp6, by rw [List.length_map]; exact small1000 (by omega), ts2 ++ [t2], (s6.trans (Same.upd nt2)).at npd2, by rw [upd_same, List.map_append]; rfl, ?_⟩
        rw [List.take_succ, hy, List.map_append]
        refine WL.append ⟨wl6.1, fun i' t' m' e1 e2 => ?_⟩ (WL.one (by rw [upd_ne ntp, upd_same]; rfl))
        have q := wl6.2 i' t' m' e1 e2
        rw [upd_ne (ne_lt hp6 q), upd_ne (ne_of_none q nt2)]
        exact q
      · rintro H6 ⟨ts2, s6, hp6, wl6⟩
        rw [nv_len, List.take_length] at wl6
        have tl2 : ts2.length = on.length := by
          have := wl6.1
          rw [List.length_map] at this
          exact this
        have wll : wr.length ≤ n := by
          rw [List.length_append, List.length_singleton] at ln
          omega
        have lsl : ls.length ≤ n := by omega
        have s56 := s5.trans s6
        refine ⟨pw, pd2, _, _, rfl, rfl, s56 _ _ hpw4, hp6, by rw [List.length_map, List.length_map, tl2, trl]; exact Nat.le_of_lt (small1000 (by omega)), fun pw' npw' => ?_⟩
        have s7 := Same.upd (o := .lst (tr.map V.ref ++ ts2.map V.ref)) npw'
        have hpw7 : (upd H6 pw' (.lst (tr.map V.ref ++ ts2.map V.ref))) pw' = some (.lst ((tr ++ ts2).map V.ref)) := by rw [upd_same, List.map_append]
        have wl7 := ((wl4.same s56).append wl6).same s7
        have hpl7 := s7 _ _ (s56 _ _ hpl4)
        have hp57 := s7 _ _ (s6 _ _ hp5)
        have sm7 := (sm4.trans s56).trans s7
        have npw0' : H pw' = none := (sm4.trans s56).free npw'
        have nlp' : pl ≠ pw' := ne_of_none (s56 _ _ hpl4) npw'
        generalize upd H6 pw' (.lst (tr.map V.ref ++ ts2.map V.ref)) = H7 at s7 hpw7 wl7 hpl7 hp57 sm7
        refine ⟨_, rfl, _, rfl, by show 1 ≤ sizeLine; decide, fun p1 np1 => ?_⟩
        have s8 := Same.upd (o := .lst [.int (z.2.2 : Int)]) np1
        refine ⟨_, rfl, Nat.zero_le _, fun p2 np2 => ?_⟩
        have s9 := Same.upd (o := .lst []) np2
        have hp1' := s9 _ _ (show (upd H7 p1 (.lst [.int (z.2.2 : Int)])) p1 = some (.lst [.int (z.2.2 : Int)]) from upd_same)
        have s79 := s8.trans s9
        refine ⟨.list (dIs on), .list (dIs []), .lst (SqL.of (s79 _ _ hp57)) (dp_is on), .lst (SqL.of upd_same) .nil, shaped_mk (by simp only [PyData.canLay0]; exact dIs_lay on) (by have := dIs_depth on; simp only [PyData.depth]; omega), shaped_mk (by simp only [PyData.canLay0]; exact dIs_lay []) (by have := dIs_depth []; simp only [PyData.depth]; omega), .inr ⟨_, rfl, ?_⟩⟩
        have ee : PyData.eqv (.list (dIs on)) (.list (dIs [])) = decide (on = []) := by
          cases on with
          | nil => rfl
          | cons a r =>
            rw [decide_eq_false (by simp)]
            simp only [dIs, List.map_cons, List.map_nil, PyData.eqv, PyData.eqvAll]
        rw [ee]
        generalize upd (upd H7 p1 (.lst [.int (z.2.2 : Int)])) p2 (.lst []) = H9 at s9 hp1' s79
        have rep : (List.replicate (if decide (on = []) = true then (1 : Int) else 0).toNat [V.int (z.2.2 : Int)]).flatten = nv (if on = [] then [z.2.2] else []) := by
          by_cases c : on = []
          · rw [if_pos c, decide_eq_true c]
            rfl
          · rw [if_neg c, decide_eq_false c]
            rfl
        refine ⟨p1, _, _, rfl, rfl, hp1', ?_, ?_, ?_, fun p3 np3 => ?_⟩
        · by_cases c : on = []
          · rw [decide_eq_true c]; decide
          · rw [decide_eq_false c]; decide
        · by_cases c : on = []
          · rw [decide_eq_true c]; decide
          · rw [decide_eq_false c]; decide
        · by_cases c : on = []
          · rw [decide_eq_true c]; show 1 * 1 ≤ sizeLine; decide
          · rw [decide_eq_false c]; show 1 * 0 ≤ sizeLine; decide
        rw [rep]
        have s10 := Same.upd (o := .lst (nv (if on = [] then [z.2.2] else []))) np3
        have s710 := s79.trans s10
        refine ⟨pl, p3, _, _, rfl, rfl, s710 _ _ hpl7, upd_same, ?_, fun pl' npl' => ?_⟩
        · rw [nv_len, nv_len]
          by_cases c : on = []
          · rw [if_pos c]; exact Nat.le_of_lt (small1000 (by show ls.length + 1 ≤ 1000; omega))
          · rw [if_neg c]; exact Nat.le_of_lt (small1000 (by show ls.length + 0 ≤ 1000; omega))
        have s11 := Same.upd (o := .lst (nv ls ++ nv (if on = [] then [z.2.2] else []))) npl'
        have s711 := s710.trans s11
        have ln2 := wk2.ln
        have sl2 := nodup_le n _ wk2.nd wk2.lt
        refine ⟨_, _, _, pw', pl', tr ++ ts2, _, _, _, _, _, _, ?_, rfl, sm7.trans s711, npw0', s711 _ _ hpw7, wl7.same s711, ?_, (sm7.trans s710).free npl', ?_, wk2, List.mem_append.mpr (.inl hss)⟩
        · simp only [List.length_append, List.length_map, List.length_singleton] at ln ln2 sl2 ⊢
          omega
        · exact (ne_of_none (s710 _ _ hpw7) npl').symm
        · rw [upd_same]
          unfold nv
          rw [List.map_append]
end
end K5

namespace K5
open PySem PySem.Spec PyProof.Rows L2
theorem catA_of {K : PySem.W.Frag} {H : Hp} {a b : Addr} {xs ys : List V} {Q : VK} (h1 : SqT K H a xs) (h2 : SqT K H b ys) (hl : xs.length + ys.length ≤ sizeLine) (q : ∀ (H' : Hp) (p : Addr), Same H H' → SqT K H' p (xs ++ ys) → Q (.ref p) H') :
    rCatA K (.ref a) (.ref b) H Q := by
  refine ⟨a, b, xs, ys, rfl, rfl, h1, h2, hl, fun e => ?_, fun _ e => ?_, fun _ _ p np => q _ p (Same.upd np) (SqT.of upd_same)⟩
  · refine q H b (Same.refl _) ?_
    rw [e, List.nil_append]
    exact h2
  · refine q H a (Same.refl _) ?_
    rw [e, List.append_nil]
    exact h1
theorem nv_app (a b : List Nat) : nv a ++ nv b = nv (a ++ b) := by
  unfold nv
  rw [List.map_append]
theorem set_cut {α : Type} : ∀ (l : List α) (k : Nat) (x : α), k < l.length → l.take k ++ [x] ++ l.drop (k + 1) = l.set k x
  | [], k, x, h => by simp at h
  | a :: r, 0, x, h => rfl
  | a :: r, k + 1, x, h => by
    have := set_cut r k x (by simpa using h)
    show a :: (r.take k ++ [x] ++ r.drop (k + 1)) = a :: r.set k x
    rw [this]
theorem nv_cut (L : List Nat) (k x : Nat) (h : k < L.length) : nv (L.take k) ++ [V.int (x : Int)] ++ nv (L.drop (k + 1)) = nv (L.set k x) := by
  rw [← set_cut L k x h, ← nv_app, ← nv_app]
  rfl
theorem cut_to {L : List Nat} {k : Nat} (h : k < L.length) : cutV (nv L) none (some (k : Int)) = nv (L.take k) ∧ ¬ (HT.sIx (nv L).length 0 none = 0 ∧ HT.sIx (nv L).length (nv L).length (some (k : Int)) = (nv L).length) := by
  unfold cutV
  rw [HT.sIx_none, HT.sIx_nat, nv_len, Nat.min_eq_left (Nat.le_of_lt h)]
  refine ⟨?_, fun z => by omega⟩
  unfold nv
  rw [List.drop_zero, Nat.sub_zero, List.map_take]
theorem cut_from {L : List Nat} {k : Nat} (h : k < L.length) : cutV (nv L) (some ((k : Int) + 1)) none = nv (L.drop (k + 1)) ∧ ¬ (HT.sIx (nv L).length 0 (some ((k : Int) + 1)) = 0 ∧ HT.sIx (nv L).length (nv L).length none = (nv L).length) := by
  unfold cutV
  rw [show (k : Int) + 1 = ((k + 1 : Nat) : Int) by omega, HT.sIx_none, HT.sIx_nat, nv_len, Nat.min_eq_left h]
  refine ⟨?_, fun z => by omega⟩
  unfold nv
  rw [← List.map_drop, List.take_of_length_le]
  rw [List.length_map, List.length_drop]
  exact Nat.le_refl _
abbrev Q4 := Nat × Nat × Nat × Nat
def tQ (m : Q4) : List V := [.int (m.1 : Int), .int (m.2.1 : Int), .int (m.2.2.1 : Int), .int (m.2.2.2 : Int)]
def stepS (S : S2) (m : Q4) : S2 := (S.1.set m.1 m.2.2.1, S.2.set m.2.2.2 m.1)
def spAfter (K : PySem.W.Frag) : Sp := fun vs H Q _ => ∃ (s t : Addr) (S : S2) (m : Q4), vs = [.ref s, .ref t] ∧ StateAt K H s S ∧ H t = some (.tup (tQ m)) ∧ m.1 < S.1.length ∧ m.2.2.2 < S.2.length ∧ S.1.length ≤ 1000 ∧ S.2.length ≤ 1000 ∧
  ∀ (H' : Hp) (q : Addr), Same H H' → StateAt K H' q (stepS S m) → Q (.ref q) H'
section
variable {P : Program} {w : World} {K : PySem.W.Frag}
      {mg : Str → Option Value} {base : Heap}
theorem ok_after_move (T : Bl mg) (D : Def K mg "_law_after_move" s_l_after_move) : Cal P w K mg base "_law_after_move" ["_law_situation", "_law_move"] 1 (spAfter K) := by
  refine D.ok sc_l_after_move (fun _ _ _ _ _ _ us hl => match us, hl with | [_, _], _ => rfl) (fun vs H Q E h => ?_) (fun f cdv A outer s0 H vs Q E hr h => ?_)
  · obtain ⟨s, t, S, m, rfl, _⟩ := h
    rfl
  obtain ⟨s, t, S, m, rfl, st, ht, v1, hd, few, bl, qn⟩ := h
  obtain ⟨r, b, h1, h2, h3⟩ := id st
  refine ⟨_, (pss_cons (ps_asg (pv 0) (pg_tup (n := 2) rfl (pgs_cons (pg_name (i := 2) sc_l_after_move.nd rfl (.inl rfl)) (pgs_cons (pg_name (i := 3) sc_l_after_move.nd rfl (.inl rfl)) pgs_nil))))
    (pss_cons (ps_asg (pv 1) (pg_tup (n := 4) rfl (pgs_cons (pg_name (i := 4) sc_l_after_move.nd rfl (.inl rfl)) (pgs_cons (pg_name (i := 5) sc_l_after_move.nd rfl (.inl rfl)) (pgs_cons (pg_name (i := 6) sc_l_after_move.nd rfl (.inl rfl)) (pgs_cons (pg_name (i := 7) sc_l_after_move.nd rfl (.inl rfl)) pgs_nil))))))
    (pss_cons (ps_set (i := 2) sc_l_after_move.nd rfl (.inl rfl) (pe_op op_catA (pe_op op_catA (pe_slice sl_tup (pv 2) po_none (po_some (pv 4))) (pe_tup (pa_cons (pv 6) pa_nil))) (pe_slice sl_tup (pv 2) (po_some (pe_op op_add (pv 4) pe_int)) po_none)))
    (pss_one (ps_ret (pe_tup (pa_cons (pv 2) (pa_cons (pe_op op_catA (pe_op op_catA (pe_slice sl_tup (pv 3) po_none (po_some (pv 7))) (pe_tup (pa_cons (pv 4) pa_nil))) (pe_slice sl_tup (pv 3) (po_some (pe_op op_add (pv 7) pe_int)) po_none)) pa_nil)))))))), ?_⟩
  refine ⟨_, rfl, _, _, rfl, h1, rfl, _, _, rfl, _, _, rfl, rfl, ?_⟩
  refine ⟨_, rfl, _, _, rfl, SqT.of ht, rfl, _, _, rfl, _, _, rfl, _, _, rfl, _, _, rfl, rfl, ?_⟩
  have sz4 : (4 : Nat) + 1000 ≤ sizeLine := Nat.le_of_lt (small3k (by decide))
  obtain ⟨c1, c2⟩ := cut_to v1
  obtain ⟨c3, c4⟩ := cut_from v1
  refine ⟨_, rfl, _, rfl, _, rfl, r, _, rfl, h2, c2, fun p1 np1 => ?_⟩
  rw [c1]
  have sa := Same.upd (o := .tup (nv (S.1.take m.1))) np1
  refine ⟨_, rfl, by show 1 ≤ sizeLine; decide, fun p2 np2 => ?_⟩
  have sb := sa.trans (Same.upd (o := .tup [.int (m.2.2.1 : Int)]) np2)
  have hp1 : (upd (upd H p1 (.tup (nv (S.1.take m.1)))) p2 (.tup [.int (m.2.2.1 : Int)])) p1 = some (.tup (nv (S.1.take m.1))) := by rw [upd_ne (ne_of_none upd_same np2), upd_same]
  refine catA_of (SqT.of hp1) (SqT.of upd_same) (by rw [nv_len, List.length_take, List.length_singleton]; omega) fun H4 p3 s4 h4 => ?_
  have sc := sb.trans s4
  refine ⟨_, rfl, _, rfl, _, _, rfl, rfl, _, rfl, r, _, rfl, sc.tup h2, c4, fun p4 np4 => ?_⟩
  rw [c3]
  have s5 := Same.upd (o := .tup (nv (S.1.drop (m.1 + 1)))) np4
  refine catA_of (s5.tup h4) (SqT.of upd_same) (by rw [List.length_append, nv_len, List.length_take, List.length_singleton, nv_len, List.length_drop]; omega) fun H6 p5 s6 h6 => ?_
  rw [nv_cut _ _ _ v1] at h6
  have sd := (sc.trans s5).trans s6
  obtain ⟨c5, c6⟩ := cut_to hd
  obtain ⟨c7, c8⟩ := cut_from hd
  refine ⟨_, rfl, _, rfl, _, rfl, _, rfl, b, _, rfl, sd.tup h3, c6, fun p6 np6 => ?_⟩
  rw [c5]
  have se := sd.trans (Same.upd (o := .tup (nv (S.2.take m.2.2.2))) np6)
  have h6e := (Same.upd (o := .tup (nv (S.2.take m.2.2.2))) np6).tup h6
  refine ⟨_, rfl, by show 1 ≤ sizeLine; decide, fun p7 np7 => ?_⟩
  have sf := se.trans (Same.upd (o := .tup [.int (m.1 : Int)]) np7)
  have h6f := (Same.upd (o := .tup [.int (m.1 : Int)]) np7).tup h6e
  have hp6 : (upd (upd H6 p6 (.tup (nv (S.2.take m.2.2.2)))) p7 (.tup [.int (m.1 : Int)])) p6 = some (.tup (nv (S.2.take m.2.2.2))) := by rw [upd_ne (ne_of_none upd_same np7), upd_same]
  refine catA_of (SqT.of hp6) (SqT.of upd_same) (by rw [nv_len, List.length_take, List.length_singleton]; omega) fun H8 p8 s8 h8 => ?_
  have sg := sf.trans s8
  have h6g := s8.tup h6f
  refine ⟨_, rfl, _, rfl, _, _, rfl, rfl, _, rfl, b, _, rfl, sg.tup h3, c8, fun p9 np9 => ?_⟩
  rw [c7]
  have s9 := Same.upd (o := .tup (nv (S.2.drop (m.2.2.2 + 1)))) np9
  refine catA_of (s9.tup h8) (SqT.of upd_same) (by rw [List.length_append, nv_len, List.length_take, List.length_singleton, nv_len, List.length_drop]; omega) fun H10 p10 s10 h10 => ?_
  rw [nv_cut _ _ _ hd] at h10
  have sh := (sg.trans s9).trans s10
  have h6h := s10.tup (s9.tup h6g)
  refine ⟨by show 2 ≤ sizeLine; decide, fun p11 np11 => ?_⟩
  have s11 := Same.upd (o := .tup [.ref p5, .ref p10]) np11
  exact qn _ p11 (sh.trans s11) ⟨p5, p10, SqT.of upd_same, s11.tup h6h, s11.tup h10⟩
end
end K5

namespace K5
open PySem PySem.Spec PyProof.Rows L2
/-- a move that the situation allows -/
def QOk (ds : List (Nat × Nat)) (S : S2) (m : Q4) : Prop := S.1[m.1]? = some m.2.1 ∧ Joins ds m.2.2.2 m.2.1 m.2.2.1 ∧ S.2[m.2.2.2]? ≠ some m.1
def QL (H : Hp) (ts : List Addr) (qs : List Q4) : Prop := ts.length = qs.length ∧ ∀ (i : Nat) (t : Addr) (m : Q4), ts[i]? = some t → qs[i]? = some m → H t = some (.tup (tQ m))
theorem QL.same {H H' ts qs} (h : QL H ts qs) (s : Same H H') : QL H' ts qs := ⟨h.1, fun i t m x y => s _ _ (h.2 i t m x y)⟩
theorem QL.push {H : Hp} {ts : List Addr} {qs : List Q4} {p t : Addr} {m : Q4} {xs ys : List V} (h : QL H ts qs) (hp : H p = some (.lst xs)) (nt : H t = none) :
    QL (upd (upd H t (.tup (tQ m))) p (.lst ys)) (ts ++ [t]) (qs ++ [m]) := by
  have ntp : t ≠ p := (ne_of_none hp nt).symm
  refine ⟨by rw [List.length_append, List.length_append, h.1]; rfl, fun i a b x y => ?_⟩
  by_cases hi : i < ts.length
  · rw [List.getElem?_append_left hi] at x
    rw [List.getElem?_append_left (by rw [← h.1]; exact hi)] at y
    have q := h.2 i a b x y
    rw [upd_ne (ne_lt hp q), upd_ne (ne_of_none q nt)]
    exact q
  · rw [List.getElem?_append_right (by omega)] at x
    rw [List.getElem?_append_right (by rw [← h.1]; omega), ← h.1] at y
    generalize i - ts.length = j at x y
    match j with
    | 0 => cases x; cases y; rw [upd_ne ntp, upd_same]
    | j + 1 => simp at x
theorem q_skip {ds : List (Nat × Nat)} {S : S2} {qs : List Q4} {k i : Nat} (h : ∀ m, m ∈ qs ↔ (m.2.2.2 < k ∨ m.2.2.2 = k ∧ m.1 < i) ∧ QOk ds S m) (no : ∀ m : Q4, m.1 = i → m.2.2.2 = k → ¬ QOk ds S m) :
    ∀ m, m ∈ qs ↔ (m.2.2.2 < k ∨ m.2.2.2 = k ∧ m.1 < i + 1) ∧ QOk ds S m := by
  intro m
  rw [h m]
  constructor
  · rintro ⟨h1, h2⟩
    exact ⟨by omega, h2⟩
  · rintro ⟨h1, h2⟩
    refine ⟨?_, h2⟩
    by_cases c : m.2.2.2 = k ∧ m.1 = i
    · exact absurd h2 (no m c.2 c.1)
    · omega
theorem q_add {ds : List (Nat × Nat)} {S : S2} {qs : List Q4} {k i : Nat} {m0 : Q4} (h : ∀ m, m ∈ qs ↔ (m.2.2.2 < k ∨ m.2.2.2 = k ∧ m.1 < i) ∧ QOk ds S m) (e1 : m0.1 = i) (e2 : m0.2.2.2 = k) (ok : QOk ds S m0) (un : ∀ m : Q4, m.1 = i → m.2.2.2 = k → QOk ds S m → m = m0) :
    ∀ m, m ∈ qs ++ [m0] ↔ (m.2.2.2 < k ∨ m.2.2.2 = k ∧ m.1 < i + 1) ∧ QOk ds S m := by
  intro m
  rw [List.mem_append, h m, List.mem_singleton]
  constructor
  · rintro (⟨h1, h2⟩ | rfl)
    · exact ⟨by omega, h2⟩
    · exact ⟨by omega, ok⟩
  · rintro ⟨h1, h2⟩
    by_cases c : m.2.2.2 = k ∧ m.1 = i
    · exact .inr (un m c.2 c.1 h2)
    · exact .inl ⟨by omega, h2⟩
theorem joins_at {ds : List (Nat × Nat)} {k : Nat} {e : Nat × Nat} (he : ds[k]? = some e) (x y : Nat) : Joins ds k x y ↔ (x = e.1 ∧ y = e.2) ∨ (x = e.2 ∧ y = e.1) := by
  unfold Joins
  rw [he]
  constructor
  · rintro (h | h)
    · have h := Option.some.inj h
      exact .inl ⟨by rw [h], by rw [h]⟩
    · have h := Option.some.inj h
      exact .inr ⟨by rw [h], by rw [h]⟩
  · rintro (⟨rfl, rfl⟩ | ⟨rfl, rfl⟩)
    · exact .inl rfl
    · exact .inr rfl
def spMoves (K : PySem.W.Frag) : Sp := fun vs H Q _ => ∃ (a s : Addr) (n : Nat) (ds : List (Nat × Nat)) (S : S2), vs = [.ref a, .ref s] ∧ HouseAt K H a ds ∧ Tree n ds ∧ n ≤ 60 ∧ StateAt K H s S ∧ StOk n ds S ∧
  ∀ (H' : Hp) (q : Addr) (ts : List Addr) (qs : List Q4), Same H H' → H q = none → H' q = some (.lst (ts.map V.ref)) → QL H' ts qs → (∀ m, m ∈ qs ↔ QOk ds S m) → qs.length ≤ 1000 → Q (.ref q) H'
section
variable {P : Program} {w : World} {K : PySem.W.Frag}
      {mg : Str → Option Value} {base : Heap}
theorem ok_moves (T : Bl mg) (D : Def K mg "_law_moves" s_l_moves) : Cal P w K mg base "_law_moves" ["_law_layout", "_law_situation"] 1 (spMoves K) := by
  refine D.ok sc_l_moves (fun _ _ _ _ _ _ us hl => match us, hl with | [_, _], _ => rfl) (fun vs H Q E h => ?_) (fun f cdv A outer s0 H vs Q E hr h => ?_)
  · obtain ⟨a, s, n, ds, S, rfl, _⟩ := h
    rfl
  obtain ⟨a, s, n, ds, S, rfl, hH, tree, hn, st, ok, qn⟩ := h
  obtain ⟨r, b, h1, h2, h3⟩ := id st
  obtain ⟨rs, hrs, hlen, hds⟩ := id hH
  have hdn := tree.len
  have few := ok.few
  refine ⟨_, (pss_cons (ps_asg (pv 1) (pg_tup (n := 2) rfl (pgs_cons (pg_name (i := 2) sc_l_moves.nd rfl (.inl rfl)) (pgs_cons (pg_name (i := 3) sc_l_moves.nd rfl (.inl rfl)) pgs_nil))))
    (pss_cons (ps_set (i := 4) sc_l_moves.nd rfl (.inl rfl) (pe_lst pa_nil))
    (pss_cons (ps_for PassesOwn.never rfl (pi_enumT (by rfl) T.enumerate (pa_cons (pv 0) pa_nil)) (pg_tup (n := 2) rfl (pgs_cons (pg_name (i := 5) sc_l_moves.nd rfl (.inl rfl)) (pgs_cons (pg_tup (n := 2) rfl (pgs_cons (pg_name (i := 6) sc_l_moves.nd rfl (.inl rfl)) (pgs_cons (pg_name (i := 7) sc_l_moves.nd rfl (.inl rfl)) pgs_nil))) pgs_nil)))
    (pss_one (ps_for PassesOwn.never rfl (pi_enumT (by rfl) T.enumerate (pa_cons (pv 2) pa_nil)) (pg_tup (n := 2) rfl (pgs_cons (pg_name (i := 8) sc_l_moves.nd rfl (.inl rfl)) (pgs_cons (pg_name (i := 9) sc_l_moves.nd rfl (.inl rfl)) pgs_nil)))
    (pss_one (ps_if (PW.pt (pw_and (pt_cmpR op_ne (pe_ix ix_tup (pv 3) (pv 5) (fun _ _ => rfl)) (pv 8) (nomark _)) (pw_and1 (pt_cmpR op_in_seq (pv 9) (pe_tup (pa_cons (pv 6) (pa_cons (pv 7) pa_nil))) (by rfl))))) (pss_one (ps_expr (pe_bm PySem.F.plainAttrs_list PySem.F.slot_list_append PySem.F.type_list_append mt_append (pv 4) (pa_cons (pe_tup (pa_cons (pv 8) (pa_cons (pv 9) (pa_cons (pe_ix ix_list (pe_lst (pa_cons (pv 6) (pa_cons (pv 7) pa_nil))) (pe_callTy call_int1 (by rfl) T.int (by decide +kernel) (pa_cons (pe_cmpR op_eq (pv 9) (pv 6) (nomark _)) pa_nil)) (fun _ _ => rfl)) (pa_cons (pv 5) pa_nil))))) pa_nil)))) pss_nil)))))
    (pss_one (ps_ret (pv 4)))))), ?_⟩
  refine ⟨_, rfl, _, _, rfl, h1, rfl, _, _, rfl, _, _, rfl, rfl, ?_⟩
  refine ⟨Nat.zero_le _, fun p np => ?_⟩
  have sp := Same.upd (o := .lst []) np
  refine ⟨_, rfl, a, _, rfl, sp.tup hrs, ?_⟩
  refine for_it (walk_enumT (K := K) (a := a) (xs := rs.map V.ref)) (fun k σ H2 => ∃ (ts : List Addr) (qs : List Q4) (y5 y6 y7 y8 y9 : Option V), σ = [some (.ref a), some (.ref s), some (.ref r), some (.ref b), some (.ref p), y5, y6, y7, y8, y9] ∧ Same H H2 ∧ H2 p = some (.lst (ts.map V.ref)) ∧ QL H2 ts qs ∧
      qs.length ≤ 10 * k ∧ ∀ m, m ∈ qs ↔ m.2.2.2 < k ∧ QOk ds S m)
    ⟨[], [], _, _, _, _, _, rfl, sp, upd_same, ⟨rfl, fun i t m x y => by simp at x⟩, Nat.zero_le _, fun m => by simp⟩
    (fun i σ H1 _ ⟨_, _, _, _, _, _, _, _, sm, _⟩ => sm.tup hrs) ?_ ?_
  · rintro k x σ H2 H3 hk ⟨ts, qs, y5, y6, y7, y8, y9, rfl, sm, hp, ql, len, mem⟩ ⟨t, x1, x2, rfl, nt, rfl, ex1, ex2⟩
    cases ex1
    have hk' : k < ds.length := by
      rw [List.length_map, hlen] at hk
      exact hk
    obtain ⟨e, he⟩ : ∃ e, ds[k]? = some e := get_of rfl hk'
    obtain ⟨rr, hr0⟩ : ∃ r, rs[k]? = some r := get_of hlen hk'
    have ex2' : V.ref rr = x2 := by
      have ex2 : (rs.map V.ref)[k]? = some x2 := ex2
      rw [List.getElem?_map, hr0] at ex2
      exact Option.some.inj ex2
    subst ex2'
    obtain ⟨bk, hbk⟩ : ∃ bk, S.2[k]? = some bk := get_of ok.doors hk'
    have JA := joins_at he
    have ene : e.1 ≠ e.2 := fun z => by
      obtain ⟨side, s1, s2⟩ := tree.side
      exact s1 k e he (by rw [z])
    have smt : Same H2 (upd H2 t (.tup [.int (k : Nat), .ref rr])) := Same.upd nt
    have sm3 := sm.trans smt
    refine ⟨t, _, rfl, SqT.of upd_same, rfl, _, _, rfl, _, _, rfl, ⟨rr, _, rfl, sm3.tup (hds k rr e hr0 he), rfl, _, _, rfl, _, _, rfl, rfl, rfl, ?_⟩⟩
    have hp3 := smt _ _ hp
    have ql3 := ql.same smt
    generalize upd H2 t (.tup [.int (k : Nat), .ref rr]) = H4 at sm3 hp3 ql3 smt
    refine ⟨_, rfl, r, _, rfl, sm3.tup h2, ?_⟩
    refine for_it (walk_enumT (K := K) (a := r) (xs := nv S.1)) (fun i σ H2 => ∃ (ts : List Addr) (qs : List Q4) (y8 y9 : Option V), σ = [some (.ref a), some (.ref s), some (.ref r), some (.ref b), some (.ref p), some (.int (k : Int)), some (.int (e.1 : Int)), some (.int (e.2 : Int)), y8, y9] ∧ Same H H2 ∧ H2 p = some (.lst (ts.map V.ref)) ∧ QL H2 ts qs ∧
        qs.length ≤ 10 * k + i ∧ ∀ m, m ∈ qs ↔ (m.2.2.2 < k ∨ m.2.2.2 = k ∧ m.1 < i) ∧ QOk ds S m)
      ⟨ts, qs, _, _, rfl, sm3, hp3, ql3, by omega, fun m => by rw [mem m]; exact ⟨fun h => ⟨.inl h.1, h.2⟩, fun h => ⟨by omega, h.2⟩⟩⟩
      (fun i σ H1 _ ⟨_, _, _, _, _, sm, _⟩ => sm.tup h2) ?_ ?_
    · rintro i x σ H5 H6 hi ⟨ts, qs, y8, y9, rfl, sm5, hp5, ql5, len5, mem5⟩ ⟨t2, x1, x2, rfl, nt2, rfl, ex1, ex2⟩
      cases ex1
      obtain ⟨v, hv, rfl⟩ := nv_some ex2
      rw [nv_len] at hi
      have sm6 := sm5.trans (Same.upd (o := .tup [.int (i : Nat), .int (v : Int)]) nt2)
      refine ⟨t2, _, rfl, SqT.of upd_same, rfl, _, _, rfl, _, _, rfl, rfl, ?_⟩
      have hp6 := (Same.upd (o := .tup [.int (i : Nat), .int (v : Int)]) nt2) _ _ hp5
      have ql6 := ql5.same (Same.upd (o := .tup [.int (i : Nat), .int (v : Int)]) nt2)
      generalize upd H5 t2 (.tup [.int (i : Nat), .int (v : Int)]) = H7 at sm6 hp6 ql6
      refine ⟨_, rfl, _, rfl, b, _, _, _, rfl, rfl, sm6.tup h3, nv_at hbk, _, rfl, rfl, _, rfl, ?_⟩
      by_cases cb : bk = i
      · rw [decide_eq_true (show V.int (bk : Int) = V.int (i : Int) by rw [cb])]
        refine iteF (iteF ⟨ts, qs, _, _, rfl, sm6, hp6, ql6, by omega, q_skip mem5 fun m e1 e2 o => o.2.2 (by rw [e2, hbk, e1, cb])⟩)
      rw [decide_eq_false (show ¬ V.int (bk : Int) = V.int (i : Int) from fun z => cb (by have := V.int.inj z; omega))]
      refine iteT ?_
      refine ⟨_, rfl, _, rfl, _, rfl, by show 2 ≤ sizeLine; decide, fun p2 np2 => ?_⟩
      have s7 := Same.upd (o := .tup [.int (e.1 : Int), .int (e.2 : Int)]) np2
      refine ⟨p2, _, rfl, .inr (SqT.of upd_same), rfl, rfl, _, rfl, ?_⟩
      have s67 := sm6.trans s7
      have hp7 := s7 _ _ hp6
      have ql7 := ql6.same s7
      generalize upd H7 p2 (.tup [.int (e.1 : Int), .int (e.2 : Int)]) = H8 at s67 hp7 ql7 s7
      have hin : inV (V.int (v : Int)) [V.int (e.1 : Int), V.int (e.2 : Int)] = decide (v ∈ [e.1, e.2]) := inV_nv v [e.1, e.2]
      show if inV (V.int (v : Int)) [V.int (e.1 : Int), V.int (e.2 : Int)] = true then _ else _
      rw [hin]
      by_cases cv : v ∈ [e.1, e.2]
      case neg =>
        rw [decide_eq_false cv]
        refine iteF ⟨ts, qs, _, _, rfl, s67, hp7, ql7, by omega, q_skip mem5 fun m e1 e2 o => cv ?_⟩
        obtain ⟨o1, o2, o3⟩ := o
        rw [e1, hv] at o1
        rw [e2] at o2
        rw [Option.some.inj o1]
        rcases (JA _ _).mp o2 with h | h
        · rw [h.1]; simp
        · rw [h.1]; simp
      rw [decide_eq_true cv]
      refine iteT ⟨_, rfl, .inl ⟨rfl, _, SqL.of hp7⟩, ?_⟩
      refine ⟨_, rfl, _, rfl, _, rfl, _, rfl, by show 2 ≤ sizeLine; decide, fun pl npl => ?_⟩
      have s8 := Same.upd (o := .lst [.int (e.1 : Int), .int (e.2 : Int)]) npl
      have hp8 := s8 _ _ hp7
      have ql8 := ql7.same s8
      have s68 := s67.trans s8
      have hl8 : (upd H8 pl (.lst [.int (e.1 : Int), .int (e.2 : Int)])) pl = some (.lst (nv [e.1, e.2])) := upd_same
      generalize upd H8 pl (.lst [.int (e.1 : Int), .int (e.2 : Int)]) = H9 at hp8 ql8 s68 s8 hl8
      refine ⟨_, rfl, _, rfl, rfl, .inr ⟨_, rfl, ?_⟩⟩
      have fin : ∀ y : Nat, QOk ds S (i, v, y, k) → (∀ m : Q4, m.1 = i → m.2.2.2 = k → QOk ds S m → m = (i, v, y, k)) → ∀ (j : Nat) (kk : Int), kk = (j : Int) → [e.1, e.2][j]? = some y →
          rIxL K (.ref pl) (.int kk) H9 fun x H1 => tCons (tVar 5) tNil [some (.ref a), some (.ref s), some (.ref r), some (.ref b), some (.ref p), some (.int (k : Int)), some (.int (e.1 : Int)), some (.int (e.2 : Int)), some (.int (i : Int)), some (.int (v : Int))] H1 fun xs H2 =>
            (V.int (i : Int) :: V.int (v : Int) :: x :: xs).length ≤ sizeLine ∧ ∀ q, H2 q = none → rAppend (.ref p) [.ref q] (upd H2 q (.tup (V.int (i : Int) :: V.int (v : Int) :: x :: xs))) fun _ H' => 
              ∃ (ts : List Addr) (qs : List Q4) (y8 y9 : Option V), [some (V.ref a), some (.ref s), some (.ref r), some (.ref b), some (.ref p), some (.int (k : Int)), some (.int (e.1 : Int)), some (.int (e.2 : Int)), some (.int (i : Int)), some (.int (v : Int))] = [some (.ref a), some (.ref s), some (.ref r), some (.ref b), some (.ref p), some (.int (k : Int)), some (.int (e.1 : Int)), some (.int (e.2 : Int)), y8, y9] ∧ Same H H' ∧ H' p = some (.lst (ts.map V.ref)) ∧ QL H' ts qs ∧
        qs.length ≤ 10 * k + (i + 1) ∧ ∀ m, m ∈ qs ↔ (m.2.2.2 < k ∨ m.2.2.2 = k ∧ m.1 < i + 1) ∧ QOk ds S m := by
        intro y oy un j kk ek hj
        subst ek
        refine ⟨pl, _, _, _, rfl, rfl, SqL.of hl8, nv_at hj, ?_⟩
        refine ⟨_, rfl, by show 4 ≤ sizeLine; decide, fun t3 nt3 => ?_⟩
        have hp9 := (Same.upd (o := .tup (tQ (i, v, y, k))) nt3) _ _ hp8
        refine ⟨p, _, _, rfl, rfl, hp9, by rw [List.length_map, ql8.1]; exact small1000 (by omega), ?_⟩
        refine ⟨ts ++ [t3], qs ++ [(i, v, y, k)], _, _, rfl, (s68.trans (Same.upd nt3)).at np, by rw [upd_same, List.map_append]; rfl, ql8.push hp8 nt3, by rw [List.length_append, List.length_singleton]; omega, q_add mem5 rfl rfl oy un⟩
      by_cases c1 : v = e.1
      · have ok0 : QOk ds S (i, v, e.2, k) := ⟨hv, (JA _ _).mpr (.inl ⟨c1, rfl⟩), fun z => cb (Option.some.inj (hbk.symm.trans z))⟩
        rw [decide_eq_true (show V.int (v : Int) = V.int (e.1 : Int) by rw [c1])]
        refine fin e.2 ok0 (fun m e1 e2 o => ?_) 1 _ rfl rfl
        obtain ⟨m1, m2, m3, m4⟩ := m
        obtain ⟨o1, o2, o3⟩ := o
        dsimp only at e1 e2 o1 o2 o3
        subst e1
        subst e2
        rw [hv] at o1
        cases Option.some.inj o1
        rcases (JA _ _).mp o2 with h | h
        · rw [h.2]
        · exact absurd (c1.symm.trans h.1) ene
      · have c2 : v = e.2 := by
          rcases List.mem_cons.mp cv with h | h
          · exact absurd h c1
          · exact List.mem_singleton.mp h
        have ok0 : QOk ds S (i, v, e.1, k) := ⟨hv, (JA _ _).mpr (.inr ⟨c2, rfl⟩), fun z => cb (Option.some.inj (hbk.symm.trans z))⟩
        rw [decide_eq_false (show ¬ V.int (v : Int) = V.int (e.1 : Int) from fun z => c1 (by have := V.int.inj z; omega))]
        refine fin e.1 ok0 (fun m e1 e2 o => ?_) 0 _ rfl rfl
        obtain ⟨m1, m2, m3, m4⟩ := m
        obtain ⟨o1, o2, o3⟩ := o
        dsimp only at e1 e2 o1 o2 o3
        subst e1
        subst e2
        rw [hv] at o1
        cases Option.some.inj o1
        rcases (JA _ _).mp o2 with h | h
        · exact absurd h.1 c1
        · rw [h.2]
    · rintro σ H5 ⟨ts, qs, y8, y9, rfl, sm5, hp5, ql5, len5, mem5⟩
      rw [nv_len] at len5 mem5
      refine ⟨ts, qs, _, _, _, _, _, rfl, sm5, hp5, ql5, by omega, fun m => ?_⟩
      rw [mem5 m]
      exact ⟨fun h => ⟨by omega, h.2⟩, fun h => ⟨by have := get_lt h.2.1; omega, h.2⟩⟩
  · rintro σ H2 ⟨ts, qs, y5, y6, y7, y8, y9, rfl, sm, hp, ql, len, mem⟩
    refine ⟨_, rfl, qn H2 p ts qs sm np hp ql (fun m => ?_) (by rw [List.length_map, hlen] at len; omega)⟩
    rw [mem m]
    refine ⟨fun h => h.2, fun h => ⟨?_, h⟩⟩
    rw [List.length_map, hlen]
    exact joins_lt h.2.1
end
end K5

namespace K5
open PySem PySem.Spec PyProof.Rows L2
def tri (m : Q4) : Mv := (m.1, m.2.1, m.2.2.1)
def dQ (m : Q4) : PyData := .tuple [.int (m.1 : Int), .int (m.2.1 : Int), .int (m.2.2.1 : Int), .int (m.2.2.2 : Int)]
def dQs (l : List Q4) : PyData := .list (l.map dQ)
theorem dQ_lay (z : Q4) : (dQ z).canLay0 = true := by simp [dQ, PyData.canLay0, PyData.canLayAll0]
theorem dQ_depth (z : Q4) : (dQ z).depth ≤ 2 := by simp [dQ, PyData.depth, PyData.depthAll]
theorem dQs_lay : ∀ zs : List Q4, PyData.canLayAll0 (zs.map dQ) = true
  | [] => by simp [PyData.canLayAll0]
  | z :: zs => by simp [PyData.canLayAll0, dQ_lay z, dQs_lay zs]
theorem dQs_depth : ∀ zs : List Q4, PyData.depthAll (zs.map dQ) ≤ 2
  | [] => by simp [PyData.depthAll]
  | z :: zs => by
    have h1 := dQs_depth zs
    have h2 := dQ_depth z
    simp only [List.map_cons, PyData.depthAll]
    omega
theorem dQs_shaped (l : List Q4) : SeqAt.shaped (dQs l) = true := by
  have h := dQs_depth l
  refine shaped_mk ?_ ?_
  · simp only [dQs, PyData.canLay0]
    exact dQs_lay l
  · simp only [dQs, PyData.depth]
    omega
theorem dM_shaped (m : Mv) : SeqAt.shaped (dM m) = true := shaped_mk (dM_lay m) (by have := dM_depth m; omega)
theorem dQs_nil (l : List Q4) : PyData.eqv (dQs l) (dQs []) = decide (l = []) := by
  cases l with
  | nil => exact d_refl (dQs_shaped [])
  | cons m r =>
    rw [decide_eq_false (by simp)]
    simp only [dQs, List.map_cons, List.map_nil, PyData.eqv, PyData.eqvAll]
theorem dM_eqv (a b : Mv) : PyData.eqv (dM a) (dM b) = decide (a = b) := by
  obtain ⟨a1, a2, a3⟩ := a
  obtain ⟨b1, b2, b3⟩ := b
  by_cases h : (a1, a2, a3) = (b1, b2, b3)
  · rw [h, decide_eq_true rfl]
    exact d_refl (dM_shaped _)
  · rw [decide_eq_false h]
    simp only [dM, PyData.eqv, PyData.eqvAll]
    simp only [Prod.mk.injEq] at h
    rw [Bool.eq_false_iff]
    intro z
    simp at z
    exact h (by omega)
theorem dp_Q {K : PySem.W.Frag} {H : Hp} : ∀ (ts : List Addr) (l : List Q4), QL H ts l → DpAll K H (ts.map V.ref) (l.map dQ)
  | [], [], _ => .nil
  | [], m :: l, h => by have := h.1; simp at this
  | t :: ts, [], h => by have := h.1; simp at this
  | t :: ts, m :: l, h => .cons (.tup (SqT.of (h.2 0 t m rfl rfl)) (.cons (.int _) (.cons (.int _) (.cons (.int _) (.cons (.int _) .nil))))) (dp_Q ts l ⟨by have := h.1; simpa using this, fun i t' m' x y => h.2 (i + 1) t' m' x y⟩)
theorem QL.app {H : Hp} {ts : List Addr} {qs : List Q4} {t : Addr} {m : Q4} (h : QL H ts qs) (ht : H t = some (.tup (tQ m))) : QL H (ts ++ [t]) (qs ++ [m]) := by
  refine ⟨by rw [List.length_append, List.length_append, h.1]; rfl, fun i a b x y => ?_⟩
  by_cases hi : i < ts.length
  · rw [List.getElem?_append_left hi] at x
    rw [List.getElem?_append_left (by rw [← h.1]; exact hi)] at y
    exact h.2 i a b x y
  · rw [List.getElem?_append_right (by omega)] at x
    rw [List.getElem?_append_right (by rw [← h.1]; omega), ← h.1] at y
    generalize i - ts.length = j at x y
    match j with
    | 0 => cases x; cases y; exact ht
    | j + 1 => simp at x
theorem QL.but {g : Addr} {H H' : Hp} {ts : List Addr} {qs : List Q4} {xs : List V} (h : QL H ts qs) (hg : H g = some (.lst xs)) (s : But g H H') : QL H' ts qs := ⟨h.1, fun i t m x y => s _ _ (ne_lt hg (h.2 i t m x y)) (h.2 i t m x y)⟩
/-- the moves, one after the other, and where they lead -/
def Run (ds : List (Nat × Nat)) : S2 → List Mv → S2 → Prop
  | S, [], S' => S = S'
  | S, m :: r, S' => ∃ d, QOk ds S (m.1, m.2.1, m.2.2, d) ∧ Run ds (stepS S (m.1, m.2.1, m.2.2, d)) r S'
theorem stepS_ok {n : Nat} {ds : List (Nat × Nat)} {S : S2} {m : Q4} (T : Tree n ds) (h : StOk n ds S) (o : QOk ds S m) : StOk n ds (stepS S m) := by
  obtain ⟨o1, o2, o3⟩ := o
  have lt := get_lt o1
  have l2 := (o2.lt T).2.1
  refine ⟨?_, ?_, ?_, ?_, ?_⟩
  · show 1 ≤ (S.1.set _ _).length
    rw [List.length_set]; exact h.one
  · show (S.1.set _ _).length ≤ _
    rw [List.length_set]; exact h.few
  · intro x hx
    rcases List.mem_or_eq_of_mem_set hx with hx | rfl
    · exact h.rooms x hx
    · exact l2
  · show (S.2.set _ _).length = _
    rw [List.length_set]; exact h.doors
  · intro y hy
    show y < (S.1.set _ _).length
    rw [List.length_set]
    rcases List.mem_or_eq_of_mem_set hy with hy | rfl
    · exact h.bars y hy
    · exact lt
def spPlay (K : PySem.W.Frag) : Sp := fun vs H Q _ => ∃ (a s t : Addr) (n : Nat) (ds : List (Nat × Nat)) (S S' : S2) (ms : List Mv), vs = [.ref a, .ref s, .ref t] ∧ HouseAt K H a ds ∧ Tree n ds ∧ n ≤ 60 ∧ StateAt K H s S ∧ StOk n ds S ∧ TrisAt H t ms ∧ Run ds S ms S' ∧
  ∀ (H' : Hp) (q : Addr), Same H H' → StateAt K H' q S' → Q (.ref q) H'
section
variable {P : Program} {w : World} {K : PySem.W.Frag}
      {mg : Str → Option Value} {base : Heap}
theorem ok_play (T : Bl mg) (D : Def K mg "_law_play" s_l_play) (C_l_moves : Cal P w K mg base "_law_moves" ["_law_layout", "_law_situation"] 1 (spMoves K)) (C_l_after_move : Cal P w K mg base "_law_after_move" ["_law_situation", "_law_move"] 1 (spAfter K)) : Cal P w K mg base "_law_play" ["_law_layout", "_law_situation", "_law_moves_here"] 2 (spPlay K) := by
  refine D.ok sc_l_play (fun _ _ _ _ _ _ us hl => match us, hl with | [_, _, _], _ => rfl) (fun vs H Q E h => ?_) (fun f cdv A outer s0 H vs Q E hr h => ?_)
  · obtain ⟨a, s, t, n, ds, S, S', ms, rfl, _⟩ := h
    rfl
  obtain ⟨a, s, t, n, ds, S, S', ms, rfl, hH, tree, hn, st, ok, ⟨ts, ht, tl⟩, run, qn⟩ := h
  have hdn := tree.len
  obtain ⟨f_l_moves, fd_l_moves, g_l_moves, k_l_moves, b_l_moves, G_l_moves⟩ := C_l_moves
  obtain ⟨f_l_after_move, fd_l_after_move, g_l_after_move, k_l_after_move, b_l_after_move, G_l_after_move⟩ := C_l_after_move
  refine ⟨_, (pss_cons (ps_for PassesOwn.never rfl (pi_list (pv 2)) (pg_tup (n := 3) rfl (pgs_cons (pg_name (i := 3) sc_l_play.nd rfl (.inr rfl)) (pgs_cons (pg_name (i := 4) sc_l_play.nd rfl (.inr rfl)) (pgs_cons (pg_name (i := 5) sc_l_play.nd rfl (.inr rfl)) pgs_nil))))
    (pss_cons (ps_setLc (i := 6) (own := [("_law_move", 7)]) (g := gName 7)  (tt := (tTest (tOp (rEqD K) (tSl (rSlT K) (tVar 7) tNoPart (tPart (tC (.int 3)))) (tTup (tCons (tVar 3) (tCons (tVar 4) (tCons (tVar 5) tNil))))))) rfl sc_l_play.nd rfl rfl (sw_true rfl rfl rfl (by decide +kernel)) (pi_list (pe_call G_l_moves (hr.mono (by decide)) (by rfl) g_l_moves k_l_moves b_l_moves .nil pass0 (pa_cons (pv 0) (pa_cons (pv 1) pa_nil)))) (blkOk_by (N := N_l_play) (sc := defScope s_l_play) (own := [("_law_move", 7)]) (by decide +kernel)) (fun _ _ _ _ _ => (pg_name (i := 7) sc_l_play.nd rfl (.inl rfl) (.inr rfl))) (fun _ _ _ _ _ => (pts_one (pt_cmpR (op_eqD hr.units) (pe_slice sl_tup (pv 7) po_none (po_some pe_int)) (pe_tup (pa_cons (pv 3) (pa_cons (pv 4) (pa_cons (pv 5) pa_nil)))) (nomark _)))) (fun _ _ _ _ _ => (pv 7)))
    (pss_cons (ps_if (pt_cmpR (op_eqD hr.units) (pv 6) (pe_lst pa_nil) (nomark _)) (pss_one (ps_ret pe_non)) pss_nil)
    (pss_one (ps_set (i := 1) sc_l_play.nd rfl (.inl rfl) (pe_call G_l_after_move (hr.mono (by decide)) (by rfl) g_l_after_move k_l_after_move b_l_after_move .nil pass0 (pa_cons (pv 1) (pa_cons (pe_ix ix_list (pv 6) pe_int (fun _ _ => rfl)) pa_nil))))))))
    (pss_one (ps_ret (pv 1)))), ?_⟩
  refine ⟨_, rfl, t, rfl, ⟨_, SqL.of ht⟩, ?_⟩
  refine for_it (walk_list (K := K) (a := t) (xs := ts.map V.ref)) (fun i σ H2 => ∃ (si : Addr) (Si : S2) (y3 y4 y5 y6 y7 : Option V), σ = [some (.ref a), some (.ref si), some (.ref t), y3, y4, y5, y6, y7] ∧ Same H H2 ∧ StateAt K H2 si Si ∧ StOk n ds Si ∧ Run ds Si (ms.drop i) S')
    ⟨s, S, _, _, _, _, _, rfl, Same.refl _, st, ok, run⟩ (fun i σ H2 _ ⟨_, _, _, _, _, _, _, _, sm, _⟩ => SqL.of (sm _ _ ht)) ?_ ?_
  · rintro i x σ H2 H3 hi ⟨si, Si, y3, y4, y5, y6, y7, rfl, sm, sti, oki, rui⟩ ⟨rfl, ex⟩
    have hi' : i < ms.length := by
      rw [List.length_map, tl.1] at hi
      exact hi
    obtain ⟨t1, ht1⟩ : ∃ t1, ts[i]? = some t1 := get_of tl.1 hi'
    obtain ⟨m, hm⟩ : ∃ m, ms[i]? = some m := get_of rfl hi'
    have ex : (ts.map V.ref)[i]? = some x := ex
    rw [List.getElem?_map, ht1] at ex
    cases ex
    have dh : ms.drop i = m :: ms.drop (i + 1) := by
      rw [List.drop_eq_getElem_cons hi']
      rw [List.getElem?_eq_getElem hi'] at hm
      rw [Option.some.inj hm]
    rw [dh] at rui
    obtain ⟨d, qok, rui⟩ := rui
    refine ⟨t1, _, rfl, SqT.of (sm _ _ (tl.2 i t1 m ht1 hm)), rfl, _, _, rfl, _, _, rfl, _, _, rfl, rfl, ?_⟩
    refine ⟨_, rfl, _, rfl, a, si, n, ds, Si, rfl, hH.same sm, tree, hn, sti, oki, fun H4 q fs qs s4 nq hq ql mem qlen => ?_⟩
    refine ⟨q, rfl, ⟨_, SqL.of hq⟩, fun pd npd => ?_⟩
    refine lc_it (walk_list (K := K) (a := q) (xs := fs.map V.ref)) (fun j H5 => ∃ (gs : List Addr), Same H4 H5 ∧ H5 pd = some (.lst (gs.map V.ref)) ∧ QL H5 gs ((qs.take j).filter fun z => decide (tri z = m)))
      ⟨[], Same.upd npd, upd_same, ⟨rfl, fun i t m x y => by simp at x⟩⟩ (fun j H5 _ ⟨_, h, _⟩ => SqL.of (h _ _ hq)) ?_ ?_
    · rintro j x H5 H6 hj ⟨gs, s5, hp5, ql5⟩ ⟨rfl, ex⟩
      have hj' : j < qs.length := by
        rw [List.length_map, ql.1] at hj
        exact hj
      obtain ⟨t2, ht2⟩ : ∃ t2, fs[j]? = some t2 := get_of ql.1 hj'
      obtain ⟨z, hz⟩ : ∃ z, qs[j]? = some z := get_of rfl hj'
      have ex : (fs.map V.ref)[j]? = some x := ex
      rw [List.getElem?_map, ht2] at ex
      cases ex
      have htz := s5 _ _ (ql.2 j t2 z ht2 hz)
      refine ⟨rfl, ?_⟩
      refine ⟨_, rfl, _, rfl, t2, _, rfl, SqT.of htz, (show ¬ (HT.sIx 4 0 none = 0 ∧ HT.sIx 4 4 (some 3) = 4) by decide +kernel), fun p1 np1 => ?_⟩
      have hc : cutV (tQ z) none (some 3) = tI (tri z) := rfl
      rw [hc]
      have sa := Same.upd (o := .tup (tI (tri z))) np1
      have hp1 : (upd H6 p1 (.tup (tI (tri z)))) p1 = some (.tup (tI (tri z))) := upd_same
      have s5a := s5.trans sa
      have hp5a := sa _ _ hp5
      have ql5a := ql5.same sa
      have htz5a := sa _ _ htz
      generalize upd H6 p1 (.tup (tI (tri z))) = H7 at sa hp1 s5a hp5a ql5a htz5a
      refine ⟨_, rfl, _, rfl, _, rfl, by show 3 ≤ sizeLine; decide, fun p2 np2 => ?_⟩
      have sb := Same.upd (o := .tup (tI m)) np2
      refine ⟨dM (tri z), dM m, .tup (SqT.of (sb _ _ hp1)) (.cons (.int _) (.cons (.int _) (.cons (.int _) .nil))), .tup (SqT.of upd_same) (.cons (.int _) (.cons (.int _) (.cons (.int _) .nil))), dM_shaped _, dM_shaped _, _, rfl, ?_⟩
      rw [dM_eqv]
      have s5b := s5a.trans sb
      have hp5b := sb _ _ hp5a
      have ql5b := ql5a.same sb
      have htz5b := sb _ _ htz5a
      have tk : (qs.take (j + 1)).filter (fun z => decide (tri z = m)) = (qs.take j).filter (fun z => decide (tri z = m)) ++ if tri z = m then [z] else [] := by
        rw [List.take_succ, hz, List.filter_append]
        congr 1
        by_cases c : tri z = m
        · simp [c]
        · simp [c]
      rw [tk]
      by_cases c : tri z = m
      · rw [decide_eq_true c, if_pos c]
        have gl : gs.length ≤ qs.length := by
          rw [ql5b.1]
          refine Nat.le_trans (List.length_filter_le _ _) ?_
          rw [List.length_take]
          omega
        refine iteT ⟨_, rfl, _, hp5b, by rw [List.length_map]; exact small1000 (by omega), gs ++ [t2], s5b.at (s4.free npd |> fun _ => npd), by rw [upd_same, List.map_append]; rfl, ?_⟩
        exact (ql5b.app htz5b).but hp5b (But.upd (But.refl _ _) _)
      · rw [decide_eq_false c, if_neg c, List.append_nil]
        exact iteF ⟨gs, s5b, hp5b, ql5b⟩
    · rintro H5 ⟨gs, s5, hp5, ql5⟩
      rw [List.length_map, ql.1, List.take_length] at ql5
      have inq : (m.1, m.2.1, m.2.2, d) ∈ qs := (mem _).mpr qok
      obtain ⟨z, zs, hzs⟩ : ∃ z zs, qs.filter (fun z => decide (tri z = m)) = z :: zs := by
        cases e : qs.filter (fun z => decide (tri z = m)) with
        | nil =>
          have : (m.1, m.2.1, m.2.2, d) ∈ qs.filter (fun z => decide (tri z = m)) := List.mem_filter.mpr ⟨inq, decide_eq_true rfl⟩
          rw [e] at this
          cases this
        | cons z zs => exact ⟨z, zs, rfl⟩
      have hzm : z ∈ qs.filter (fun z => decide (tri z = m)) := by rw [hzs]; exact List.mem_cons_self
      obtain ⟨z1, z2⟩ := List.mem_filter.mp hzm
      have z2 := of_decide_eq_true z2
      have z3 := (mem z).mp z1
      have ez : z = (m.1, m.2.1, m.2.2, d) := by
        obtain ⟨a1, a2, a3, a4⟩ := z
        cases z2
        rw [show a4 = d from tree.one_door z3.2.1 qok.2.1]
        rfl
      rw [hzs, ez] at ql5
      have s35 := (sm.trans s4).trans s5
      have sti5 := sti.same (s4.trans s5)
      refine ⟨_, rfl, Nat.zero_le _, fun pe npe => ?_⟩
      have se := Same.upd (o := .lst []) npe
      refine ⟨dQs _, dQs [], .lst (SqL.of (se _ _ hp5)) (dp_Q _ _ (ql5.same se)), .lst (SqL.of upd_same) .nil, dQs_shaped _, dQs_shaped _, _, rfl, ?_⟩
      rw [dQs_nil, decide_eq_false (by simp)]
      refine iteF ?_
      have s36 := s35.trans se
      have sti6 := sti5.same se
      have hp6 := se _ _ hp5
      have ql6 := ql5.same se
      obtain ⟨g0, gr, rfl⟩ : ∃ g0 gr, gs = g0 :: gr := by
        cases gs with
        | nil => have := ql5.1; simp at this
        | cons g0 gr => exact ⟨g0, gr, rfl⟩
      have hg0 := ql6.2 0 g0 _ rfl rfl
      have oki2 := stepS_ok tree oki qok
      have f1 := oki.few
      have f2 := oki.doors
      refine ⟨_, rfl, _, rfl, pd, _, _, V.ref g0, rfl, rfl, SqL.of hp6, atI_nat (j := 0) rfl, si, g0, Si, _, rfl, sti6, hg0, get_lt qok.1, by rw [f2]; exact joins_lt qok.2.1, by omega, by omega, fun H7 q7 s7 st7 => ?_⟩
      exact ⟨q7, _, _, _, _, _, _, rfl, s36.trans s7, st7, oki2, rui⟩
  · rintro σ H2 ⟨si, Si, y3, y4, y5, y6, y7, rfl, sm, sti, oki, rui⟩
    rw [List.length_map, tl.1, List.drop_length] at rui
    refine ⟨_, rfl, qn H2 si sm ?_⟩
    rw [← show Si = S' from rui]
    exact sti
end
end K5

namespace K5
open PySem PySem.Spec PyProof.Rows L2
def IntR (v : V) (o : Nat) : Prop := v = .int (o : Int)
/-- each key with the length of its way -/
def Dst (ds : List (Nat × Nat)) (spot : Nat) (ks : List (Nat × Nat)) : Prop := ∀ x o, (x, o) ∈ ks → ∃ p, Way ds [] spot x p ∧ p.length = o ∧ ∀ d ∈ p, ∀ u v, Joins ds d u v → u ∈ ks.map Prod.fst
theorem Dst.start {ds : List (Nat × Nat)} {spot : Nat} : Dst ds spot [(spot, 0)] := by
  intro x o h
  rw [List.mem_singleton] at h
  cases h
  exact ⟨[], ⟨.nil _, List.nodup_nil, fun d h => (List.not_mem_nil h).elim⟩, rfl, fun d h => (List.not_mem_nil h).elim⟩
theorem Dst.add {n : Nat} {ds : List (Nat × Nat)} {spot here y d o : Nat} {ks : List (Nat × Nat)} (T : Tree n ds) (D : Dst ds spot ks) (h : (here, o) ∈ ks) (j : Joins ds d here y) (ny : y ∉ ks.map Prod.fst) : Dst ds spot (ks ++ [(y, o + 1)]) := by
  intro x o' hx
  rw [List.map_append]
  rcases List.mem_append.mp hx with hx | hx
  · obtain ⟨p, a, b, c⟩ := D x o' hx
    exact ⟨p, a, b, fun d hd u v j => List.mem_append.mpr (.inl (c d hd u v j))⟩
  · rw [List.mem_singleton] at hx
    cases hx
    obtain ⟨p, a, b, c⟩ := D here o h
    refine ⟨p ++ [d], Way.ext a j List.not_mem_nil (fun z => ny (c d z y here j.symm)), by rw [List.length_append, b]; rfl, fun d' hd u v j' => ?_⟩
    rcases List.mem_append.mp hd with hd | hd
    · exact List.mem_append.mpr (.inl (c d' hd u v j'))
    · rw [List.mem_singleton] at hd
      subst hd
      by_cases e : u = y
      · exact List.mem_append.mpr (.inr (by rw [e]; exact List.mem_singleton.mpr rfl))
      · refine List.mem_append.mpr (.inl ?_)
        have hh : here ∈ ks.map Prod.fst := List.mem_map.mpr ⟨_, h, rfl⟩
        have uh : u = here := by
          rcases j with j | j <;> rcases j' with j' | j'
          · exact (Prod.ext_iff.mp (Option.some.inj (j'.symm.trans j))).1
          · exact absurd (Prod.ext_iff.mp (Option.some.inj (j'.symm.trans j))).2 e
          · exact absurd (Prod.ext_iff.mp (Option.some.inj (j'.symm.trans j))).1 e
          · exact (Prod.ext_iff.mp (Option.some.inj (j'.symm.trans j))).2
        rw [uh]
        exact hh
def dN (l : List Nat) : PyData := .list (dIs l)
theorem dN_shaped (l : List Nat) : SeqAt.shaped (dN l) = true := by
  have h := dIs_depth l
  refine shaped_mk ?_ ?_
  · simp only [dN, PyData.canLay0]
    exact dIs_lay l
  · simp only [dN, PyData.depth]
    omega
theorem dN_nil (l : List Nat) : PyData.eqv (dN l) (dN []) = decide (l = []) := by
  cases l with
  | nil => exact d_refl (dN_shaped [])
  | cons m r =>
    rw [decide_eq_false (by simp)]
    simp only [dN, dIs, List.map_cons, List.map_nil, PyData.eqv, PyData.eqvAll]
structure DS (Hb H : Hp) (pw pq : Addr) (ks : List (Nat × Nat)) (ws : List Nat) : Prop where
  sm : Same Hb H
  w : ∃ kvs, H pw = some (.dK kvs) ∧ DicR IntR kvs ks
  q : H pq = some (.lst (nv ws))
  le : ws.length ≤ ks.length
theorem DS.ne {Hb H pw pq ks ws} (S : DS Hb H pw pq ks ws) : pw ≠ pq := by
  obtain ⟨kvs, h, _⟩ := S.w
  exact ne_of h S.q (by intro z; cases z)
theorem DS.setq {Hb H pw pq ks ws ws'} (S : DS Hb H pw pq ks ws) (nq : Hb pq = none) (hl : ws'.length ≤ ks.length) : DS Hb (upd H pq (.lst (nv ws'))) pw pq ks ws' := by
  obtain ⟨kvs, h, r⟩ := S.w
  exact ⟨S.sm.at nq, ⟨kvs, by rw [upd_ne S.ne]; exact h, r⟩, upd_same, hl⟩
theorem DS.add {Hb H pw pq ks ws} (S : DS Hb H pw pq ks ws) (nw : Hb pw = none) {kvs} (hk : H pw = some (.dK kvs)) (r : DicR IntR kvs ks) {y o : Nat} (ny : y ∉ ks.map Prod.fst) :
    DS Hb (upd H pw (.dK (putK kvs (Sum.inl (y : Int)) (.int (o : Int))))) pw pq (ks ++ [(y, o)]) ws := by
  refine ⟨S.sm.at nw, ⟨_, upd_same, r.add ny rfl⟩, ?_, by rw [List.length_append]; exact Nat.le_trans S.le (Nat.le_add_right _ _)⟩
  rw [upd_ne S.ne.symm]
  exact S.q
def spDist (K : PySem.W.Frag) : Sp := fun vs H Q _ => ∃ (a : Addr) (ds : List (Nat × Nat)) (n spot : Nat), vs = [.ref a, .int (spot : Int)] ∧ HouseAt K H a ds ∧ Tree n ds ∧ n ≤ 1000 ∧ spot < n ∧
  ∀ (H' : Hp) (p : Addr) (kvs : List (Key × V)), Same H H' → H p = none → H' p = some (.dK kvs) → (∀ y, y < n → ∃ w, Way ds [] spot y w ∧ valV kvs (Sum.inl (y : Int)) = some (.int (w.length : Int))) → Q (.ref p) H'
section
variable {P : Program} {w : World} {K : PySem.W.Frag}
      {mg : Str → Option Value} {base : Heap}
theorem ok_distances (T : Bl mg) (D : Def K mg "_law_distances" s_l_distances) (C_l_around : Cal P w K mg base "_law_around" ["_law_layout"] 1 (spAround K)) : Cal P w K mg base "_law_distances" ["_law_layout", "_law_spot"] 2 (spDist K) := by
  refine D.ok sc_l_distances (fun _ _ _ _ _ _ us hl => match us, hl with | [_, _], _ => rfl) (fun vs H Q E h => ?_) (fun f cdv A outer s H vs Q E hr h => ?_)
  · obtain ⟨a, ds, n, spot, rfl, _⟩ := h
    rfl
  obtain ⟨a, ds, n, spot, rfl, hH, tree, hn, hspot, q⟩ := h
  obtain ⟨f_l_around, fd_l_around, g_l_around, k_l_around, b_l_around, G_l_around⟩ := C_l_around
  refine ⟨_, (pss_cons (ps_set (i := 2) sc_l_distances.nd rfl (.inl rfl) (pe_call G_l_around (hr.mono (by decide)) (by rfl) g_l_around k_l_around b_l_around .nil pass0 (pa_cons (pv 0) pa_nil)))
    (pss_cons (ps_set (i := 3) sc_l_distances.nd rfl (.inl rfl) (pe_disp (pps_cons (pv 1) pe_int pps_nil) (by rfl) (by rfl) (fun z => by cases z) (by decide)))
    (pss_cons (ps_set (i := 4) sc_l_distances.nd rfl (.inl rfl) (pe_lst (pa_cons (pv 1) pa_nil)))
    (pss_cons (ps_while PassesOwn.never (pt_cmpR (op_neD hr.units) (pv 4) (pe_lst pa_nil) (nomark _)) (pss_cons (ps_set (i := 5) sc_l_distances.nd rfl (.inl rfl) (pe_bm0 PySem.F.plainAttrs_list PySem.F.slot_list_pop PySem.F.type_list_pop mt_pop (pv 4)))
    (pss_one (ps_for PassesOwn.never rfl (pi_list (pe_ix ix_list (pv 2) (pv 5) (fun _ _ => rfl))) (pg_tup (n := 2) rfl (pgs_cons (pg_name (i := 6) sc_l_distances.nd rfl (.inl rfl)) (pgs_cons (pg_name (i := 7) sc_l_distances.nd rfl (.inl rfl)) pgs_nil)))
    (pss_one (ps_if (pt_cmp (pc_dnotin (hu_of hr) (pv 6) (pv 3))) (pss_cons (ps_dput (hu_of hr) (pv 3) (pv 6) (pe_op op_add (pe_dget (hu_of hr) (pv 3) (pv 5) (fun _ _ => rfl)) pe_int) rfl)
    (pss_one (ps_expr (pe_bm PySem.F.plainAttrs_list PySem.F.slot_list_append PySem.F.type_list_append mt_append (pv 4) (pa_cons (pv 6) pa_nil))))) pss_nil))))))
    (pss_one (ps_ret (pv 3))))))), ?_⟩
  refine ⟨_, rfl, a, ds, n, rfl, hH, tree, hn, fun H2 px ps ex sm npx hpx2 hpl ro2 mem nod _ => ?_⟩
  intro pw npw
  refine ⟨_, rfl, upd_same, [(Sum.inl (spot : Int), .int 0)], rfl, (by show 1 ≤ 15; decide), ?_⟩
  rw [upd_upd]
  refine ⟨_, rfl, by show 1 ≤ sizeLine; decide, fun pq npq => ?_⟩
  have npw2 : pw ≠ pq := fun z => by
    subst z
    rw [upd_same] at npq
    cases npq
  have npq2 : H2 pq = none := by
    rw [upd_ne npw2.symm] at npq
    exact npq
  have S0 : DS H2 (upd (upd H2 pw (.dK (mergeK [] [(Sum.inl (spot : Int), .int 0)]))) pq (.lst [.int (spot : Int)])) pw pq [(spot, 0)] [spot] :=
    ⟨(Same.upd npw).at npq2, ⟨[(Sum.inl (spot : Int), .int 0)], by rw [upd_ne npw2, upd_same]; rfl, .cons ⟨rfl, rfl⟩ .nil⟩, by rw [upd_same]; rfl, Nat.le_refl _⟩
  generalize (upd (upd H2 pw (.dK (mergeK [] [(Sum.inl (spot : Int), .int 0)]))) pq (.lst [.int (spot : Int)])) = H3 at S0
  refine ⟨fun m σ H4 => ∃ ks ws y5 y6 y7, m = 2 * (n - ks.length) + ws.length ∧ σ = [some (.ref a), some (.int (spot : Int)), some (.ref px), some (.ref pw), some (.ref pq), y5, y6, y7] ∧
      DS H2 H4 pw pq ks ws ∧ Dfs n ds [] (ks.map Prod.fst) ws ∧ Dst ds spot ks ∧ spot ∈ ks.map Prod.fst,
    ⟨_, [(spot, 0)], [spot], _, _, _, rfl, rfl, S0, Dfs.start hspot, Dst.start, List.mem_singleton.mpr rfl⟩, fun m σ H4 hW => ?_⟩
  obtain ⟨ks, ws, y5, y6, y7, rfl, rfl, S, df, pt, hrm⟩ := hW
  refine ⟨_, rfl, Nat.zero_le _, fun pe npe => ?_⟩
  have sE := Same.upd (o := .lst []) npe
  refine ⟨dN ws, dN [], .lst (SqL.of (sE _ _ S.q)) (dp_is ws), .lst (SqL.of upd_same) .nil, dN_shaped _, dN_shaped _, _, rfl, ?_⟩
  rw [dN_nil]
  have S : DS H2 (upd H4 pe (.lst [])) pw pq ks ws := by
    obtain ⟨kvs, hk, r⟩ := S.w
    exact ⟨S.sm.trans sE, ⟨kvs, sE _ _ hk, r⟩, sE _ _ S.q, S.le⟩
  generalize upd H4 pe (.lst []) = H4 at S
  rcases snoc_nil ws with rfl | ⟨wr, here, rfl⟩
  · rw [decide_eq_true rfl]
    refine iteF ⟨_, rfl, ?_⟩
    obtain ⟨kvs, hk, r⟩ := S.w
    refine q H4 pw kvs (sm.trans S.sm) (sm.free npw) hk fun y hy => ?_
    obtain ⟨v, o, hv, ho, io⟩ := r.val (Dfs.all tree df hrm y hy)
    obtain ⟨p, w1, w2, _⟩ := pt y o ho
    refine ⟨p, w1, ?_⟩
    rw [hv, w2]
    exact congrArg some io
  · rw [decide_eq_false (by simp)]
    have hhere : here < n := df.lt _ (df.sub _ (List.mem_append.mpr (.inr (List.mem_singleton.mpr rfl))))
    have dfi := df.pop
    have hlast : (nv (wr ++ [here]))[(nv (wr ++ [here])).length - 1]? = some (.int (here : Int)) := by
      rw [nv_snoc, List.length_append, List.length_singleton, Nat.add_sub_cancel, List.getElem?_append_right (Nat.le_refl _), Nat.sub_self]
      rfl
    refine iteT ⟨fun σ' H' => ∃ ks' ws' y5 y6 y7, 2 * (n - ks'.length) + ws'.length < 2 * (n - ks.length) + (wr ++ [here]).length ∧ σ' = [some (.ref a), some (.int (spot : Int)), some (.ref px), some (.ref pw), some (.ref pq), y5, y6, y7] ∧
      DS H2 H' pw pq ks' ws' ∧ Dfs n ds [] (ks'.map Prod.fst) ws' ∧ Dst ds spot ks' ∧ spot ∈ ks'.map Prod.fst, fun σ' H' ⟨ks', ws', z7, z8, z9, h1, h2⟩ => ⟨_, h1, ks', ws', z7, z8, z9, rfl, h2⟩, ?_⟩
    refine ⟨_, rfl, .inl ⟨rfl, _, SqL.of S.q⟩, pq, _, _, rfl, rfl, S.q, hlast, ?_⟩
    rw [nv_snoc, List.dropLast_concat]
    have S1 := S.setq (ws' := wr) npq2 (by have := S.le; simp at this; omega)
    generalize upd H4 pq (.lst (nv wr)) = H5 at S1
    obtain ⟨qx, hqx⟩ := get_of hpl hhere
    obtain ⟨ts, g1, g2, g3⟩ := ro2 _ _ hqx
    refine ⟨_, rfl, _, rfl, px, _, _, V.ref qx, rfl, rfl, SqL.of (S1.sm _ _ hpx2), atI_nat (v := V.ref qx) (by rw [List.getElem?_map, hqx]; rfl), qx, rfl, ⟨_, SqL.of (S1.sm _ _ g1)⟩, ?_⟩
    refine for_it (walk_list (K := K) (a := qx) (xs := ts.map V.ref)) (fun j σ H6 => ∃ ks' ws' y6 y7, 2 * (n - ks'.length) + ws'.length < 2 * (n - ks.length) + (wr ++ [here]).length ∧ σ = [some (.ref a), some (.int (spot : Int)), some (.ref px), some (.ref pw), some (.ref pq), some (.int (here : Int)), y6, y7] ∧
      DS H2 H6 pw pq ks' ws' ∧ DfsIn n ds [] (ks'.map Prod.fst) ws' here (((ex here).take j).map fun e => (e.2, e.1)) ∧ Dst ds spot ks' ∧ spot ∈ ks'.map Prod.fst)
      ⟨ks, wr, _, _, by rw [List.length_append, List.length_singleton]; omega, rfl, S1, dfi, pt, hrm⟩ (fun i σ H1 _ ⟨_, _, _, _, _, _, S, _⟩ => SqL.of (S.sm _ _ g1)) ?_ ?_
    · rintro j x σ H6 H7 hj ⟨ks', ws', y8, y9, hm, rfl, S2, di, pt', hrm'⟩ ⟨rfl, ex1⟩
      have hj' : j < ts.length := by
        rw [List.length_map] at hj
        exact hj
      obtain ⟨t, ht⟩ : ∃ t, ts[j]? = some t := get_of rfl hj'
      obtain ⟨e, he⟩ : ∃ e, (ex here)[j]? = some e := get_of g2.symm hj'
      have ex1 : (ts.map V.ref)[j]? = some x := ex1
      rw [List.getElem?_map, ht] at ex1
      cases ex1
      have htup := S2.sm _ _ (g3 j t e ht he)
      have ejoin : Joins ds e.2 here e.1 := (mem here e.2 e.1).mp (List.mem_of_getElem? he)
      have etake : ((ex here).take (j + 1)).map (fun e => (e.2, e.1)) = ((ex here).take j).map (fun e => (e.2, e.1)) ++ [(e.2, e.1)] := by
        rw [List.take_add_one, he, List.map_append]
        rfl
      obtain ⟨kvs, hk, r⟩ := S2.w
      refine ⟨t, _, rfl, SqT.of htup, rfl, _, _, rfl, _, _, rfl, rfl, ?_⟩
      refine ⟨_, rfl, _, rfl, pw, _, rfl, DGet.k (k := Sum.inl (e.1 : Int)) hk, _, rfl, ?_⟩
      by_cases hy : e.1 ∈ ks'.map Prod.fst
      · obtain ⟨v, o, hv, _, _⟩ := r.val hy
        rw [hv]
        refine iteF ?_
        exact ⟨ks', ws', _, _, hm, rfl, S2, by rw [etake]; exact di.skip (.inr hy), pt', hrm'⟩
      · rw [r.no hy]
        refine iteT ?_
        have ely := (Joins.lt tree ejoin).2.1
        have di2 := di.add (d := e.2) ely hy
        have hle := di2.le
        rw [List.length_append, List.length_singleton, List.length_map] at hle
        obtain ⟨v, o, hv, ho, io⟩ := r.val di.he
        cases io
        have ll : ks'.length + 1 ≤ n := by omega
        refine ⟨_, rfl, _, rfl, pw, _, rfl, by rw [← hv]; exact DGet.k (k := Sum.inl (here : Int)) hk, _, _, rfl, rfl, _, rfl, _, rfl, pw, _, rfl, DPut.k (k := Sum.inl (e.1 : Int)) hk (by rw [r.len]; exact small1000 (by omega)), ?_⟩
        have S3 := S2.add npw hk r (y := e.1) (o := o + 1) hy
        have eo : ((o + 1 : Nat) : Int) = (o : Int) + 1 := by omega
        rw [eo] at S3
        generalize (upd H7 pw (.dK (putK kvs (Sum.inl (e.1 : Int)) (.int ((o : Int) + 1))))) = H8 at S3
        refine ⟨_, rfl, .inl ⟨rfl, _, SqL.of S3.q⟩, _, rfl, pq, _, _, rfl, rfl, S3.q, ?_, ?_⟩
        · rw [nv_len]
          have := S2.le
          exact small1000 (by omega)
        · rw [← nv_snoc]
          refine ⟨ks' ++ [(e.1, o + 1)], ws' ++ [e.1], _, _, ?_, rfl, S3.setq npq2 (by have := S2.le; simp; omega), ?_, pt'.add tree ho ejoin hy, ?_⟩
          · rw [List.length_append, List.length_append, List.length_singleton, List.length_singleton]
            omega
          · rw [etake, List.map_append]
            exact di2
          · rw [List.map_append]
            exact List.mem_append.mpr (.inl hrm')
    · rintro σ H6 ⟨ks', ws', y8, y9, hm, rfl, S2, di, pt', hrm'⟩
      refine ⟨ks', ws', _, _, _, hm, rfl, S2, di.done fun d y j => ?_, pt', hrm'⟩
      rw [List.length_map, g2, List.take_length]
      exact List.mem_map.mpr ⟨(y, d), (mem here d y).mpr j, rfl⟩
end
end K5

namespace K5
open PySem PySem.Spec PyProof.Rows L2
/-- the moves of one walk can be made one after the other -/
theorem run_walk {ds : List (Nat × Nat)} {p x : Nat} : ∀ (tr : List Mv) (S : S2) (a : Nat), S.1[p]? = some a → Trl ds a tr x → (tr.map Prod.fst).Nodup → (∀ m ∈ tr, m.1 ∉ barr S p) →
    ∃ S', Run ds S (tr.map fun m => (p, m.2.1, m.2.2)) S' ∧ S'.1[p]? = some x
  | [], S, a, h, t, _, _ => ⟨S, rfl, by rw [h, show a = x from t]⟩
  | m :: r, S, a, h, t, nd, nb => by
    obtain ⟨t1, t2, t3⟩ := t
    rw [List.map_cons, List.nodup_cons] at nd
    have q : QOk ds S (p, m.2.1, m.2.2, m.1) := ⟨by rw [h, t1], t2, fun z => nb m List.mem_cons_self (mem_barr.mpr z)⟩
    have h2 : (stepS S (p, m.2.1, m.2.2, m.1)).1[p]? = some m.2.2 := by
      show (S.1.set p m.2.2)[p]? = _
      rw [List.getElem?_set_self (get_lt h)]
    obtain ⟨S', r1, r2⟩ := run_walk r (stepS S (p, m.2.1, m.2.2, m.1)) m.2.2 h2 t3 nd.2 fun c hc z => by
      have z := mem_barr.mp z
      have z : (S.2.set m.1 p)[c.1]? = some p := z
      have ne : m.1 ≠ c.1 := fun e => nd.1 (List.mem_map.mpr ⟨c, hc, e.symm⟩)
      rw [List.getElem?_set_ne ne] at z
      exact nb c (List.mem_cons_of_mem _ hc) (mem_barr.mpr z)
    exact ⟨S', ⟨m.1, q, r1⟩, r2⟩
theorem Run.len {ds : List (Nat × Nat)} : ∀ {ms : List Mv} {S S' : S2}, Run ds S ms S' → S'.1.length = S.1.length
  | [], S, S', h => by rw [show S = S' from h]
  | m :: r, S, S', h => by
    obtain ⟨d, _, h⟩ := h
    rw [h.len]
    show (S.1.set _ _).length = _
    rw [List.length_set]
/-- the walk is as long as the way -/
theorem trl_len {n : Nat} {ds : List (Nat × Nat)} {a x : Nat} {tr : List Mv} {w : List Nat} (T : Tree n ds) (t : Trl ds a tr x) (nd : (tr.map Prod.fst).Nodup) (hw : Way ds [] a x w) : tr.length = w.length := by
  rw [← way_unique T t.walk hw.w nd hw.nd, List.length_map]
end K5

namespace K5
open PySem PySem.Spec PyProof.Rows L2
def spPH (K : PySem.W.Frag) : Sp := fun vs H Q _ => ∃ (a s c : Addr) (p n : Nat) (ds : List (Nat × Nat)) (S : S2) (xs : List Nat), vs = [.ref a, .ref s, .int (p : Int), .ref c] ∧ HouseAt K H a ds ∧ Tree n ds ∧ n ≤ 60 ∧ StateAt K H s S ∧ StOk n ds S ∧ p < S.1.length ∧ H c = some (.lst (nv xs)) ∧ (∀ x ∈ xs, x < n) ∧
  ∀ H', Same H H' → Q (.bl true) H'
theorem trl_unique {n : Nat} {ds : List (Nat × Nat)} (T : Tree n ds) : ∀ {tr tr' : List Mv} {a x y : Nat}, Trl ds a tr x → Trl ds a tr' y → tr.map Prod.fst = tr'.map Prod.fst → tr = tr'
  | [], [], _, _, _, _, _, _ => rfl
  | [], _ :: _, _, _, _, _, _, e => by simp at e
  | _ :: _, [], _, _, _, _, _, e => by simp at e
  | m :: r, m' :: r', a, x, y, ⟨h1, h2, h3⟩, ⟨k1, k2, k3⟩, e => by
    rw [List.map_cons, List.map_cons, List.cons.injEq] at e
    obtain ⟨m1, m2, m3⟩ := m
    obtain ⟨n1, n2, n3⟩ := m'
    dsimp only at h1 h2 h3 k1 k2 k3 e
    obtain ⟨rfl, e2⟩ := e
    subst h1
    subst k1
    have e3 : m3 = n3 := h2.other k2 (h2.lt T).2.2.2
    subst e3
    rw [trl_unique T h3 k3 e2]
theorem RegSet.getD_mem {ds shut room L} (h : RegSet ds shut room L) : room ∈ L := (h.mem room).mpr ⟨[], .nil _, fun d h => (List.not_mem_nil h).elim⟩
section
variable {P : Program} {w : World} {K : PySem.W.Frag}
      {mg : Str → Option Value} {base : Heap}
theorem ok_person_holds (T : Bl mg) (D : Def K mg "_law_person_holds" s_l_person_holds) (C_l_region : Cal P w K mg base "_law_region" ["_law_layout", "_law_situation", "_law_who"] 2 (spRegL K))
    (C_region : CalK P w K mg base "region" ["house", "state", "person"] 8 (spRegion K) ["person", "state", "house"] rev3 rev3)
    (C_walk_to : CalK P w K mg base "walk_to" ["house", "state", "person", "room"] 8 (spWalkTo K) ["room", "person", "state", "house"] rev4 rev4)
    (C_l_distances : Cal P w K mg base "_law_distances" ["_law_layout", "_law_spot"] 2 (spDist K)) (C_l_play : Cal P w K mg base "_law_play" ["_law_layout", "_law_situation", "_law_moves_here"] 2 (spPlay K)) :
    Cal P w K mg base "_law_person_holds" ["_law_layout", "_law_situation", "_law_traveller", "_law_chosen"] 9 (spPH K) := by
  refine D.ok sc_l_person_holds (fun _ _ _ _ _ _ us hl => match us, hl with | [_, _, _, _], _ => rfl) (fun vs H Q E h => ?_) (fun f cdv A outer s0 H vs Q E hr h => ?_)
  · obtain ⟨a, s, c, p, n, ds, S, xs, rfl, _⟩ := h
    rfl
  obtain ⟨a, s, c, p, n, ds, S, xs, rfl, hH, tree, hn, st, ok, hp, hc, hx, qn⟩ := h
  obtain ⟨f_l_region, fd_l_region, g_l_region, k_l_region, b_l_region, G_l_region⟩ := C_l_region
  obtain ⟨f_region, fd_region, g_region, k_region, b_region, G_region, KB_region⟩ := C_region
  obtain ⟨f_l_distances, fd_l_distances, g_l_distances, k_l_distances, b_l_distances, G_l_distances⟩ := C_l_distances
  obtain ⟨f_walk_to, fd_walk_to, g_walk_to, k_walk_to, b_walk_to, G_walk_to, KB_walk_to⟩ := C_walk_to
  obtain ⟨f_l_play, fd_l_play, g_l_play, k_l_play, b_l_play, G_l_play⟩ := C_l_play
  refine ⟨_, (pss_cons (ps_set (i := 4) sc_l_person_holds.nd rfl (.inl rfl) (pe_call G_l_region (hr.mono (by decide)) (by rfl) g_l_region k_l_region b_l_region .nil pass0 (pa_cons (pv 0) (pa_cons (pv 1) (pa_cons (pv 2) pa_nil)))))
    (pss_cons (ps_if (pt_cmpR (op_neD hr.units) (pe_call G_region (hr.mono (by decide)) (by rfl) g_region k_region b_region .nil pass0 (pa_cons (pv 0) (pa_cons (pv 1) (pa_cons (pv 2) pa_nil)))) (pv 4) (nomark _)) (pss_one (ps_ret pe_bl)) pss_nil)
    (pss_cons (ps_set (i := 5) sc_l_person_holds.nd rfl (.inl rfl) (pe_callK0 G_region (hr.mono (by decide)) (by rfl) g_region k_region KB_region pass0 (pk_cons (pv 2) (pk_cons (pv 1) (pk_cons (pv 0) pk_nil)))))
    (pss_cons (ps_expr (pe_bm PySem.F.plainAttrs_list PySem.F.slot_list_append PySem.F.type_list_append mt_append (pv 5) (pa_cons pe_int pa_nil)))
    (pss_cons (ps_set (i := 6) sc_l_person_holds.nd rfl (.inl rfl) (pe_call G_l_distances (hr.mono (by decide)) (by rfl) g_l_distances k_l_distances b_l_distances .nil pass0 (pa_cons (pv 0) (pa_cons (pe_ix ix_tup (pe_ix ix_tup (pv 1) pe_int (fun _ _ => rfl)) (pv 2) (fun _ _ => rfl)) pa_nil))))
    (pss_cons (ps_for PassesOwn.never rfl (pi_list (pv 3)) (pg_name (i := 7) sc_l_person_holds.nd rfl (.inl rfl))
    (pss_cons (ps_set (i := 8) sc_l_person_holds.nd rfl (.inl rfl) (pe_call G_walk_to (hr.mono (by decide)) (by rfl) g_walk_to k_walk_to b_walk_to .nil pass0 (pa_cons (pv 0) (pa_cons (pv 1) (pa_cons (pv 2) (pa_cons (pv 7) pa_nil))))))
    (pss_cons (ps_if (pt_cmpR op_notN (pv 8) pe_non (nomark _)) (pss_one (ps_expr (pe_bm PySem.F.plainAttrs_list PySem.F.slot_list_append PySem.F.type_list_append mt_append (pv 8) (pa_cons pe_int pa_nil)))) pss_nil)
    (pss_cons (ps_set (i := 9) sc_l_person_holds.nd rfl (.inl rfl) (pe_callK0 G_walk_to (hr.mono (by decide)) (by rfl) g_walk_to k_walk_to KB_walk_to pass0 (pk_cons (pv 7) (pk_cons (pv 2) (pk_cons (pv 1) (pk_cons (pv 0) pk_nil))))))
    (pss_cons (ps_if (PW.pt (pw_or (pt_cmpR op_ne (pe_cmpR op_isN (pv 9) pe_non (nomark _)) (pe_cmpR op_notIn_seq (pv 7) (pv 4) (by rfl)) (nomark _)) (pw_or1 (pt_cmpR op_ne (pe_cmpR op_isN (pv 8) pe_non (nomark _)) (pe_cmpR op_isN (pv 9) pe_non (nomark _)) (nomark _))))) (pss_one (ps_ret pe_bl)) pss_nil)
    (pss_one (ps_if (pt_cmpR op_notN (pv 9) pe_non (nomark _)) (pss_cons (ps_set (i := 10) sc_l_person_holds.nd rfl (.inl rfl) (pe_call G_l_play (hr.mono (by decide)) (by rfl) g_l_play k_l_play b_l_play .nil pass0 (pa_cons (pv 0) (pa_cons (pv 1) (pa_cons (pv 9) pa_nil)))))
    (pss_cons (ps_if (PW.pt (pw_or (pt_cmpR op_isN (pv 10) pe_non (nomark _)) (pw_or (pt_cmpR op_ne (pe_ix ix_tup (pe_ix ix_tup (pv 10) pe_int (fun _ _ => rfl)) (pv 2) (fun _ _ => rfl)) (pv 7) (nomark _)) (pw_or1 (pt_cmpR op_ne (pe_callB call_len_seq (by rfl) T.len PySem.boot_len (pa_cons (pv 9) pa_nil)) (pe_dget (hu_of hr) (pv 6) (pv 7) (fun _ _ => rfl)) (nomark _)))))) (pss_one (ps_ret pe_bl)) pss_nil)
    (pss_cons (ps_if (pt_cmpR (op_neD hr.units) (pe_lc (own := [("_law_move", 11)]) (g := gName 11)  (tt := (tTest (tOp rNe (tOp (rIxT K) (tVar 11) (tC (.int 0))) (tVar 2)))) rfl sc_l_person_holds.nd (pi_list (pv 9)) (blkOk_by (N := N_l_person_holds) (sc := defScope s_l_person_holds) (own := [("_law_move", 11)]) (by decide +kernel)) (fun _ _ _ _ _ => (pg_name (i := 11) sc_l_person_holds.nd rfl (.inl rfl) (.inr rfl))) (fun _ _ _ _ _ => (pts_one (pt_cmpR op_ne (pe_ix ix_tup (pv 11) pe_int (fun _ _ => rfl)) (pv 2) (nomark _)))) (fun _ _ _ _ _ => (pv 11))) (pe_lst pa_nil) (nomark _)) (pss_one (ps_ret pe_bl)) pss_nil)
    (pss_one (ps_if (pt_cmpR (op_neD hr.units) (pe_slice sl_list (pv 8) po_none (po_some (pe_un un_neg pe_int))) (pv 9) (nomark _)) (pss_one (ps_ret pe_bl)) pss_nil))))) pss_nil)))))))
    (pss_one (ps_ret (pe_cmpR (op_eqD hr.units) (pe_call G_region (hr.mono (by decide)) (by rfl) g_region k_region b_region .nil pass0 (pa_cons (pv 0) (pa_cons (pv 1) (pa_cons (pv 2) pa_nil)))) (pv 4) (nomark _)))))))))), ?_⟩
  refine ⟨_, rfl, _, rfl, _, rfl, a, s, p, n, ds, S, rfl, hH, tree, hn, st, ok, hp, fun H1 q1 L s1 nq1 hq1 rs asc => ?_⟩
  refine ⟨_, rfl, _, rfl, _, rfl, a, s, p, n, ds, S, rfl, hH.same s1, tree, hn, st.same s1, ok, hp, fun H2 q2 L2 ks s2 nq2 hq2 rg pm asc2 => ?_⟩
  have eL : L2 = L := le_unique L2 L ((rg.set.of_perm pm).perm rs) asc2 asc
  subst eL
  refine ⟨_, rfl, dN L2, dN L2, .lst (SqL.of hq2) (dp_is L2), .lst (SqL.of (s2 _ _ hq1)) (dp_is L2), dN_shaped _, dN_shaped _, _, rfl, ?_⟩
  rw [d_refl (dN_shaped L2)]
  refine iteF ?_
  have s12 := s1.trans s2
  have hq1' := s2 _ _ hq1
  refine ⟨_, rfl, _, rfl, _, rfl, a, s, p, n, ds, S, rfl, hH.same s12, tree, hn, st.same s12, ok, hp, fun H3 q3 L3 ks3 s3 nq3 hq3 rg3 pm3 asc3 => ?_⟩
  have L3l : L3.length ≤ 60 := by
    rw [pm3.length_eq]
    have := nodup_le n _ rg3.df.nd rg3.df.lt
    omega
  refine ⟨_, rfl, .inl ⟨rfl, _, SqL.of hq3⟩, q3, _, _, rfl, rfl, hq3, by rw [nv_len]; exact small1000 (by omega), ?_⟩
  have s13 : Same H (upd H3 q3 (.lst (nv L3 ++ [.int 0]))) := (s12.trans s3).at (s12.free nq3)
  have hq13 : (upd H3 q3 (.lst (nv L3 ++ [.int 0]))) q1 = some (.lst (nv L2)) := by
    rw [upd_ne (ne_of_none hq1' nq3)]
    exact s3 _ _ hq1'
  generalize upd H3 q3 (.lst (nv L3 ++ [.int 0])) = H4 at s13 hq13
  obtain ⟨r, b, h1, h2, h3⟩ := id st
  obtain ⟨v, hv⟩ : ∃ v, S.1[p]? = some v := get_of rfl hp
  have hvn : v < n := ok.rooms v (List.mem_of_getElem? hv)
  refine ⟨_, rfl, _, rfl, s, _, _, V.ref r, rfl, rfl, s13.tup h1, atI_nat (j := 0) rfl, _, rfl, r, _, _, _, rfl, rfl, s13.tup h2, nv_at hv, a, ds, n, v, rfl, hH.same s13, tree, by omega, hvn, fun H5 pd kvs s5 npd hpd dist => ?_⟩
  have s15 := s13.trans s5
  have hq15 := s5 _ _ hq13
  refine ⟨_, rfl, c, rfl, ⟨_, SqL.of (s15 _ _ hc)⟩, ?_⟩
  refine for_it (walk_list (K := K) (a := c) (xs := nv xs)) (fun i σ H2 => ∃ (y5 y7 y8 y9 y10 y11 : Option V), σ = [some (.ref a), some (.ref s), some (.int (p : Int)), some (.ref c), some (.ref q1), y5, some (.ref pd), y7, y8, y9, y10, y11] ∧ Same H5 H2)
    ⟨_, _, _, _, _, _, rfl, Same.refl _⟩ (fun i σ H2 _ ⟨_, _, _, _, _, _, _, sm⟩ => SqL.of (sm _ _ (s15 _ _ hc))) ?_ ?_
  · rintro i x σ H6 H7 hi ⟨y5, y7, y8, y9, y10, y11, rfl, sm⟩ ⟨rfl, ex⟩
    obtain ⟨x, hx0, rfl⟩ := nv_some ex
    have hxn := hx x (List.mem_of_getElem? hx0)
    have s16 := s15.trans sm
    have wt := fun (H8 : Hp) (sm8 : Same H H8) => (⟨hH.same sm8, st.same sm8⟩ : HouseAt K H8 a ds ∧ StateAt K H8 s S)
    refine ⟨_, rfl, _, rfl, _, rfl, _, rfl, a, s, p, x, n, ds, S, rfl, (wt _ s16).1, tree, by omega, (wt _ s16).2, ok, hp, hxn, fun H8 ks8 s8 rg8 no8 => ?_, fun H8 q8 tr8 s8 nq8 ht8 trl8 nd8 nb8 len8 => ?_⟩
    · have nox : x ∉ L2 := fun z => by
        obtain ⟨w0, w1, w2⟩ := (rs.mem x).mp z
        exact no8 ((rg8.set.mem _).mpr ⟨w0.reverse, w1.rev, fun d hd => w2 d (List.mem_reverse.mp hd)⟩)
      refine ⟨_, rfl, rfl, _, rfl, iteF ?_⟩
      have s18 := s16.trans s8
      refine ⟨_, rfl, _, rfl, _, rfl, _, rfl, a, s, p, x, n, ds, S, rfl, (wt _ s18).1, tree, by omega, (wt _ s18).2, ok, hp, hxn, fun H9 ks9 s9 rg9 no9 => ?_, fun H9 q9 tr9 s9 nq9 ht9 trl9 nd9 nb9 len9 => ?_⟩
      · have hq19 := s9 _ _ (s8 _ _ (sm _ _ hq15))
        refine ⟨_, rfl, rfl, _, rfl, _, rfl, q1, _, rfl, .inl (SqL.of hq19), rfl, flat_nv _, ?_⟩
        show rNe _ (V.bl (!inV (V.int (x : Int)) (nv L2))) _ _
        rw [inV_nv, decide_eq_false nox]
        refine ⟨rfl, _, rfl, ?_⟩
        rw [decide_eq_true (show V.bl (decide (V.non = V.non)) = V.bl (!false) from rfl)]
        refine iteF ⟨_, rfl, rfl, _, rfl, rfl, rfl, _, rfl, ?_⟩
        rw [decide_eq_true rfl]
        refine iteF ⟨_, rfl, rfl, _, rfl, iteF ?_⟩
        exact ⟨_, _, _, _, _, _, rfl, (sm.trans s8).trans s9⟩
      · refine absurd ((rs.mem x).mpr ⟨tr9.map Prod.fst, trl9.walk, fun d hd => ?_⟩) nox
        obtain ⟨m, hm, rfl⟩ := List.mem_map.mp hd
        exact nb9 m hm
    · have inx : x ∈ L2 := (rs.mem x).mpr ⟨tr8.map Prod.fst, trl8.walk, fun d hd => by
        obtain ⟨m, hm, rfl⟩ := List.mem_map.mp hd
        exact nb8 m hm⟩
      obtain ⟨ts8, ht8, tl8⟩ := ht8
      refine ⟨_, rfl, rfl, _, rfl, iteT ⟨_, rfl, .inl ⟨rfl, _, SqL.of ht8⟩, q8, _, _, rfl, rfl, ht8, by rw [List.length_map, tl8.1, List.length_map]; exact small1000 len8, ?_⟩⟩
      have s18 : Same H (upd H8 q8 (.lst (ts8.map V.ref ++ [.int 0]))) := (s16.trans s8).at (s16.free nq8)
      have sm8 : Same H5 (upd H8 q8 (.lst (ts8.map V.ref ++ [.int 0]))) := (sm.trans s8).at (sm.free nq8)
      have hq8 : (upd H8 q8 (.lst (ts8.map V.ref ++ [.int 0]))) q8 = some (.lst (ts8.map V.ref ++ [.int 0])) := upd_same
      have tl8 : TL (upd H8 q8 (.lst (ts8.map V.ref ++ [.int 0]))) ts8 (tr8.map fun m => (p, m.2.1, m.2.2)) := tl8.but ht8 (But.upd (But.refl _ _) _)
      generalize upd H8 q8 (.lst (ts8.map V.ref ++ [.int 0])) = H8 at s18 sm8 hq8 tl8
      refine ⟨_, rfl, _, rfl, _, rfl, _, rfl, a, s, p, x, n, ds, S, rfl, (wt _ s18).1, tree, by omega, (wt _ s18).2, ok, hp, hxn, fun H9 ks9 s9 rg9 no9 => ?_, fun H9 q9 tr9 s9 nq9 ht9 trl9 nd9 nb9 len9 => ?_⟩
      · exfalso
        obtain ⟨w0, w1, w2⟩ := (rs.mem x).mp inx
        exact no9 ((rg9.set.mem _).mpr ⟨w0.reverse, w1.rev, fun d hd => w2 d (List.mem_reverse.mp hd)⟩)
      have hq19 := s9 _ _ (sm8 _ _ hq15)
      refine ⟨_, rfl, rfl, _, rfl, _, rfl, q1, _, rfl, .inl (SqL.of hq19), rfl, flat_nv _, ?_⟩
      show rNe _ (V.bl (!inV (V.int (x : Int)) (nv L2))) _ _
      rw [inV_nv, decide_eq_true inx]
      refine ⟨rfl, _, rfl, ?_⟩
      rw [decide_eq_true (show V.bl (decide (V.ref q9 = V.non)) = V.bl (!true) from rfl)]
      refine iteF ⟨_, rfl, rfl, _, rfl, rfl, rfl, _, rfl, ?_⟩
      rw [decide_eq_true (show V.bl (decide (V.ref q8 = V.non)) = V.bl (decide (V.ref q9 = V.non)) from rfl)]
      refine iteF ⟨_, rfl, rfl, _, rfl, iteT ?_⟩
      obtain ⟨S', run, endx⟩ := run_walk tr9 S v hv (by rw [← getD_of hv]; exact trl9) nd9 nb9
      have s19 := s18.trans s9
      have sm9 := sm8.trans s9
      refine ⟨_, rfl, _, rfl, _, rfl, a, s, q9, n, ds, S, S', _, rfl, (wt _ s19).1, tree, hn, (wt _ s19).2, ok, ht9, run, fun H10 q10 s10 st10 => ?_⟩
      obtain ⟨r', b', k1, k2, k3⟩ := id st10
      obtain ⟨ts9, ht9l, tl9⟩ := id ht9
      have ht10 := s10 _ _ ht9l
      have tl10 := tl9.same s10
      obtain ⟨way, hway, hdv⟩ := dist x hxn
      have hpd10 := s10 _ _ (s9 _ _ (sm8 _ _ hpd))
      refine ⟨_, rfl, rfl, _, rfl, iteF ?_⟩
      refine ⟨_, rfl, q10, _, _, V.ref r', rfl, rfl, k1, atI_nat (j := 0) rfl, _, rfl, r', _, _, _, rfl, rfl, k2, nv_at endx, _, rfl, rfl, _, rfl, ?_⟩
      rw [decide_eq_true rfl]
      refine iteF ?_
      refine ⟨_, rfl, q9, _, rfl, .inl (SqL.of ht10), _, rfl, _, rfl, pd, _, rfl, by rw [← hdv]; exact DGet.k (k := Sum.inl (x : Int)) hpd10, rfl, _, rfl, ?_⟩
      have el : ((ts9.map V.ref).length : Int) = (way.length : Int) := by
        rw [List.length_map, tl9.1, List.length_map, trl_len tree (by rw [← getD_of hv]; exact trl9) nd9 hway]
      rw [decide_eq_true (show V.int ((ts9.map V.ref).length : Int) = V.int (way.length : Int) by rw [el])]
      refine iteF ?_
      refine ⟨_, rfl, q9, rfl, ⟨_, SqL.of ht10⟩, fun pc npc => ?_⟩
      refine lc_it (walk_list (K := K) (a := q9) (xs := ts9.map V.ref)) (fun j H11 => Same H10 H11 ∧ H11 pc = some (.lst [])) ⟨Same.upd npc, upd_same⟩ (fun j H11 _ h => SqL.of (h.1 _ _ ht10)) ?_ ?_
      · rintro j z H11 H12 hj ⟨s11, hpc⟩ ⟨rfl, ex⟩
        have hj' : j < (tr9.map fun m => (p, m.2.1, m.2.2)).length := by
          rw [List.length_map, tl9.1] at hj
          exact hj
        obtain ⟨t2, ht2⟩ : ∃ t2, ts9[j]? = some t2 := get_of tl9.1 hj'
        obtain ⟨m, hm⟩ : ∃ m, (tr9.map fun m => (p, m.2.1, m.2.2))[j]? = some m := get_of rfl hj'
        have ex : (ts9.map V.ref)[j]? = some z := ex
        rw [List.getElem?_map, ht2] at ex
        cases ex
        have hmp : m.1 = p := by
          obtain ⟨m0, _, rfl⟩ := List.mem_map.mp (List.mem_of_getElem? hm)
          rfl
        refine ⟨rfl, _, rfl, t2, _, _, _, rfl, rfl, SqT.of (s11 _ _ (tl10.2 j t2 m ht2 hm)), atI_nat (j := 0) rfl, _, rfl, rfl, _, rfl, ?_⟩
        rw [decide_eq_true (show V.int (m.1 : Int) = V.int (p : Int) by rw [hmp])]
        exact iteF ⟨s11, hpc⟩
      rintro H11 ⟨s11, hpc⟩
      refine ⟨Nat.zero_le _, fun pe npe => ?_⟩
      have se := Same.upd (o := .lst []) npe
      refine ⟨dN [], dN [], .lst (SqL.of (se _ _ hpc)) .nil, .lst (SqL.of upd_same) .nil, dN_shaped _, dN_shaped _, _, rfl, ?_⟩
      rw [d_refl (dN_shaped [])]
      refine iteF ?_
      have s12' := s11.trans se
      have hq8' := s12' _ _ (s10 _ _ (s9 _ _ hq8))
      have tl8' := (((tl8.same s9).same s10).same s12')
      have ht9' := s12' _ _ ht10
      have tl9' := tl10.same s12'
      have sm11 := (sm9.trans s10).trans s12'
      generalize upd H11 pe (.lst []) = H13 at hq8' tl8' ht9' tl9' sm11
      have etr : tr8 = tr9 := trl_unique tree trl8 trl9 (way_unique tree trl8.walk trl9.walk nd8 nd9)
      subst etr
      have hcut : cutV (ts8.map V.ref ++ [.int 0]) none (some (-1)) = ts8.map V.ref := by
        unfold cutV
        have e : HT.sIx (ts8.map V.ref ++ [V.int 0]).length (ts8.map V.ref ++ [V.int 0]).length (some (-1)) = (ts8.map V.ref).length := by
          show (if (-1 : Int) < 0 then ((-1 : Int) + ((ts8.map V.ref ++ [V.int 0]).length : Int)).toNat else min (-1 : Int).toNat (ts8.map V.ref ++ [V.int 0]).length) = _
          rw [if_pos (by omega), List.length_append, List.length_singleton]
          omega
        rw [e, HT.sIx_none, Nat.sub_zero, List.drop_zero, List.take_left]
      refine ⟨_, rfl, _, rfl, _, rfl, q8, _, rfl, SqL.of hq8', fun p1 np1 => ?_⟩
      have hcut' : cutV (ts8.map V.ref ++ [V.int 0]) none (some (-(1 : Int))) = ts8.map V.ref := hcut
      rw [hcut']
      have sf := Same.upd (o := .lst (ts8.map V.ref)) np1
      refine ⟨_, rfl, dMs _, dMs _, dp_Tris ⟨ts8, upd_same, tl8'.same sf⟩, dp_Tris ⟨ts9, sf _ _ ht9', tl9'.same sf⟩, dMs_shaped _, dMs_shaped _, _, rfl, ?_⟩
      rw [d_refl (dMs_shaped _)]
      exact iteF ⟨_, _, _, _, _, _, rfl, sm11.trans sf⟩
  · rintro σ H6 ⟨y5, y7, y8, y9, y10, y11, rfl, sm⟩
    have s16 := s15.trans sm
    refine ⟨_, rfl, _, rfl, _, rfl, a, s, p, n, ds, S, rfl, hH.same s16, tree, hn, st.same s16, ok, hp, fun H8 q8 L8 ks8 s8 nq8 hq8 rg8 pm8 asc8 => ?_⟩
    have e8 : L8 = L2 := le_unique L8 L2 ((rg8.set.of_perm pm8).perm rs) asc8 asc
    subst e8
    refine ⟨_, rfl, dN L8, dN L8, .lst (SqL.of hq8) (dp_is L8), .lst (SqL.of (s8 _ _ (sm _ _ hq15))) (dp_is L8), dN_shaped _, dN_shaped _, ?_⟩
    rw [d_refl (dN_shaped L8)]
    exact qn H8 (s16.trans s8)
end
end K5

namespace K5
open PySem PySem.Spec PyProof.Rows L2
theorem nil_or_snoc (N : List Nat) : N = [] ∨ ∃ N' y, N = N' ++ [y] := by
  rcases List.eq_nil_or_concat N with h | ⟨N', y, h⟩
  · exact .inl h
  · exact .inr ⟨N', y, by rw [h, List.concat_eq_append]⟩
def spRState (K : PySem.W.Frag) : Sp := fun vs H Q _ => ∃ (g a : Addr) (b p n : Nat) (ds : List (Nat × Nat)), vs = [.ref g, .ref a, .int (p : Int)] ∧ GenAt H g b ∧ HouseAt K H a ds ∧ Tree n ds ∧ n ≤ 60 ∧ 1 ≤ p ∧ p ≤ 10 ∧ b < 2 ^ 59 ∧
  ∀ (H' : Hp) (s : Addr) (S : S2), But g H H' → GenAt H' g (b + 200) → StateAt K H' s S → StOk n ds S → S.1.length = p → Q (.ref s) H'
section
variable {P : Program} {w : World} {K : PySem.W.Frag}
      {mg : Str → Option Value} {base : Heap}
theorem ok_random_state (T : Bl mg) (D : Def K mg "_law_random_state" s_l_random_state) (C_l_random : Cal P w K mg base "_law_random" ["_law_generator_here", "_law_bound"] 2 spRand) : Cal P w K mg base "_law_random_state" ["_law_generator_here", "_law_layout", "_law_count"] 3 (spRState K) := by
  refine D.ok sc_l_random_state (fun _ _ _ _ _ _ us hl => match us, hl with | [_, _, _], _ => rfl) (fun vs H Q E h => ?_) (fun f cdv A outer s H vs Q E hr h => ?_)
  · obtain ⟨g, a, b, p, n, ds, rfl, _⟩ := h
    rfl
  obtain ⟨g, a, b, p, n, ds, rfl, hg, hH, tree, hn, hp1, hp4, hb, q⟩ := h
  obtain ⟨rs, hrs, hlen, hds⟩ := id hH
  have hdn := tree.len
  have hn1 : 1 ≤ n := by omega
  obtain ⟨f_l_random, fd_l_random, g_l_random, k_l_random, b_l_random, G_l_random⟩ := C_l_random
  refine ⟨_, (pss_cons (ps_set (i := 3) sc_l_random_state.nd rfl (.inr rfl) (pe_lc (own := [("_law_who", 4)]) (g := gName 4)  (te := (tCall spRand [] E0 (tCons (tVar 0) (tCons (tOp (rI0 fun i j => .int (i + j)) (tCB (fun xs H Q => ∃ p ys, xs = [V.ref p] ∧ (SqL K H p ys ∨ SqT K H p ys) ∧ Q (.int ys.length) H) (tCons (tVar 1) tNil)) (tC (.int 1))) tNil)))) rfl sc_l_random_state.nd (pi_range1 rfl T.range (pa_cons (pv 2) pa_nil)) (blkOk_by (N := N_l_random_state) (sc := defScope s_l_random_state) (own := [("_law_who", 4)]) (by decide +kernel)) (fun _ _ _ _ _ => (pg_name (i := 4) sc_l_random_state.nd rfl (.inl rfl) (.inr rfl))) (fun _ _ _ _ _ => pts_nil) (fun _ _ _ _ _ => (pe_call G_l_random (hr.mono (by decide)) (by rfl) g_l_random k_l_random b_l_random .nil pass0 (pa_cons (pv 0) (pa_cons (pe_op op_add (pe_callB call_len_seq (by rfl) T.len PySem.boot_len (pa_cons (pv 1) pa_nil)) pe_int) pa_nil))))))
    (pss_cons (ps_set (i := 5) sc_l_random_state.nd rfl (.inl rfl) (pe_lst pa_nil))
    (pss_cons (ps_set (i := 6) sc_l_random_state.nd rfl (.inr rfl) (pe_cmpR op_gt (pe_call G_l_random (hr.mono (by decide)) (by rfl) g_l_random k_l_random b_l_random .nil pass0 (pa_cons (pv 0) (pa_cons pe_int pa_nil))) pe_int (nomark _)))
    (pss_cons (ps_for PassesOwn.never rfl (pi_tup (pv 1)) (pg_tup (n := 2) rfl (pgs_cons (pg_name (i := 7) sc_l_random_state.nd rfl (.inr rfl)) (pgs_cons (pg_name (i := 8) sc_l_random_state.nd rfl (.inr rfl)) pgs_nil)))
    (pss_cons (ps_setLc (i := 9) (own := [("_law_who", 4)]) (g := gName 4)  (tt := (tAnd (fun σ H Q => tVar 6 σ H fun x H1 => ∃ k, TruV K x H1 k ∧ Q k H1) (tTest (tOp (rIn K false) (tOp (rIxL K) (tVar 3) (tVar 4)) (tTup (tCons (tVar 7) (tCons (tVar 8) tNil))))))) rfl sc_l_random_state.nd rfl rfl (sw_true rfl rfl rfl (by decide +kernel)) (pi_range1 rfl T.range (pa_cons (pv 2) pa_nil)) (blkOk_by (N := N_l_random_state) (sc := defScope s_l_random_state) (own := [("_law_who", 4)]) (by decide +kernel)) (fun _ _ _ _ _ => (pg_name (i := 4) sc_l_random_state.nd rfl (.inl rfl) (.inr rfl))) (fun _ _ _ _ _ => (pts_one (PW.pt (pw_and (pt_truth (pv 6) (by intro _; rfl)) (pw_and1 (pt_cmpR op_in_seq (pe_ix ix_list (pv 3) (pv 4) (fun _ _ => rfl)) (pe_tup (pa_cons (pv 7) (pa_cons (pv 8) pa_nil))) (by rfl))))))) (fun _ _ _ _ _ => (pv 4)))
    (pss_cons (ps_set (i := 10) sc_l_random_state.nd rfl (.inl rfl) (pe_ix ix_list (pe_orT (pv 9) (pe_one (pe_listRg rfl (by rfl) T.list (prg_1 (by rfl) T.range (pv 2))))) (pe_call G_l_random (hr.mono (by decide)) (by rfl) g_l_random k_l_random b_l_random .nil pass0 (pa_cons (pv 0) (pa_cons (pe_orT (pe_callB call_len_seq (by rfl) T.len PySem.boot_len (pa_cons (pv 9) pa_nil)) (pe_one (pv 2))) pa_nil))) (fun _ _ => rfl)))
    (pss_one (ps_expr (pe_bm PySem.F.plainAttrs_list PySem.F.slot_list_append PySem.F.type_list_append mt_append (pv 5) (pa_cons (pe_ix ix_list (pe_lst (pa_cons (pv 10) (pa_cons (pe_call G_l_random (hr.mono (by decide)) (by rfl) g_l_random k_l_random b_l_random .nil pass0 (pa_cons (pv 0) (pa_cons (pv 2) pa_nil))) pa_nil))) (pe_callTy call_int1 (by rfl) T.int (by decide +kernel) (pa_cons (pe_cmpR op_eq (pe_call G_l_random (hr.mono (by decide)) (by rfl) g_l_random k_l_random b_l_random .nil pass0 (pa_cons (pv 0) (pa_cons pe_int pa_nil))) pe_int (nomark _)) pa_nil)) (fun _ _ => rfl)) pa_nil)))))))
    (pss_one (ps_ret (pe_tup (pa_cons (pe_callTy call_tuple_of (by rfl) T.tuple (by decide +kernel) (pa_cons (pv 3) pa_nil)) (pa_cons (pe_callTy call_tuple_of (by rfl) T.tuple (by decide +kernel) (pa_cons (pv 5) pa_nil)) pa_nil))))))))), ?_⟩
  have en : (((rs.map V.ref).length : Nat) : Int) + 1 = ((n : Nat) : Int) := by
    rw [List.length_map, hlen]
    omega
  obtain ⟨gx, hgx⟩ := hg.lst
  refine ⟨_, rfl, (p : Int), rfl, by omega, by omega, fun pd npd => ?_⟩
  have npdg : pd ≠ g := hg.ne npd
  refine lc_range (lo := 0) (n := p) (fun i H3 => ∃ L : List Nat, But g H H3 ∧ GenAt H3 g (b + i) ∧ H3 pd = some (.lst (nv L)) ∧ L.length = i ∧ ∀ x ∈ L, x < n) ?_ ?_ ?_
  · exact ⟨[], (Same.upd npd).but, hg.at npdg, upd_same, rfl, fun x hx => (List.not_mem_nil hx).elim⟩
  · rintro i H3 hi ⟨L, bt3, g3, hL, hl, lt⟩
    refine ⟨rfl, lcYes ?_⟩
    refine ⟨_, rfl, _, rfl, _, _, rfl, .inr (bt3.tup hgx hrs), _, _, rfl, rfl, ?_⟩
    refine ⟨g, b + i, n, congrArg (fun z => [V.ref g, V.int z]) en, g3, by omega, by omega, by omega, fun H4 z bt4 g4 hz => ?_⟩
    refine ⟨_, bt4 _ _ npdg hL, by rw [nv_len]; exact small1000 (by omega), L ++ [z], (bt3.trans bt4).at npd _, g4.at npdg, by rw [upd_same, nv_snoc], by simp [hl], fun x hx => ?_⟩
    rcases List.mem_append.mp hx with hx | hx
    · exact lt x hx
    · rw [List.mem_singleton] at hx
      rw [hx]
      exact hz
  · rintro H3 ⟨L, bt3, g3, hL, hl, lt⟩
    refine ⟨Nat.zero_le _, fun pe npe => ?_⟩
    have npeg : pe ≠ g := g3.ne npe
    have hped : pd ≠ pe := ne_of_none hL npe
    have btA := bt3.at (bt3.free npeg npe) (.lst [])
    have gA := g3.at (o := .lst []) npeg
    have hA : (upd H3 pe (.lst [])) pe = some (.lst []) := upd_same
    have hLA : (upd H3 pe (.lst [])) pd = some (.lst (nv L)) := by rw [upd_ne hped]; exact hL
    generalize upd H3 pe (.lst []) = H4 at btA gA hA hLA
    refine ⟨_, rfl, g, b + p, 3, rfl, gA, by decide, by decide, by omega, fun H5 u bt5 g5 hu => ?_⟩
    refine ⟨_, _, rfl, rfl, ?_⟩
    have btB := btA.trans bt5
    refine ⟨_, rfl, a, rfl, ⟨_, btB.tup hgx hrs⟩, ?_⟩
    have npe0 : H pe = none := bt3.free npeg npe
    refine for_it (walk_tup (K := K) (a := a) (xs := rs.map V.ref)) (fun i σ H6 => ∃ (M : List Nat) (y7 y8 y9 y10 : Option V), σ = [some (.ref g), some (.ref a), some (.int (p : Int)), some (.ref pd), none, some (.ref pe), some (.bl (decide ((0 : Int) < (u : Int)))), y7, y8, y9, y10] ∧ But g H H6 ∧ GenAt H6 g (b + p + 1 + 3 * i) ∧ H6 pd = some (.lst (nv L)) ∧ H6 pe = some (.lst (nv M)) ∧ M.length = i ∧ ∀ y ∈ M, y < p)
      ⟨[], _, _, _, _, rfl, btB, g5, bt5 _ _ npdg hLA, bt5 _ _ npeg hA, rfl, fun x hx => (List.not_mem_nil hx).elim⟩ (fun i σ H6 _ ⟨_, _, _, _, _, _, bt6, _⟩ => bt6.tup hgx hrs) ?_ ?_
    · rintro i x σ H6 H7 hi ⟨M, y7, y8, y9, y10, rfl, bt6, g6, hL6, hM, hlM, ltM⟩ ⟨rfl, ex⟩
      have hi' : i < ds.length := by
        rw [List.length_map, hlen] at hi
        exact hi
      obtain ⟨r, hr1⟩ : ∃ r, rs[i]? = some r := get_of rfl (by rw [hlen]; exact hi')
      obtain ⟨e, he⟩ : ∃ e, ds[i]? = some e := get_of rfl hi'
      rw [List.getElem?_map, hr1] at ex
      cases ex
      have hre := hds i r e hr1 he
      refine ⟨r, _, rfl, bt6.tup hgx hre, rfl, _, _, rfl, _, _, rfl, rfl, ?_⟩
      refine ⟨_, rfl, (p : Int), rfl, by omega, by omega, fun pn npn => ?_⟩
      have npng : pn ≠ g := g6.ne npn
      have s7 := Same.upd (o := .lst []) npn
      refine lc_range (lo := 0) (n := p) (fun k H8 => ∃ N : List Nat, Same H7 H8 ∧ H8 pn = some (.lst (nv N)) ∧ N.length ≤ k ∧ ∀ y ∈ N, y < p) ⟨[], s7, upd_same, Nat.zero_le _, fun x hx => (List.not_mem_nil hx).elim⟩ ?_ ?_
      · rintro k H8 hk ⟨N, s8, hN, hlN, ltN⟩
        rw [Int.zero_add]
        refine ⟨rfl, _, rfl, decide ((0 : Int) < (u : Int)), rfl, ?_⟩
        cases hlo : decide ((0 : Int) < (u : Int)) with
        | false => exact iteF (iteF ⟨N, s8, hN, by omega, ltN⟩)
        | true =>
          obtain ⟨z, hz⟩ : ∃ z, L[k]? = some z := get_of hl hk
          refine iteT ?_
          refine ⟨_, rfl, _, rfl, pd, _, _, _, rfl, rfl, SqL.of (s8 _ _ hL6), nv_at hz, ?_⟩
          refine ⟨_, rfl, _, rfl, by show 2 ≤ sizeLine; decide, fun tp ntp => ?_⟩
          have s9 := s8.trans (Same.upd (o := .tup [.int (e.1 : Int), .int (e.2 : Int)]) ntp)
          refine ⟨tp, _, rfl, .inr (SqT.of upd_same), rfl, rfl, ?_⟩
          have npp : pn ≠ tp := ne_of_none hN ntp
          have hN9 : (upd H8 tp (.tup [.int (e.1 : Int), .int (e.2 : Int)])) pn = some (.lst (nv N)) := by rw [upd_ne npp]; exact hN
          refine ⟨_, rfl, ?_⟩
          generalize inV _ _ = c
          cases c with
          | false => exact iteF ⟨N, s9, hN9, by omega, ltN⟩
          | true =>
            refine iteT ⟨_, rfl, _, hN9, by rw [nv_len]; exact small1000 (by omega), N ++ [k], s9.at npn, by rw [upd_same, nv_snoc], by rw [List.length_append, List.length_singleton]; omega, fun y hy => ?_⟩
            rcases List.mem_append.mp hy with hy | hy
            · exact ltN y hy
            · rw [List.mem_singleton] at hy
              rw [hy]
              exact hk
      · rintro H8 ⟨N, s8, hN, hlN, ltN⟩
        have b8 : But g H H8 := bt6.trans s8.but
        have g8 := g6.same s8
        have hM8 := s8 _ _ hM
        have bp : b + p + 1 + 3 * i < 2 ^ 60 := by omega
        rcases nil_or_snoc N with rfl | ⟨N', y, rfl⟩
        refine ⟨_, rfl, false, .inl ⟨_, SqL.of hN, rfl⟩, iteF ?_⟩
        refine ⟨_, rfl, _, rfl, .of_le (Int.le_refl _) (by omega) (by omega) (by omega), fun pq npq => ?_⟩
        have en2 : rgV 0 (p : Int) = nv (List.range p) := rgV_nat p
        rw [en2]
        have s9 := Same.upd (o := .lst (nv (List.range p))) npq
        have g9 := g8.same s9
        have hq9 : (upd H8 pq (.lst (nv (List.range p)))) pq = some (.lst (nv (List.range p))) := upd_same
        have hN9 := s9 _ _ hN
        refine ⟨_, rfl, _, rfl, _, _, rfl, .inl (SqL.of hN9), false, rfl, iteF ⟨_, rfl, g, b + p + 1 + 3 * i, p, rfl, g9, by omega, by omega, bp, fun H9 v bt9 g9' hv => ?_⟩⟩
        have nqg : pq ≠ g := g8.ne npq
        refine ⟨pq, _, _, _, rfl, rfl, SqL.of (bt9 _ _ nqg hq9), nv_at (y := v) (by rw [List.getElem?_range hv]), ?_⟩
        have b9 : But g H H9 := (b8.trans s9.but).trans bt9
        have hM9 := bt9 _ _ npeg (s9 _ _ hM8)
        have hL9 := bt9 _ _ npdg (s9 _ _ (s8 _ _ hL6))
        have hz : v < p := hv
        generalize v = z at hz ⊢
        rotate_left
        refine ⟨_, rfl, true, .inl ⟨_, SqL.of hN, by simp [nv]⟩, iteT ?_⟩
        have hlp : (N' ++ [y]).length < 2 ^ 29 := Nat.lt_of_le_of_lt hlN (Nat.lt_of_le_of_lt hp4 (by decide))
        have hnz : (((nv (N' ++ [y])).length : Nat) : Int) ≠ 0 := by rw [nv_len, List.length_append, List.length_singleton]; omega
        refine ⟨_, rfl, _, rfl, _, _, rfl, .inl (SqL.of hN), true, (bne_iff_ne.mpr hnz).symm, iteT ⟨g, b + p + 1 + 3 * i, (N' ++ [y]).length, congrArg (fun z : Nat => [V.ref g, V.int (z : Int)]) (nv_len _), g8, by rw [List.length_append, List.length_singleton]; omega, hlp, bp, fun H9 v bt9 g9' hv => ?_⟩⟩
        obtain ⟨z, hzv⟩ : ∃ z, (N' ++ [y])[v]? = some z := get_of rfl hv
        refine ⟨pn, _, _, _, rfl, rfl, SqL.of (bt9 _ _ npng hN), nv_at hzv, ?_⟩
        have b9 : But g H H9 := b8.trans bt9
        have hM9 := bt9 _ _ npeg hM8
        have hL9 := bt9 _ _ npdg (s8 _ _ hL6)
        have hz : z < p := ltN z (List.mem_of_getElem? hzv)
        all_goals
          refine ⟨_, rfl, .inl ⟨rfl, _, SqL.of hM9⟩, _, rfl, _, rfl, _, rfl, g, b + p + 1 + 3 * i + 1, p, rfl, g9', by omega, by omega, by omega, fun H10 v2 bt10 g10 hv2 => ?_⟩
          refine ⟨by show 2 ≤ sizeLine; decide, fun pl npl => ?_⟩
          have nplg : pl ≠ g := g10.ne npl
          have gB := g10.at (o := .lst [.int (z : Int), .int (v2 : Int)]) nplg
          have bB := (b9.trans bt10).at ((b9.trans bt10).free nplg npl) (.lst [.int (z : Int), .int (v2 : Int)])
          refine ⟨_, rfl, g, b + p + 1 + 3 * i + 2, 5, rfl, gB, by decide, by decide, by omega, fun H11 v3 bt11 g11 hv3 => ?_⟩
          obtain ⟨ix, w, e1, e2, hw⟩ : ∃ (ix w : Nat), (if decide (V.int (v3 : Int) = V.int 0) = true then (1 : Int) else 0) = (ix : Int) ∧ ([z, v2] : List Nat)[ix]? = some w ∧ w < p := by
            by_cases c0 : V.int (v3 : Int) = V.int 0
            · exact ⟨1, v2, by rw [decide_eq_true c0]; rfl, rfl, hv2⟩
            · exact ⟨0, z, by rw [decide_eq_false c0]; rfl, rfl, hz⟩
          have hl11 := bt11 _ _ nplg (show (upd H10 pl (.lst [.int (z : Int), .int (v2 : Int)])) pl = some _ from upd_same)
          have hM11 := bt11 _ _ npeg (show (upd H10 pl (.lst [.int (z : Int), .int (v2 : Int)])) pe = some (.lst (nv M)) from by rw [upd_ne (ne_of_none (bt10 _ _ npeg hM9) npl)]; exact bt10 _ _ npeg hM9)
          have hL11 := bt11 _ _ npdg (show (upd H10 pl (.lst [.int (z : Int), .int (v2 : Int)])) pd = some (.lst (nv L)) from by rw [upd_ne (ne_of_none (bt10 _ _ npdg hL9) npl)]; exact bt10 _ _ npdg hL9)
          have bE := bB.trans bt11
          refine ⟨rfl, .inr ⟨_, rfl, pl, _, _, _, rfl, rfl, SqL.of hl11, (show atI (nv [z, v2]) (if decide (V.int (v3 : Int) = V.int 0) = true then (1 : Int) else 0) = some (V.int (w : Int)) from by rw [e1]; exact nv_at e2), ?_⟩⟩
          refine ⟨pe, _, _, rfl, rfl, hM11, by rw [nv_len, hlM]; exact small1000 (by omega), M ++ [w], _, _, _, _, rfl, bE.at npe0 _, (g11.at npeg).mono (by omega), by rw [upd_ne hped]; exact hL11, by rw [upd_same, nv_snoc], by rw [List.length_append, hlM]; rfl, fun y hy => ?_⟩
          rcases List.mem_append.mp hy with hy | hy
          · exact ltM y hy
          · rw [List.mem_singleton] at hy
            rw [hy]
            exact hw
    · rintro σ H6 ⟨M, y7, y8, y9, y10, rfl, bt6, g6, hL6, hM, hlM, ltM⟩
      rw [List.length_map, hlen] at hlM g6
      refine ⟨_, rfl, pd, _, rfl, .inl ⟨SqL.of hL6, fun t1 nt1 => ?_⟩⟩
      have nt1g : t1 ≠ g := g6.ne nt1
      have hM1 : (upd H6 t1 (.tup (nv L))) pe = some (.lst (nv M)) := by rw [upd_ne (ne_of_none hM nt1)]; exact hM
      refine ⟨_, rfl, pe, _, rfl, .inl ⟨SqL.of hM1, fun t2 nt2 => ?_⟩⟩
      have g7 := g6.at (o := .tup (nv L)) nt1g
      have nt2g : t2 ≠ g := g7.ne nt2
      refine ⟨by show 2 ≤ sizeLine; decide, fun t3 nt3 => ?_⟩
      have g8 := g7.at (o := .tup (nv M)) nt2g
      have n3g : t3 ≠ g := g8.ne nt3
      have s1 := Same.upd (o := .tup (nv L)) nt1
      have s2 := Same.upd (o := .tup (nv M)) nt2
      have s3 := Same.upd (o := .tup [.ref t1, .ref t2]) nt3
      have btE := ((bt6.trans s1.but).trans s2.but).trans s3.but
      refine q _ t3 (L, M) btE ((g8.at n3g).mono (by omega)) ⟨t1, t2, SqT.of upd_same, SqT.of (s3 _ _ (s2 _ _ upd_same)), SqT.of (s3 _ _ upd_same)⟩ ⟨?_, ?_, ?_, hlM, ?_⟩ hl
      · show 1 ≤ L.length
        omega
      · show L.length ≤ 10
        omega
      · exact lt
      · intro y hy
        show y < L.length
        rw [hl]
        exact ltM y hy
end
end K5

namespace K5
open PySem PySem.Spec PyProof.Rows L2
theorem nv_flat : ∀ Ls : List (List Nat), (Ls.map nv).flatten = nv Ls.flatten
  | [] => rfl
  | L :: Ls => by
    rw [List.map_cons, List.flatten_cons, List.flatten_cons, nv_flat Ls]
    unfold nv
    rw [List.map_append]
def spAre (K : PySem.W.Frag) : Sp := fun vs H Q _ => ∃ (q : Addr) (Ls : List (List Nat)), vs = [.ref q] ∧ ListsAt H q Ls ∧ 0 < Ls.length ∧ Ls.flatten.length ≤ 900 ∧ ∀ H', Same H H' → Q (.bl (decide Ls.flatten.Nodup)) H'
section
variable {P : Program} {w : World} {K : PySem.W.Frag}
      {mg : Str → Option Value} {base : Heap}
theorem ok_are_apart (T : Bl mg) (D : Def K mg "_law_are_apart" s_l_are_apart) : Cal P w K mg base "_law_are_apart" ["_law_regions_here"] 1 (spAre K) := by
  refine D.ok sc_l_are_apart (fun _ _ _ _ _ _ us hl => match us, hl with | [_], _ => rfl) (fun vs H Q E h => ?_) (fun f cdv A outer s H vs Q E hr h => ?_)
  · obtain ⟨q, Ls, rfl, _⟩ := h
    rfl
  obtain ⟨q, Ls, rfl, ⟨rs, h1, h2, h3⟩, hpos, hsz, hQ⟩ := h
  refine ⟨_, (pss_cons (ps_set (i := 1) sc_l_are_apart.nd rfl (.inl rfl) (pe_callB (cr_sumL rfl) (by rfl) T.sum (by decide +kernel) (pa_cons (pv 0) (pa_cons (pe_lst pa_nil) pa_nil))))
    (pss_one (ps_ret (pe_cmpR op_eq (pe_lenSetA rfl (by rfl) T.len (by rfl) T.set (pv 1)) (pe_callB call_len_seq (by rfl) T.len PySem.boot_len (pa_cons (pv 1) pa_nil)) (nomark _))))), ?_⟩
  refine ⟨_, rfl, Nat.zero_le _, fun pe npe => ?_⟩
  have nqe : q ≠ pe := ne_of_none h1 npe
  refine ⟨q, pe, rs, Ls.map nv, rfl, by rw [upd_ne nqe]; exact h1, upd_same, by rw [List.length_map]; exact h2, by omega, fun i r L e1 e2 => ?_, by rw [nv_flat, nv_len]; exact Nat.le_of_lt (small1000 (by omega)), fun pj npj => ?_⟩
  · rw [List.getElem?_map] at e2
    obtain ⟨M, hM, rfl⟩ := Option.map_eq_some_iff.mp e2
    have g2 := (h3 i r M e1 hM).2
    rw [upd_ne (ne_of_none g2 npe)]
    exact g2
  · rw [nv_flat]
    have sm := (Same.upd (o := .lst []) npe).trans (Same.upd (o := .lst (nv Ls.flatten)) npj)
    have hp : (upd (upd H pe (.lst [])) pj (.lst (nv Ls.flatten))) pj = some (.lst (nv Ls.flatten)) := upd_same
    generalize upd (upd H pe (.lst [])) pj (.lst (nv Ls.flatten)) = H2 at sm hp
    refine ⟨_, rfl, pj, Ls.flatten.map (fun x : Nat => (x : Int)), rfl, by rw [← nv_int]; exact SqL.of hp, ?_, fun m hm1 hm2 => ?_⟩
    · rw [List.length_map]
      exact Nat.lt_of_le_of_lt (by omega : Ls.flatten.length + 1 ≤ 1000) (by decide)
    · refine ⟨_, rfl, _, _, rfl, .inl (SqL.of hp), rfl, ?_⟩
      have nodup_iff : (Ls.flatten.map fun x : Nat => (x : Int)).Nodup ↔ Ls.flatten.Nodup := by
        unfold List.Nodup
        rw [List.pairwise_map]
        exact ⟨fun h => h.imp fun z e => z (by rw [e]), fun h => h.imp fun z e => z (by omega)⟩
      have e : decide (V.int (m : Int) = V.int (((nv Ls.flatten).length : Nat) : Int)) = decide Ls.flatten.Nodup := by
        rw [nv_len]
        by_cases c : Ls.flatten.Nodup
        · have := hm1 (nodup_iff.mpr c)
          rw [List.length_map] at this
          rw [decide_eq_true c, decide_eq_true (by rw [this])]
        · have := hm2 fun z => c (nodup_iff.mp z)
          rw [List.length_map] at this
          rw [decide_eq_false c, decide_eq_false fun z => by have := V.int.inj z; omega]
      show Q (.bl (decide (V.int (m : Int) = V.int (((nv Ls.flatten).length : Nat) : Int)))) H2
      rw [e]
      exact hQ H2 sm
end
end K5

namespace K5
open PySem PySem.Spec PyProof.Rows L2
/-! the house and the state as text -/
def dE (e : Nat × Nat) : PyData := .tuple [.int (e.1 : Int), .int (e.2 : Int)]
def dH (ds : List (Nat × Nat)) : PyData := .tuple (ds.map dE)
def dHS (ds : List (Nat × Nat)) (S : S2) : PyData := .list [dH ds, dS S]
section
variable {K : PySem.W.Frag} {H : Hp} {a s : Addr} {ds : List (Nat × Nat)} {S : S2}
theorem dp_Es : ∀ (rs : List Addr) (ds : List (Nat × Nat)), rs.length = ds.length → (∀ (d : Nat) (r : Addr) (e : Nat × Nat), rs[d]? = some r → ds[d]? = some e → SqT K H r [.int e.1, .int e.2]) → DpAll K H (rs.map V.ref) (ds.map dE)
  | [], [], _, _ => .nil
  | [], _ :: _, h, _ => by simp at h
  | _ :: _, [], h, _ => by simp at h
  | r :: rs, e :: ds, h, hd => .cons (.tup (hd 0 r e rfl rfl) (.cons (.int _) (.cons (.int _) .nil))) (dp_Es rs ds (by simpa using h) fun d r' e' x y => hd (d + 1) r' e' x y)
theorem dp_H (h : HouseAt K H a ds) : Dp K H (.ref a) (dH ds) := by
  obtain ⟨rs, h1, h2, h3⟩ := h
  exact .tup h1 (dp_Es rs ds h2 h3)
theorem dp_HS {p : Addr} (hp : SqL K H p [.ref a, .ref s]) (h : HouseAt K H a ds) (st : StateAt K H s S) : Dp K H (.ref p) (dHS ds S) := .lst hp (.cons (dp_H h) (.cons (dp_S st) .nil))
theorem dE_lay (z : Nat × Nat) : (dE z).canLay0 = true := by simp [dE, PyData.canLay0, PyData.canLayAll0]
theorem dEs_lay : ∀ zs : List (Nat × Nat), PyData.canLayAll0 (zs.map dE) = true
  | [] => by simp [PyData.canLayAll0]
  | z :: zs => by simp [PyData.canLayAll0, dE_lay z, dEs_lay zs]
theorem dE_depth (z : Nat × Nat) : (dE z).depth ≤ 2 := by simp [dE, PyData.depth, PyData.depthAll]
theorem dEs_depth : ∀ zs : List (Nat × Nat), PyData.depthAll (zs.map dE) ≤ 2
  | [] => by simp [PyData.depthAll]
  | z :: zs => by
    have h1 := dEs_depth zs
    have h2 := dE_depth z
    simp only [List.map_cons, PyData.depthAll]
    omega
theorem dHS_nodict : (dHS ds S).hasDict = false := by
  refine PyData.hasDict_of_canLay _ ?_
  simp only [dHS, dH, dS, PyData.canLay0, PyData.canLayAll0, dEs_lay, dIs_lay, Bool.and_true]
theorem dHS_depth : (dHS ds S).depth ≤ 20 := by
  have h1 := dEs_depth ds
  have h2 := dIs_depth S.1
  have h3 := dIs_depth S.2
  simp only [dHS, dH, dS, PyData.depth, PyData.depthAll]
  omega
theorem small_show {x : Nat} (h : x < 64) : PyData.showable (.int (x : Int)) = true := by
  have : ∀ x : Fin 64, PyData.showable (.int (x.val : Int)) = true := by decide +kernel
  exact this ⟨x, h⟩
theorem showIs : ∀ l : List Nat, (∀ x ∈ l, x < 64) → PyData.showableAll (dIs l) = true
  | [], _ => by simp [dIs, PyData.showableAll]
  | x :: r, h => by
    have ih := showIs r fun y hy => h y (List.mem_cons_of_mem _ hy)
    unfold dIs at ih ⊢
    rw [List.map_cons, List.map_cons, PyData.showableAll, ih, small_show (h x List.mem_cons_self)]
    rfl
theorem showEs : ∀ l : List (Nat × Nat), (∀ e ∈ l, e.1 < 64 ∧ e.2 < 64) → PyData.showableAll (l.map dE) = true
  | [], _ => by simp [PyData.showableAll]
  | e :: r, h => by
    have ih := showEs r fun y hy => h y (List.mem_cons_of_mem _ hy)
    obtain ⟨h1, h2⟩ := h e List.mem_cons_self
    rw [List.map_cons, PyData.showableAll, ih, dE]
    simp only [PyData.showable, PyData.showableAll] at *
    have a1 := small_show h1
    have a2 := small_show h2
    simp only [PyData.showable] at a1 a2
    rw [a1, a2]
    rfl
theorem dHS_show {n : Nat} (T : Tree n ds) (ok : StOk n ds S) (hn : n ≤ 60) : (dHS ds S).showable = true := by
  have h1 := showEs ds fun e he => by
    have := T.lt e he
    omega
  have h2 := showIs S.1 fun x hx => by
    have := ok.rooms x hx
    omega
  have h3 := showIs S.2 fun x hx => by
    have := ok.bars x hx
    have := ok.few
    omega
  simp only [dHS, dH, dS, PyData.showable, PyData.showableAll, h1, h2, h3]
  rfl
theorem dHS_len {n : Nat} (T : Tree n ds) (ok : StOk n ds S) (hn : n ≤ 60) : (dHS ds S).shown.length ≤ sizeLine := by
  have hdn := T.len
  have hE : ∀ d ∈ ds.map dE, d.shown.length ≤ 11 := fun d hd => by
    obtain ⟨e, he, rfl⟩ := List.mem_map.mp hd
    have hl := T.lt e he
    refine shown_tup_le [.int (e.1 : Int), .int (e.2 : Int)] 2 fun d hd => ?_
    simp only [List.mem_cons, List.not_mem_nil, or_false] at hd
    rcases hd with rfl | rfl
    · exact shown_nat (by omega)
    · exact shown_nat (by omega)
  have hI : ∀ l : List Nat, (∀ x ∈ l, x < 64) → ∀ d ∈ dIs l, d.shown.length ≤ 2 := fun l h d hd => by
    unfold dIs at hd
    rw [List.map_map] at hd
    obtain ⟨x, hx, rfl⟩ := List.mem_map.mp hd
    exact shown_nat (h x hx)
  have l1 := shown_tup_le (ds.map dE) 11 hE
  have l2 := shown_tup_le (dIs S.1) 2 (hI S.1 fun x hx => by have := ok.rooms x hx; omega)
  have l3 := shown_tup_le (dIs S.2) 2 (hI S.2 fun x hx => by have := ok.bars x hx; have := ok.few; omega)
  have e2 : (dIs S.1).length = S.1.length := by simp [dIs]
  have e3 : (dIs S.2).length = S.2.length := by simp [dIs]
  rw [List.length_map] at l1
  rw [e2] at l2
  rw [e3] at l3
  have few := ok.few
  have hd := ok.doors
  have l4 := shown_tup_le [.tuple (dIs S.1), .tuple (dIs S.2)] 400 fun d hd => by
    simp only [List.mem_cons, List.not_mem_nil, or_false] at hd
    rcases hd with rfl | rfl <;> omega
  have l5 := shown_list_le [dH ds, dS S] 2000 fun d hd => by
    simp only [List.mem_cons, List.not_mem_nil, or_false] at hd
    rcases hd with rfl | rfl
    · show (PyData.tuple (ds.map dE)).shown.length ≤ 2000
      omega
    · show (PyData.tuple [.tuple (dIs S.1), .tuple (dIs S.2)]).shown.length ≤ 2000
      have : ([.tuple (dIs S.1), .tuple (dIs S.2)] : List PyData).length = 2 := rfl
      omega
  refine Nat.le_trans l5 ?_
  show 2 * 2002 + 2 ≤ sizeLine
  decide
end
end K5

namespace K5
open PySem PySem.Spec PyProof.Rows L2
theorem walk_lt {n : Nat} {ds : List (Nat × Nat)} (T : Tree n ds) : ∀ {a : Nat} {p : List Nat} {b : Nat}, Walk ds a p b → a < n → b < n
  | _, _, _, .nil _, h => h
  | _, _, _, .cons j w, _ => walk_lt T w (j.lt T).2.1
theorem RegsL.flat_le {n : Nat} {ds : List (Nat × Nat)} {S : S2} {k : Nat} {Ls : List (List Nat)} (T : Tree n ds) (h : RegsL ds S k Ls) (hr : ∀ p, p < k → S.1.getD p 0 < n) : Ls.flatten.length ≤ n * k := by
  have key : ∀ Ms : List (List Nat), (∀ M ∈ Ms, M.length ≤ n) → Ms.flatten.length ≤ n * Ms.length := by
    intro Ms
    induction Ms with
    | nil => intro _; exact Nat.zero_le _
    | cons M r ih =>
      intro hM
      have h1 := hM M List.mem_cons_self
      have h2 := ih fun M' hM' => hM M' (List.mem_cons_of_mem _ hM')
      rw [List.flatten_cons, List.length_append, List.length_cons, Nat.mul_succ]
      omega
  rw [← h.len]
  refine key Ls fun M hM => ?_
  obtain ⟨p, hp⟩ := List.getElem?_of_mem hM
  have hpk : p < k := by rw [← h.len]; exact get_lt hp
  have rs := h.at_ p M hp
  refine nodup_le n M rs.nd fun x hx => ?_
  obtain ⟨q, w, _⟩ := (rs.mem x).mp hx
  exact walk_lt T w (hr p hpk)
theorem PairsAt.ne {H : Hp} {q g : Addr} {l : List (Nat × Nat)} {b : Nat} (h : PairsAt H q l) (hg : GenAt H g b) : q ≠ g := by
  obtain ⟨ts, h1, _⟩ := h
  obtain ⟨x, y, z, e, _⟩ := hg
  rintro rfl
  rw [h1] at e
  cases ts with
  | nil => cases e
  | cons t r => cases e
theorem PairsAt.butG {H H' : Hp} {q g : Addr} {l : List (Nat × Nat)} {b : Nat} (h : PairsAt H q l) (hg : GenAt H g b) (s : But g H H') : PairsAt H' q l := by
  obtain ⟨xs, hx⟩ := hg.lst
  exact h.aside hx (h.ne hg) s
theorem Rows.butG {H H' : Hp} {ps : List Addr} {g : Addr} {ex : Nat → List (Nat × Nat)} {b : Nat} (h : Rows H ps ex) (hg : GenAt H g b) (s : But g H H') : Rows H' ps ex := fun x q e => (h x q e).butG hg s
theorem Rows.aside {H H' : Hp} {ps : List Addr} {p : Addr} {ex : Nat → List (Nat × Nat)} {xs : List V} (h : Rows H ps ex) (hp : H p = some (.lst xs)) (ne : p ∉ ps) (s : But p H H') : Rows H' ps ex := fun x q e => (h x q e).aside hp (fun z => ne (z ▸ List.mem_of_getElem? e)) s
theorem Lens.snoc {ds : List (Nat × Nat)} {S : S2} {i lo hi : Nat} {l : List (Nat × Nat)} (ln : Lens ds S i l) (mm : MinMax (EndAt ds (barr S i) (S.1.getD i 0)) lo hi) : Lens ds S (i + 1) (l ++ [(lo, hi)]) := by
  refine ⟨by rw [List.length_append, ln.1]; rfl, fun p e he => ?_⟩
  by_cases d : p < l.length
  · rw [List.getElem?_append_left d] at he
    exact ln.2 p e he
  · have hlt := get_lt he
    rw [List.length_append, List.length_singleton] at hlt
    have ep : p = i := by have := ln.1; omega
    subst ep
    rw [List.getElem?_append_right (by rw [ln.1]; exact Nat.le_refl _), ln.1, Nat.sub_self] at he
    cases he
    exact mm
theorem ne_self (v : V) : (!decide (v = v)) = false := by simp
theorem dp_Ps {K : PySem.W.Frag} {H : Hp} : ∀ (ts : List Addr) (l : List (Nat × Nat)), ts.length = l.length → (∀ (i : Nat) (t : Addr) (e : Nat × Nat), ts[i]? = some t → l[i]? = some e → H t = some (.tup [.int e.1, .int e.2])) → DpAll K H (ts.map V.ref) (l.map dE)
  | [], [], _, _ => .nil
  | [], _ :: _, h, _ => by simp at h
  | _ :: _, [], h, _ => by simp at h
  | t :: ts, e :: l, h, hd => .cons (.tup (SqT.of (hd 0 t e rfl rfl)) (.cons (.int _) (.cons (.int _) .nil))) (dp_Ps ts l (by simpa using h) fun i t' e' x y => hd (i + 1) t' e' x y)
theorem dp_P {K : PySem.W.Frag} {H : Hp} {q : Addr} {l : List (Nat × Nat)} (h : PairsAt H q l) : Dp K H (.ref q) (.list (l.map dE)) := by
  obtain ⟨ts, h1, h2, h3⟩ := h
  exact .lst (SqL.of h1) (dp_Ps ts l h2 h3)
theorem dP_shaped (l : List (Nat × Nat)) : SeqAt.shaped (.list (l.map dE)) = true := by
  have h := dEs_depth l
  refine shaped_mk ?_ ?_
  · simp only [PyData.canLay0]
    exact dEs_lay l
  · simp only [PyData.depth]
    omega
def spHolds (K : PySem.W.Frag) : Sp := fun vs H Q _ => ∃ (g a s : Addr) (b n : Nat) (ds : List (Nat × Nat)) (S : S2), vs = [.ref g, .ref a, .ref s] ∧ GenAt H g b ∧ HouseAt K H a ds ∧ Tree n ds ∧ n ≤ 60 ∧ StateAt K H s S ∧ StOk n ds S ∧ b < 2 ^ 59 ∧ ∀ H', But g H H' → Q (.bl true) H'
section
variable {P : Program} {w : World} {K : PySem.W.Frag}
      {mg : Str → Option Value} {base : Heap}
theorem ok_holds (T : Bl mg) (D : Def K mg "_law_holds" s_l_holds) (C_l_random : Cal P w K mg base "_law_random" ["_law_generator_here", "_law_bound"] 2 spRand) (C_l_regions : Cal P w K mg base "_law_regions" ["_law_layout", "_law_situation"] 3 (spRegsL K))
    (C_l_are_apart : Cal P w K mg base "_law_are_apart" ["_law_regions_here"] 1 (spAre K)) (C_l_around : Cal P w K mg base "_law_around" ["_law_layout"] 1 (spAround K))
    (C_l_walk_ends : Cal P w K mg base "_law_walk_ends" ["_law_around_here", "_law_barred", "_law_who", "_law_spot", "_law_previous"] 1 (spEnds K)) (C_l_person_holds : Cal P w K mg base "_law_person_holds" ["_law_layout", "_law_situation", "_law_traveller", "_law_chosen"] 9 (spPH K))
    (C_is_apart : CalK P w K mg base "is_apart" ["house", "state"] 8 (spApart K) ["state", "house"] rev2 rev2) (C_walk_lengths : CalK P w K mg base "walk_lengths" ["house", "state"] 9 (spLens K) ["state", "house"] rev2 rev2) :
    CalG P w K mg base "_law_holds" ["_law_generator_here", "_law_layout", "_law_situation"] 11 (spHolds K) := by
  refine D.okG sc_l_holds (fun _ _ _ _ _ _ us hl => match us, hl with | [_, _, _], _ => rfl) (fun vs H Q E h => ?_) (fun f cdv A outer s0 H vs Q E hr hq h => ?_)
  · obtain ⟨g, a, s, b, n, ds, S, rfl, _⟩ := h
    rfl
  obtain ⟨g, a, s, b, n, ds, S, rfl, hg, hH, tree, hn, st, ok, hb, qn⟩ := h
  obtain ⟨f_l_regions, fd_l_regions, g_l_regions, k_l_regions, b_l_regions, G_l_regions⟩ := C_l_regions
  obtain ⟨f_l_are_apart, fd_l_are_apart, g_l_are_apart, k_l_are_apart, b_l_are_apart, G_l_are_apart⟩ := C_l_are_apart
  obtain ⟨f_is_apart, fd_is_apart, g_is_apart, k_is_apart, b_is_apart, G_is_apart, KB_is_apart⟩ := C_is_apart
  obtain ⟨f_l_around, fd_l_around, g_l_around, k_l_around, b_l_around, G_l_around⟩ := C_l_around
  obtain ⟨f_l_walk_ends, fd_l_walk_ends, g_l_walk_ends, k_l_walk_ends, b_l_walk_ends, G_l_walk_ends⟩ := C_l_walk_ends
  obtain ⟨f_l_random, fd_l_random, g_l_random, k_l_random, b_l_random, G_l_random⟩ := C_l_random
  obtain ⟨f_l_person_holds, fd_l_person_holds, g_l_person_holds, k_l_person_holds, b_l_person_holds, G_l_person_holds⟩ := C_l_person_holds
  obtain ⟨f_walk_lengths, fd_walk_lengths, g_walk_lengths, k_walk_lengths, b_walk_lengths, G_walk_lengths, KB_walk_lengths⟩ := C_walk_lengths
  refine ⟨_, (pss_cons (ps_set (i := 3) sc_l_holds.nd rfl (.inl rfl) (pe_callB (call_reprD hq hr.units) (by rfl) T.repr (by decide +kernel) (pa_cons (pe_lst (pa_cons (pv 1) (pa_cons (pv 2) pa_nil))) pa_nil)))
    (pss_cons (ps_set (i := 4) sc_l_holds.nd rfl (.inl rfl) (pe_call G_l_regions (hr.mono (by decide)) (by rfl) g_l_regions k_l_regions b_l_regions .nil pass0 (pa_cons (pv 1) (pa_cons (pv 2) pa_nil))))
    (pss_cons (ps_set (i := 5) sc_l_holds.nd rfl (.inl rfl) (pe_call G_l_are_apart (hr.mono (by decide)) (by rfl) g_l_are_apart k_l_are_apart b_l_are_apart .nil pass0 (pa_cons (pv 4) pa_nil)))
    (pss_cons (ps_if (PW.pt (pw_or (pt_cmpR op_ne (pe_call G_is_apart (hr.mono (by decide)) (by rfl) g_is_apart k_is_apart b_is_apart .nil pass0 (pa_cons (pv 1) (pa_cons (pv 2) pa_nil))) (pv 5) (nomark _)) (pw_or1 (pt_cmpR op_ne (pe_callK0 G_is_apart (hr.mono (by decide)) (by rfl) g_is_apart k_is_apart KB_is_apart pass0 (pk_cons (pv 2) (pk_cons (pv 1) pk_nil))) (pv 5) (nomark _))))) (pss_one (ps_ret pe_bl)) pss_nil)
    (pss_cons (ps_set (i := 6) sc_l_holds.nd rfl (.inl rfl) (pe_lst pa_nil))
    (pss_cons (ps_set (i := 7) sc_l_holds.nd rfl (.inr rfl) (pe_call G_l_around (hr.mono (by decide)) (by rfl) g_l_around k_l_around b_l_around .nil pass0 (pa_cons (pv 1) pa_nil)))
    (pss_cons (ps_for PassesOwn.never rfl (pi_enumT (by rfl) T.enumerate (pa_cons (pe_ix ix_tup (pv 2) pe_int (fun _ _ => rfl)) pa_nil)) (pg_tup (n := 2) rfl (pgs_cons (pg_name (i := 8) sc_l_holds.nd rfl (.inl rfl)) (pgs_cons (pg_name (i := 9) sc_l_holds.nd rfl (.inl rfl)) pgs_nil)))
    (pss_cons (ps_set (i := 10) sc_l_holds.nd rfl (.inl rfl) (pe_call G_l_walk_ends (hr.mono (by decide)) (by rfl) g_l_walk_ends k_l_walk_ends b_l_walk_ends .nil pass0 (pa_cons (pv 7) (pa_cons (pe_ix ix_tup (pv 2) pe_int (fun _ _ => rfl)) (pa_cons (pv 8) (pa_cons (pv 9) (pa_cons pe_non pa_nil)))))))
    (pss_cons (ps_expr (pe_bm PySem.F.plainAttrs_list PySem.F.slot_list_append PySem.F.type_list_append mt_append (pv 6) (pa_cons (pe_tup (pa_cons (pe_callB (cr_min rfl) (by rfl) T.min (by decide +kernel) (pa_cons (pv 10) pa_nil)) (pa_cons (pe_callB (cr_max rfl) (by rfl) T.max (by decide +kernel) (pa_cons (pv 10) pa_nil)) pa_nil))) pa_nil)))
    (pss_cons (ps_setLc (i := 11) (own := [("_law_step", 12)]) (g := gName 12)  (te := (tCall spRand [] E0 (tCons (tVar 0) (tCons (tCB (fun xs H Q => ∃ p ys, xs = [V.ref p] ∧ (SqL K H p ys ∨ SqT K H p ys) ∧ Q (.int ys.length) H) (tCons (tVar 7) tNil)) tNil)))) rfl sc_l_holds.nd rfl rfl (sw_true rfl rfl rfl (by decide +kernel)) (pi_range1 rfl T.range (pa_cons pe_int pa_nil)) (blkOk_by (N := N_l_holds) (sc := defScope s_l_holds) (own := [("_law_step", 12)]) (by decide +kernel)) (fun _ _ _ _ _ => (pg_name (i := 12) sc_l_holds.nd rfl (.inl rfl) (.inr rfl))) (fun _ _ _ _ _ => pts_nil) (fun _ _ _ _ _ => (pe_call G_l_random (hr.mono (by decide)) (by rfl) g_l_random k_l_random b_l_random .nil pass0 (pa_cons (pv 0) (pa_cons (pe_callB call_len_seq (by rfl) T.len PySem.boot_len (pa_cons (pv 7) pa_nil)) pa_nil)))))
    (pss_one (ps_if (pt_not (pt_val (pe_call G_l_person_holds (hr.mono (by decide)) (by rfl) g_l_person_holds k_l_person_holds b_l_person_holds .nil pass0 (pa_cons (pv 1) (pa_cons (pv 2) (pa_cons (pv 8) (pa_cons (pv 11) pa_nil))))))) (pss_one (ps_ret pe_bl)) pss_nil))))))
    (pss_cons (ps_set (i := 13) sc_l_holds.nd rfl (.inl rfl) (pe_ix ix_list (pe_lst (pa_cons pe_non (pa_cons (pv 6) pa_nil))) (pe_callTy call_int1 (by rfl) T.int (by decide +kernel) (pa_cons (pv 5) pa_nil)) (fun _ _ => rfl)))
    (pss_cons (ps_if (PW.pt (pw_or (pt_cmpR (op_neD hr.units) (pe_call G_walk_lengths (hr.mono (by decide)) (by rfl) g_walk_lengths k_walk_lengths b_walk_lengths .nil pass0 (pa_cons (pv 1) (pa_cons (pv 2) pa_nil))) (pv 13) (nomark _)) (pw_or1 (pt_cmpR (op_neD hr.units) (pe_callK0 G_walk_lengths (hr.mono (by decide)) (by rfl) g_walk_lengths k_walk_lengths KB_walk_lengths pass0 (pk_cons (pv 2) (pk_cons (pv 1) pk_nil))) (pv 13) (nomark _))))) (pss_one (ps_ret pe_bl)) pss_nil)
    (pss_one (ps_ret (pe_cmpR op_eq (pe_callB (call_reprD hq hr.units) (by rfl) T.repr (by decide +kernel) (pa_cons (pe_lst (pa_cons (pv 1) (pa_cons (pv 2) pa_nil))) pa_nil)) (pv 3) (nomark _))))))))))))), ?_⟩
  obtain ⟨r, bb, h1, h2, h3⟩ := id st
  have few := ok.few
  have one := ok.one
  have hdn := tree.len
  have hdl := ok.doors
  have rlt : ∀ p, p < S.1.length → S.1.getD p 0 < n := fun p hp => ok.rooms _ (by rw [List.getD_eq_getElem?_getD, List.getElem?_eq_getElem hp]; exact List.getElem_mem hp)
  refine ⟨_, rfl, _, rfl, by show 2 ≤ sizeLine; decide, fun p1 np1 => ?_⟩
  have s1 := Same.upd (o := .lst [.ref a, .ref s]) np1
  refine ⟨p1, dHS ds S, rfl, dp_HS (SqL.of upd_same) (hH.same s1) (st.same s1), dHS_show tree ok hn, dHS_nodict, dHS_depth, dHS_len tree ok hn, ?_⟩
  generalize upd H p1 (.lst [.ref a, .ref s]) = H1 at s1
  refine ⟨_, rfl, _, rfl, a, s, n, ds, S, rfl, hH.same s1, tree, hn, st.same s1, ok, fun H2 q2 Ls s2 nq2 la rg => ?_⟩
  have flen := rg.flat_le tree rlt
  have nk : n * S.1.length ≤ 60 * 10 := Nat.mul_le_mul hn few
  refine ⟨_, rfl, q2, Ls, rfl, la, by rw [rg.len]; omega, by omega, fun H3 s3 => ?_⟩
  have s03 := (s1.trans s2).trans s3
  refine ⟨_, rfl, _, rfl, a, s, n, ds, S, rfl, hH.same s03, tree, hn, st.same s03, ok, fun H4 Ms s4 rgM => ?_⟩
  have eM : ∀ Ms', Regs n ds S S.1.length Ms' → decide Ms'.flatten.Nodup = decide Ls.flatten.Nodup := fun Ms' rgM' => by
    have := (RegsL.perm rgM' rg).nodup_iff
    by_cases c : Ls.flatten.Nodup
    · rw [decide_eq_true c, decide_eq_true (this.mpr c)]
    · rw [decide_eq_false c, decide_eq_false fun z => c (this.mp z)]
  rw [eM Ms rgM]
  have s04 := s03.trans s4
  refine ⟨_, rfl, rfl, _, rfl, ?_⟩
  rw [ne_self]
  refine iteF ?_
  refine ⟨_, rfl, _, rfl, a, s, n, ds, S, rfl, hH.same s04, tree, hn, st.same s04, ok, fun H5 Ms2 s5 rgM2 => ?_⟩
  rw [eM Ms2 rgM2]
  have s05 := s04.trans s5
  refine ⟨_, rfl, rfl, _, rfl, ?_⟩
  rw [ne_self]
  refine iteF ?_
  have g5 := hg.same s05
  obtain ⟨gx, hgx⟩ := g5.lst
  have H5H := hH.same s05
  have st5 := st.same s05
  have h15 := s05.tup h1
  have h25 := s05.tup h2
  have h35 := s05.tup h3
  refine ⟨Nat.zero_le _, fun pe npe => ?_⟩
  have npe6 : (upd H5 pe (.lst [])) pe = some (.lst []) := upd_same
  have s6 := Same.upd (o := .lst []) npe
  generalize upd H5 pe (.lst []) = H6 at s6 npe6
  refine ⟨_, rfl, a, ds, n, rfl, H5H.same s6, tree, by omega, fun H7 p7 ps ex s7 np7 hp7 hpl rows mem nod fre => ?_⟩
  have s57 := s6.trans s7
  have hpe7 := s7 _ _ npe6
  have g7 := g5.same s57
  have pe7 : PairsAt H7 pe [] := ⟨[], hpe7, rfl, fun i t e h => by simp at h⟩
  have npeg : pe ≠ g := pe7.ne g7
  have n7g : p7 ≠ g := fun z => by
    subst z
    obtain ⟨x, y, z, e, _⟩ := g7
    rw [hp7] at e
    cases ps with
    | nil => cases e
    | cons t r => cases e
  have n7e : pe ≠ p7 := ne_of_none npe6 np7
  have peps : pe ∉ ps := fun m => by
    rw [fre pe m] at npe6
    cases npe6
  clear s1 s2 s3 s4 s5 s7 la s6
  refine ⟨_, rfl, s, _, _, _, rfl, rfl, s57.tup h15, atI_nat (j := 0) rfl, r, _, rfl, s57.tup h25, ?_⟩
  refine for_it (walk_enumT (K := K) (a := r) (xs := nv S.1)) (fun i σ H8 => ∃ (l : List (Nat × Nat)) (y8 y9 y10 y11 : Option V), σ = [some (.ref g), some (.ref a), some (.ref s), some (.str (dHS ds S).shown), some (.ref q2), some (.bl (decide Ls.flatten.Nodup)), some (.ref pe), some (.ref p7), y8, y9, y10, y11, none, none] ∧ But g H5 H8 ∧ GenAt H8 g (b + 5 * i) ∧ PairsAt H8 pe l ∧ Lens ds S i l ∧ H8 p7 = some (.lst (ps.map V.ref)) ∧ Rows H8 ps ex)
    ⟨[], _, _, _, _, rfl, s57.but, g7, pe7, ⟨rfl, fun p e h => by simp at h⟩, hp7, rows⟩ (fun i σ H8 _ ⟨_, _, _, _, _, _, bt, _⟩ => bt.tup hgx h25) ?_ ?_
  · rintro i x σ H8 H9 hi ⟨l, y8, y9, y10, y11, rfl, bt8, g8, pe8, ln, hp8, rows8⟩ ⟨t, x1, x2, rfl, nt, rfl, ex1, ex2⟩
    cases ex1
    obtain ⟨v, hv, rfl⟩ := nv_some ex2
    rw [nv_len] at hi
    have hvn : v < n := ok.rooms _ (List.mem_of_getElem? hv)
    have st1 := Same.upd (o := .tup [.int (i : Nat), .int (v : Int)]) nt
    refine ⟨t, _, rfl, SqT.of upd_same, rfl, _, _, rfl, _, _, rfl, rfl, ?_⟩
    have bt9 := bt8.trans st1.but
    have g9 := g8.same st1
    have pe9 := pe8.same st1
    have hp9 := st1 _ _ hp8
    have rows9 := rows8.same st1
    generalize upd H8 t (.tup [.int (i : Nat), .int (v : Int)]) = H9 at bt9 g9 pe9 hp9 rows9
    refine ⟨_, rfl, _, rfl, s, _, _, _, rfl, rfl, bt9.tup hgx h15, atI_nat (j := 1) rfl, _, rfl, _, rfl, p7, bb, i, v, n, ds, S, ps, ex, rfl, hp9, hpl, rows9, mem, nod, bt9.tup hgx h35, hdl, tree, hn, hvn, fun H10 q10 ls s10 nq10 hq10 hls => ?_⟩
    obtain ⟨M, hM⟩ : ∃ M, Ms[i]? = some M := get_of rgM.len hi
    obtain ⟨ks, rk, _⟩ := rgM.at_ i M hM
    obtain ⟨x0, hx0, hx1⟩ := rk.has_leaf
    obtain ⟨w0, hw0⟩ := rk.way hx0
    have gv : S.1.getD i 0 = v := by rw [List.getD_eq_getElem?_getD, hv]; rfl
    have hend : EndAt ds (barr S i) v w0.length := by
      rw [← gv]
      exact (rk.ends tree _).mpr ⟨x0, w0, hx0, fun z => hx1 (mem_par.mpr z), hw0, rfl⟩
    have lpos : 0 < ls.length := List.length_pos_of_mem ((hls _).mpr hend)
    have bt10 := bt9.trans s10.but
    have g10 := g9.same s10
    have pe10 := pe9.same s10
    have hp10 := s10 _ _ hp9
    have rows10 := rows9.same s10
    obtain ⟨ts, f1, f2, f3⟩ := id pe10
    refine ⟨_, rfl, .inl ⟨rfl, _, SqL.of f1⟩, _, rfl, q10, ls.map (fun x : Nat => (x : Int)), rfl, by rw [← nv_int]; exact SqL.of hq10, by rw [List.length_map]; exact lpos, fun lo' hlo hlo2 => ?_⟩
    refine ⟨_, rfl, q10, ls.map (fun x : Nat => (x : Int)), rfl, by rw [← nv_int]; exact SqL.of hq10, by rw [List.length_map]; exact lpos, fun hi' hhi hhi2 => ?_⟩
    obtain ⟨lo, hlom, rfl⟩ := List.mem_map.mp hlo
    obtain ⟨hi0, him, rfl⟩ := List.mem_map.mp hhi
    have mm : MinMax (EndAt ds (barr S i) (S.1.getD i 0)) lo hi0 := by
      rw [gv]
      refine ⟨(hls _).mp hlom, (hls _).mp him, fun k hk => ?_⟩
      have m1 := List.mem_map.mpr ⟨k, (hls k).mpr hk, (rfl : (k : Int) = (k : Int))⟩
      have := hlo2 _ m1
      have := hhi2 _ m1
      omega
    refine ⟨by show 2 ≤ sizeLine; decide, fun t2 nt2 => ?_⟩
    have st2 := Same.upd (o := .tup [.int (lo : Int), .int (hi0 : Int)]) nt2
    have f1' := st2 _ _ f1
    have lnl := ln.1
    refine ⟨pe, _, _, rfl, rfl, f1', by rw [List.length_map, f2, lnl]; exact small1000 (by omega), ?_⟩
    have nte : t2 ≠ pe := (ne_of_none f1 nt2).symm
    have pe11 : PairsAt (upd (upd H10 t2 (.tup [.int (lo : Int), .int (hi0 : Int)])) pe (.lst (ts.map V.ref ++ [.ref t2]))) pe (l ++ [(lo, hi0)]) := .push (ts := ts) f1 f2 f3 (fun b o ne e => by rw [upd_ne ne]; exact st2 _ _ e) upd_same (by rw [upd_ne nte]; exact upd_same)
    have bt11 := (bt10.trans st2.but).at npe (.lst (ts.map V.ref ++ [.ref t2]))
    have g11 := (g10.same st2).at (o := .lst (ts.map V.ref ++ [.ref t2])) npeg
    have ln11 := ln.snoc mm
    have bpe : But pe H10 (upd (upd H10 t2 (.tup [.int (lo : Int), .int (hi0 : Int)])) pe (.lst (ts.map V.ref ++ [.ref t2]))) := fun b o ne e => by rw [upd_ne ne]; exact st2 _ _ e
    have hp11 := bpe _ _ n7e.symm hp10
    have rows11 := rows10.aside f1 peps bpe
    generalize (upd (upd H10 t2 (.tup [.int (lo : Int), .int (hi0 : Int)])) pe (.lst (ts.map V.ref ++ [.ref t2]))) = H11 at pe11 bt11 g11 hp11 rows11
    clear bpe f1' f1 f3
    refine ⟨5, rfl, by decide, by decide, fun pc npc => ?_⟩
    have npcg : pc ≠ g := g11.ne npc
    have spc := Same.upd (o := .lst []) npc
    refine lc_range (lo := 0) (n := 5) (fun j H12 => ∃ L : List Nat, But g H11 H12 ∧ GenAt H12 g (b + 5 * i + j) ∧ H12 pc = some (.lst (nv L)) ∧ L.length = j ∧ ∀ x ∈ L, x < n) ⟨[], spc.but, g11.same spc, upd_same, rfl, fun x hx => (List.not_mem_nil hx).elim⟩ ?_ ?_
    · rintro j H12 hj ⟨L, bt12, g12, hL, hl, lt⟩
      refine ⟨rfl, lcYes ?_⟩
      refine ⟨_, rfl, _, rfl, p7, _, rfl, .inl (SqL.of (bt12 _ _ n7g hp11)), g, b + 5 * i + j, n, congrArg (fun z : Nat => [V.ref g, V.int (z : Int)]) (by rw [List.length_map, hpl]), g12, by omega, by omega, by omega, fun H13 z bt13 g13 hz => ?_⟩
      refine ⟨_, bt13 _ _ npcg hL, by rw [nv_len]; exact small1000 (by omega), L ++ [z], (bt12.trans bt13).at npc _, g13.at npcg, by rw [upd_same, nv_snoc], by simp [hl], fun x hx => ?_⟩
      rcases List.mem_append.mp hx with hx | hx
      · exact lt x hx
      · rw [List.mem_singleton] at hx
        rw [hx]
        exact hz
    · rintro H12 ⟨L, bt12, g12, hL, hl, lt⟩
      have bt := bt11.trans bt12
      refine ⟨_, rfl, _, rfl, _, rfl, _, rfl, a, s, pc, i, n, ds, S, L, rfl, H5H.but hgx bt, tree, hn, st5.but hgx bt, ok, hi, hL, lt, fun H13 s13 => ?_⟩
      refine ⟨_, rfl, iteF ?_⟩
      exact ⟨l ++ [(lo, hi0)], _, _, _, _, rfl, bt.trans s13.but, (g12.same s13).mono (by omega), (pe11.butG g11 bt12).same s13, ln11, s13 _ _ (bt12 _ _ n7g hp11), (rows11.butG g11 bt12).same s13⟩
  · rintro σ H8 ⟨l, y8, y9, y10, y11, rfl, bt8, g8, pe8, ln, hp8, rows8⟩
    rw [nv_len] at g8 ln
    refine ⟨_, rfl, by show 2 ≤ sizeLine; decide, fun pl npl => ?_⟩
    have spl := Same.upd (o := .lst [.non, .ref pe]) npl
    have hpl2 : (upd H8 pl (.lst [.non, .ref pe])) pl = some (.lst [.non, .ref pe]) := upd_same
    have bt9 := bt8.trans spl.but
    have pe9 := pe8.same spl
    generalize upd H8 pl (.lst [.non, .ref pe]) = H9 at bt9 pe9 hpl2
    have nd : ∀ Ms', Regs n ds S S.1.length Ms' → (Ms'.flatten.Nodup ↔ Ls.flatten.Nodup) := fun Ms' rgM' => (RegsL.perm rgM' rg).nodup_iff
    have H9H := H5H.but hgx bt9
    have st9 := st5.but hgx bt9
    by_cases c : Ls.flatten.Nodup
    · rw [decide_eq_true c]
      refine ⟨_, rfl, .inr ⟨_, rfl, pl, _, _, _, rfl, rfl, SqL.of hpl2, atI_nat (j := 1) rfl, ?_⟩⟩
      have efl : (!PyData.eqv (.list (l.map dE)) (.list (l.map dE))) = false := by rw [d_refl (dP_shaped l)]; rfl
      refine ⟨_, rfl, _, rfl, a, s, n, ds, S, rfl, H9H, tree, hn, st9, ok, fun Ms' rg' => ⟨fun z => absurd ((nd Ms' rg').mpr c) z, fun _ H10 q10 l' s10 nq10 pa ln' => ?_⟩⟩
      obtain rfl := ln.unique ln'
      refine ⟨_, rfl, .list (l.map dE), .list (l.map dE), dp_P pa, dp_P (pe9.same s10), dP_shaped l, dP_shaped l, _, rfl, ?_⟩
      rw [efl]
      refine iteF ?_
      refine ⟨_, rfl, _, rfl, a, s, n, ds, S, rfl, H9H.same s10, tree, hn, st9.same s10, ok, fun Ms' rg' => ⟨fun z => absurd ((nd Ms' rg').mpr c) z, fun _ H11 q11 l' s11 nq11 pa ln' => ?_⟩⟩
      obtain rfl := ln.unique ln'
      have s911 := s10.trans s11
      refine ⟨_, rfl, .list (l.map dE), .list (l.map dE), dp_P pa, dp_P (pe9.same s911), dP_shaped l, dP_shaped l, _, rfl, ?_⟩
      rw [efl]
      refine iteF ?_
      refine ⟨_, rfl, _, rfl, by show 2 ≤ sizeLine; decide, fun p9 np9 => ?_⟩
      have s9 := Same.upd (o := .lst [.ref a, .ref s]) np9
      refine ⟨p9, dHS ds S, rfl, dp_HS (SqL.of upd_same) ((H9H.same s911).same s9) ((st9.same s911).same s9), dHS_show tree ok hn, dHS_nodict, dHS_depth, dHS_len tree ok hn, _, rfl, rfl, ?_⟩
      rw [decide_eq_true rfl]
      exact qn _ (((s05.but.trans bt9).trans s911.but).trans s9.but)
    · rw [decide_eq_false c]
      refine ⟨_, rfl, .inr ⟨_, rfl, pl, _, _, _, rfl, rfl, SqL.of hpl2, atI_nat (j := 0) rfl, ?_⟩⟩
      have efl : (!PyData.eqv .none .none) = false := by decide +kernel
      have shn : SeqAt.shaped .none = true := by decide +kernel
      refine ⟨_, rfl, _, rfl, a, s, n, ds, S, rfl, H9H, tree, hn, st9, ok, fun Ms' rg' => ⟨fun _ H10 s10 => ?_, fun z => absurd ((nd Ms' rg').mp z) c⟩⟩
      refine ⟨_, rfl, .none, .none, .non, .non, shn, shn, _, rfl, ?_⟩
      rw [efl]
      refine iteF ?_
      refine ⟨_, rfl, _, rfl, a, s, n, ds, S, rfl, H9H.same s10, tree, hn, st9.same s10, ok, fun Ms' rg' => ⟨fun _ H11 s11 => ?_, fun z => absurd ((nd Ms' rg').mp z) c⟩⟩
      have s911 := s10.trans s11
      refine ⟨_, rfl, .none, .none, .non, .non, shn, shn, _, rfl, ?_⟩
      rw [efl]
      refine iteF ?_
      refine ⟨_, rfl, _, rfl, by show 2 ≤ sizeLine; decide, fun p9 np9 => ?_⟩
      have s9 := Same.upd (o := .lst [.ref a, .ref s]) np9
      refine ⟨p9, dHS ds S, rfl, dp_HS (SqL.of upd_same) ((H9H.same s911).same s9) ((st9.same s911).same s9), dHS_show tree ok hn, dHS_nodict, dHS_depth, dHS_len tree ok hn, _, rfl, rfl, ?_⟩
      rw [decide_eq_true rfl]
      exact qn _ (((s05.but.trans bt9).trans s911.but).trans s9.but)
end
end K5

namespace K5
open PySem PySem.Spec PyProof.Rows L2
def spLaw (K : PySem.W.Frag) : Sp := fun vs H Q _ => ∃ (a : Addr) (ns : List Int), vs = [.ref a] ∧ SqL K H a (ns.map V.int) ∧ ns.length ≤ 63 ∧ ∀ H', Q (.bl true) H'
section
variable {P : Program} {w : World} {K : PySem.W.Frag}
      {mg : Str → Option Value} {base : Heap}
theorem pick {i v big : Nat} : ∃ sz : Nat, atI [V.int (1 + (v : Int)), V.int (big : Int)] (if decide (V.int (i : Int) = V.int 4) = true then (1 : Int) else 0) = some (V.int (sz : Int)) ∧ (sz = 1 + v ∨ sz = big) := by
  by_cases c : V.int (i : Int) = V.int 4
  · rw [decide_eq_true c]
    exact ⟨big, rfl, .inr rfl⟩
  · rw [decide_eq_false c]
    refine ⟨1 + v, ?_, .inl rfl⟩
    show some (V.int (1 + (v : Int))) = _
    rw [show (1 + (v : Int)) = ((1 + v : Nat) : Int) by omega]
theorem ok_law {f0 : Addr} {fd0 : FuncData} (T : Bl mg) (F : Fun K "law" "law" s_law f0 fd0) (C_l_generator : Cal P w K mg base "_law_generator" ["_law_script", "_law_index"] 2 (spGen K)) (C_l_random : Cal P w K mg base "_law_random" ["_law_generator_here", "_law_bound"] 2 spRand)
    (C_l_random_house : Cal P w K mg base "_law_random_house" ["_law_generator_here", "_law_size"] 4 (spHouse K)) (C_l_random_state : Cal P w K mg base "_law_random_state" ["_law_generator_here", "_law_layout", "_law_count"] 3 (spRState K))
    (C_l_holds : CalG P w K mg base "_law_holds" ["_law_generator_here", "_law_layout", "_law_situation"] 11 (spHolds K)) : FnG P w K mg base 12 f0 fd0 ["_law_script"] (spLaw K) := by
  refine F.okG sc_law (fun vs H Q E h => ?_) (fun cdv A outer s0 H vs Q E hr hq h => ?_)
  · obtain ⟨a, ns, rfl, _⟩ := h
    rfl
  obtain ⟨a, ns, rfl, hs, hns, qn⟩ := h
  obtain ⟨f_l_generator, fd_l_generator, g_l_generator, k_l_generator, b_l_generator, G_l_generator⟩ := C_l_generator
  obtain ⟨f_l_random, fd_l_random, g_l_random, k_l_random, b_l_random, G_l_random⟩ := C_l_random
  obtain ⟨f_l_random_house, fd_l_random_house, g_l_random_house, k_l_random_house, b_l_random_house, G_l_random_house⟩ := C_l_random_house
  obtain ⟨f_l_holds, fd_l_holds, g_l_holds, k_l_holds, b_l_holds, G_l_holds⟩ := C_l_holds
  obtain ⟨f_l_random_state, fd_l_random_state, g_l_random_state, k_l_random_state, b_l_random_state, G_l_random_state⟩ := C_l_random_state
  refine ⟨_, (pss_cons (ps_for PassesOwn.never rfl (pi_range1 rfl T.range (pa_cons pe_int pa_nil)) (pg_name (i := 1) sc_law.nd rfl (.inl rfl))
    (pss_cons (ps_set (i := 2) sc_law.nd rfl (.inl rfl) (pe_call G_l_generator (hr.mono (by decide)) (by rfl) g_l_generator k_l_generator b_l_generator .nil pass0 (pa_cons (pv 0) (pa_cons (pv 1) pa_nil))))
    (pss_cons (ps_set (i := 3) sc_law.nd rfl (.inl rfl) (pe_ix ix_list (pe_lst (pa_cons (pe_op op_add pe_int (pe_call G_l_random (hr.mono (by decide)) (by rfl) g_l_random k_l_random b_l_random .nil pass0 (pa_cons (pv 2) (pa_cons pe_int pa_nil)))) (pa_cons pe_int pa_nil))) (pe_callTy call_int1 (by rfl) T.int (by decide +kernel) (pa_cons (pe_cmpR op_eq (pv 1) pe_int (nomark _)) pa_nil)) (fun _ _ => rfl)))
    (pss_cons (ps_set (i := 4) sc_law.nd rfl (.inl rfl) (pe_call G_l_random_house (hr.mono (by decide)) (by rfl) g_l_random_house k_l_random_house b_l_random_house .nil pass0 (pa_cons (pv 2) (pa_cons (pv 3) pa_nil))))
    (pss_cons (ps_set (i := 5) sc_law.nd rfl (.inl rfl) (pe_ix ix_list (pe_lst (pa_cons (pe_op op_add pe_int (pe_call G_l_random (hr.mono (by decide)) (by rfl) g_l_random k_l_random b_l_random .nil pass0 (pa_cons (pv 2) (pa_cons pe_int pa_nil)))) (pa_cons pe_int pa_nil))) (pe_callTy call_int1 (by rfl) T.int (by decide +kernel) (pa_cons (pe_cmpR op_eq (pv 1) pe_int (nomark _)) pa_nil)) (fun _ _ => rfl)))
    (pss_one (ps_if (pt_not (pt_val (pe_callG G_l_holds (hr.mono (by decide)) hq (by rfl) g_l_holds k_l_holds b_l_holds (pa_cons (pv 2) (pa_cons (pv 4) (pa_cons (pe_call G_l_random_state (hr.mono (by decide)) (by rfl) g_l_random_state k_l_random_state b_l_random_state .nil pass0 (pa_cons (pv 2) (pa_cons (pv 4) (pa_cons (pv 5) pa_nil)))) pa_nil)))))) (pss_one (ps_ret pe_bl)) pss_nil)))))))
    (pss_one (ps_ret pe_bl))), ?_⟩
  refine ⟨5, rfl, by decide, by decide, ?_⟩
  refine for_range (lo := 0) (n := 5) (fun i σ H1 => ∃ y1 y2 y3 y4 y5, σ = [some (.ref a), y1, y2, y3, y4, y5] ∧ Same H H1) ⟨_, _, _, _, _, rfl, Same.refl _⟩ ?_ ?_
  · rintro i σ H1 hi ⟨y1, y2, y3, y4, y5, rfl, s1⟩
    rw [Int.zero_add]
    refine ⟨_, rfl, _, rfl, a, ns, i, rfl, s1.seq hs, by omega, fun H2 g s2 ng gen => ?_⟩
    have s12 := s1.trans s2
    have ng0 := s1.free ng
    refine ⟨_, rfl, g, 1000000, 12, rfl, gen, by decide, by decide, by decide, fun H3 v bt3 g3 hv => ⟨_, _, rfl, rfl, by show 2 ≤ sizeLine; decide, fun pl npl => ?_⟩⟩
    have nplg := g3.ne npl
    obtain ⟨sz, e1, hsz⟩ := pick (i := i) (v := v) (big := 30)
    refine ⟨_, rfl, rfl, .inr ⟨_, rfl, pl, _, _, _, rfl, rfl, SqL.of upd_same, e1, ?_⟩⟩
    have bt4 := bt3.trans (Same.upd (o := .lst [.int (1 + (v : Int)), .int ((30 : Nat) : Int)]) npl).but (a := g)
    have g4 := g3.at (o := .lst [.int (1 + (v : Int)), .int ((30 : Nat) : Int)]) nplg
    have hsz0 : 0 < sz ∧ sz ≤ 60 := by omega
    generalize upd H3 pl (.lst [.int (1 + (v : Int)), .int ((30 : Nat) : Int)]) = H4 at bt4 g4
    refine ⟨_, rfl, _, rfl, g, 1000001, sz, rfl, g4, hsz0.1, hsz0.2, by decide, fun H5 d ds bt5 g5 ndg hH tree => ?_⟩
    have g5' : GenAt H5 g 1001001 := g5
    obtain ⟨gx, hgx⟩ := g5'.lst
    refine ⟨_, rfl, g, 1001001, 4, rfl, g5', by decide, by decide, by decide, fun H6 v2 bt6 g6 hv2 => ⟨_, _, rfl, rfl, by show 2 ≤ sizeLine; decide, fun pl2 npl2 => ?_⟩⟩
    have npl2g := g6.ne npl2
    obtain ⟨cn, e2, hcn⟩ := pick (i := i) (v := v2) (big := 6)
    refine ⟨_, rfl, rfl, .inr ⟨_, rfl, pl2, _, _, _, rfl, rfl, SqL.of upd_same, e2, ?_⟩⟩
    have bt7 := bt6.trans (Same.upd (o := .lst [.int (1 + (v2 : Int)), .int ((6 : Nat) : Int)]) npl2).but (a := g)
    have g7 := g6.at (o := .lst [.int (1 + (v2 : Int)), .int ((6 : Nat) : Int)]) npl2g
    generalize upd H6 pl2 (.lst [.int (1 + (v2 : Int)), .int ((6 : Nat) : Int)]) = H7 at bt7 g7
    have hH7 := hH.but hgx bt7
    obtain ⟨gy, hgy⟩ := g7.lst
    refine ⟨_, rfl, _, rfl, _, rfl, _, rfl, _, rfl, g, d, 1001002, cn, sz, ds, rfl, g7, hH7, tree, hsz0.2, by omega, by omega, by decide, fun H8 st S bt8 g8 sta ok hl => ?_⟩
    refine ⟨g, d, st, 1001202, sz, ds, S, rfl, g8, hH7.but hgy bt8, tree, hsz0.2, sta, ok, by decide, fun H9 bt9 => ?_⟩
    refine ⟨_, rfl, iteF ?_⟩
    exact ⟨_, _, _, _, _, rfl, s1.trans (But.same s2 ng ((((bt4.trans bt5).trans bt7).trans bt8).trans bt9))⟩
  · rintro σ H1 ⟨y1, y2, y3, y4, y5, rfl, s1⟩
    exact qn H1
end
end K5

namespace K5
open PySem PySem.Spec PyProof.Rows L2
theorem def_mk {K : PySem.W.Frag} {h : Heap} {mg : Str → Option Value} {x : Str} {st : Stmt} (X : K.In h) (G : h.Ns mainGlobals mg) {f : Addr} {oc : Value} {od an : Option Addr} {osl : Array (Option Value)} {kV doc pm cdv ct : Value} (a : PySem.W.nsIn K mainGlobals x = some (some (.ref f)))
    (l : K.lookup f = some ⟨oc, od, .func (PySem.W.fnOf x x (defArgs st) (defBody st) (defScope st) .none kV doc pm an cdv ct), osl⟩) (c : PySem.W.codeIn K cdv x = true) (k : PySem.W.keepIn K (.ref f) = true) : Def K mg x st :=
  ⟨f, _, fun_mk l c k, PySem.W.mg_of X G a⟩
theorem all_mk {l : PySem.W.OpenLaw} {w : World} {K : PySem.W.Frag} {h : Heap} {mg : Str → Option Value} {fa : Addr} (X : K.In h) (G : h.Ns mainGlobals mg) (hfa : mg "law" = some (.ref fa))
    {f0 : Addr} {od0 an0 : Option Addr} {sl0 : Array (Option Value)} {oc0 kV0 dc0 pm0 cd0 ct0 : Value}
    (a0 : PySem.W.nsIn K mainGlobals "is_whole" = some (some (.ref f0))) (l0 : K.lookup f0 = some ⟨oc0, od0, .func (PySem.W.fnOf "is_whole" "is_whole" (defArgs s_is_whole) (defBody s_is_whole) (defScope s_is_whole) .none kV0 dc0 pm0 an0 cd0 ct0), sl0⟩) (c0 : PySem.W.codeIn K cd0 "is_whole" = true) (k0 : PySem.W.keepIn K (.ref f0) = true)
    {f1 : Addr} {od1 an1 : Option Addr} {sl1 : Array (Option Value)} {oc1 kV1 dc1 pm1 cd1 ct1 : Value}
    (a1 : PySem.W.nsIn K mainGlobals "is_index" = some (some (.ref f1))) (l1 : K.lookup f1 = some ⟨oc1, od1, .func (PySem.W.fnOf "is_index" "is_index" (defArgs s_is_index) (defBody s_is_index) (defScope s_is_index) .none kV1 dc1 pm1 an1 cd1 ct1), sl1⟩) (c1 : PySem.W.codeIn K cd1 "is_index" = true) (k1 : PySem.W.keepIn K (.ref f1) = true)
    {f2 : Addr} {od2 an2 : Option Addr} {sl2 : Array (Option Value)} {oc2 kV2 dc2 pm2 cd2 ct2 : Value}
    (a2 : PySem.W.nsIn K mainGlobals "is_door" = some (some (.ref f2))) (l2 : K.lookup f2 = some ⟨oc2, od2, .func (PySem.W.fnOf "is_door" "is_door" (defArgs s_is_door) (defBody s_is_door) (defScope s_is_door) .none kV2 dc2 pm2 an2 cd2 ct2), sl2⟩) (c2 : PySem.W.codeIn K cd2 "is_door" = true) (k2 : PySem.W.keepIn K (.ref f2) = true)
    {f3 : Addr} {od3 an3 : Option Addr} {sl3 : Array (Option Value)} {oc3 kV3 dc3 pm3 cd3 ct3 : Value}
    (a3 : PySem.W.nsIn K mainGlobals "check_house" = some (some (.ref f3))) (l3 : K.lookup f3 = some ⟨oc3, od3, .func (PySem.W.fnOf "check_house" "check_house" (defArgs s_check_house) (defBody s_check_house) (defScope s_check_house) .none kV3 dc3 pm3 an3 cd3 ct3), sl3⟩) (c3 : PySem.W.codeIn K cd3 "check_house" = true) (k3 : PySem.W.keepIn K (.ref f3) = true)
    {f4 : Addr} {od4 an4 : Option Addr} {sl4 : Array (Option Value)} {oc4 kV4 dc4 pm4 cd4 ct4 : Value}
    (a4 : PySem.W.nsIn K mainGlobals "first_ring" = some (some (.ref f4))) (l4 : K.lookup f4 = some ⟨oc4, od4, .func (PySem.W.fnOf "first_ring" "first_ring" (defArgs s_first_ring) (defBody s_first_ring) (defScope s_first_ring) .none kV4 dc4 pm4 an4 cd4 ct4), sl4⟩) (c4 : PySem.W.codeIn K cd4 "first_ring" = true) (k4 : PySem.W.keepIn K (.ref f4) = true)
    {f5 : Addr} {od5 an5 : Option Addr} {sl5 : Array (Option Value)} {oc5 kV5 dc5 pm5 cd5 ct5 : Value}
    (a5 : PySem.W.nsIn K mainGlobals "find_root" = some (some (.ref f5))) (l5 : K.lookup f5 = some ⟨oc5, od5, .func (PySem.W.fnOf "find_root" "find_root" (defArgs s_find_root) (defBody s_find_root) (defScope s_find_root) .none kV5 dc5 pm5 an5 cd5 ct5), sl5⟩) (c5 : PySem.W.codeIn K cd5 "find_root" = true) (k5 : PySem.W.keepIn K (.ref f5) = true)
    {f6 : Addr} {od6 an6 : Option Addr} {sl6 : Array (Option Value)} {oc6 kV6 dc6 pm6 cd6 ct6 : Value}
    (a6 : PySem.W.nsIn K mainGlobals "need_house" = some (some (.ref f6))) (l6 : K.lookup f6 = some ⟨oc6, od6, .func (PySem.W.fnOf "need_house" "need_house" (defArgs s_need_house) (defBody s_need_house) (defScope s_need_house) .none kV6 dc6 pm6 an6 cd6 ct6), sl6⟩) (c6 : PySem.W.codeIn K cd6 "need_house" = true) (k6 : PySem.W.keepIn K (.ref f6) = true)
    {f7 : Addr} {od7 an7 : Option Addr} {sl7 : Array (Option Value)} {oc7 kV7 dc7 pm7 cd7 ct7 : Value}
    (a7 : PySem.W.nsIn K mainGlobals "need_room" = some (some (.ref f7))) (l7 : K.lookup f7 = some ⟨oc7, od7, .func (PySem.W.fnOf "need_room" "need_room" (defArgs s_need_room) (defBody s_need_room) (defScope s_need_room) .none kV7 dc7 pm7 an7 cd7 ct7), sl7⟩) (c7 : PySem.W.codeIn K cd7 "need_room" = true) (k7 : PySem.W.keepIn K (.ref f7) = true)
    {f8 : Addr} {od8 an8 : Option Addr} {sl8 : Array (Option Value)} {oc8 kV8 dc8 pm8 cd8 ct8 : Value}
    (a8 : PySem.W.nsIn K mainGlobals "exits_of" = some (some (.ref f8))) (l8 : K.lookup f8 = some ⟨oc8, od8, .func (PySem.W.fnOf "exits_of" "exits_of" (defArgs s_exits_of) (defBody s_exits_of) (defScope s_exits_of) .none kV8 dc8 pm8 an8 cd8 ct8), sl8⟩) (c8 : PySem.W.codeIn K cd8 "exits_of" = true) (k8 : PySem.W.keepIn K (.ref f8) = true)
    {f9 : Addr} {od9 an9 : Option Addr} {sl9 : Array (Option Value)} {oc9 kV9 dc9 pm9 cd9 ct9 : Value}
    (a9 : PySem.W.nsIn K mainGlobals "ways_from" = some (some (.ref f9))) (l9 : K.lookup f9 = some ⟨oc9, od9, .func (PySem.W.fnOf "ways_from" "ways_from" (defArgs s_ways_from) (defBody s_ways_from) (defScope s_ways_from) .none kV9 dc9 pm9 an9 cd9 ct9), sl9⟩) (c9 : PySem.W.codeIn K cd9 "ways_from" = true) (k9 : PySem.W.keepIn K (.ref f9) = true)
    {f10 : Addr} {od10 an10 : Option Addr} {sl10 : Array (Option Value)} {oc10 kV10 dc10 pm10 cd10 ct10 : Value}
    (a10 : PySem.W.nsIn K mainGlobals "steps_along" = some (some (.ref f10))) (l10 : K.lookup f10 = some ⟨oc10, od10, .func (PySem.W.fnOf "steps_along" "steps_along" (defArgs s_steps_along) (defBody s_steps_along) (defScope s_steps_along) .none kV10 dc10 pm10 an10 cd10 ct10), sl10⟩) (c10 : PySem.W.codeIn K cd10 "steps_along" = true) (k10 : PySem.W.keepIn K (.ref f10) = true)
    {f11 : Addr} {od11 an11 : Option Addr} {sl11 : Array (Option Value)} {oc11 kV11 dc11 pm11 cd11 ct11 : Value}
    (a11 : PySem.W.nsIn K mainGlobals "has_state_shape" = some (some (.ref f11))) (l11 : K.lookup f11 = some ⟨oc11, od11, .func (PySem.W.fnOf "has_state_shape" "has_state_shape" (defArgs s_has_state_shape) (defBody s_has_state_shape) (defScope s_has_state_shape) .none kV11 dc11 pm11 an11 cd11 ct11), sl11⟩) (c11 : PySem.W.codeIn K cd11 "has_state_shape" = true) (k11 : PySem.W.keepIn K (.ref f11) = true)
    {f12 : Addr} {od12 an12 : Option Addr} {sl12 : Array (Option Value)} {oc12 kV12 dc12 pm12 cd12 ct12 : Value}
    (a12 : PySem.W.nsIn K mainGlobals "check_state" = some (some (.ref f12))) (l12 : K.lookup f12 = some ⟨oc12, od12, .func (PySem.W.fnOf "check_state" "check_state" (defArgs s_check_state) (defBody s_check_state) (defScope s_check_state) .none kV12 dc12 pm12 an12 cd12 ct12), sl12⟩) (c12 : PySem.W.codeIn K cd12 "check_state" = true) (k12 : PySem.W.keepIn K (.ref f12) = true)
    {f13 : Addr} {od13 an13 : Option Addr} {sl13 : Array (Option Value)} {oc13 kV13 dc13 pm13 cd13 ct13 : Value}
    (a13 : PySem.W.nsIn K mainGlobals "need_state" = some (some (.ref f13))) (l13 : K.lookup f13 = some ⟨oc13, od13, .func (PySem.W.fnOf "need_state" "need_state" (defArgs s_need_state) (defBody s_need_state) (defScope s_need_state) .none kV13 dc13 pm13 an13 cd13 ct13), sl13⟩) (c13 : PySem.W.codeIn K cd13 "need_state" = true) (k13 : PySem.W.keepIn K (.ref f13) = true)
    {f14 : Addr} {od14 an14 : Option Addr} {sl14 : Array (Option Value)} {oc14 kV14 dc14 pm14 cd14 ct14 : Value}
    (a14 : PySem.W.nsIn K mainGlobals "need_person" = some (some (.ref f14))) (l14 : K.lookup f14 = some ⟨oc14, od14, .func (PySem.W.fnOf "need_person" "need_person" (defArgs s_need_person) (defBody s_need_person) (defScope s_need_person) .none kV14 dc14 pm14 an14 cd14 ct14), sl14⟩) (c14 : PySem.W.codeIn K cd14 "need_person" = true) (k14 : PySem.W.keepIn K (.ref f14) = true)
    {f15 : Addr} {od15 an15 : Option Addr} {sl15 : Array (Option Value)} {oc15 kV15 dc15 pm15 cd15 ct15 : Value}
    (a15 : PySem.W.nsIn K mainGlobals "doors_barring" = some (some (.ref f15))) (l15 : K.lookup f15 = some ⟨oc15, od15, .func (PySem.W.fnOf "doors_barring" "doors_barring" (defArgs s_doors_barring) (defBody s_doors_barring) (defScope s_doors_barring) .none kV15 dc15 pm15 an15 cd15 ct15), sl15⟩) (c15 : PySem.W.codeIn K cd15 "doors_barring" = true) (k15 : PySem.W.keepIn K (.ref f15) = true)
    {f16 : Addr} {od16 an16 : Option Addr} {sl16 : Array (Option Value)} {oc16 kV16 dc16 pm16 cd16 ct16 : Value}
    (a16 : PySem.W.nsIn K mainGlobals "region_ways" = some (some (.ref f16))) (l16 : K.lookup f16 = some ⟨oc16, od16, .func (PySem.W.fnOf "region_ways" "region_ways" (defArgs s_region_ways) (defBody s_region_ways) (defScope s_region_ways) .none kV16 dc16 pm16 an16 cd16 ct16), sl16⟩) (c16 : PySem.W.codeIn K cd16 "region_ways" = true) (k16 : PySem.W.keepIn K (.ref f16) = true)
    {f17 : Addr} {od17 an17 : Option Addr} {sl17 : Array (Option Value)} {oc17 kV17 dc17 pm17 cd17 ct17 : Value}
    (a17 : PySem.W.nsIn K mainGlobals "region" = some (some (.ref f17))) (l17 : K.lookup f17 = some ⟨oc17, od17, .func (PySem.W.fnOf "region" "region" (defArgs s_region) (defBody s_region) (defScope s_region) .none kV17 dc17 pm17 an17 cd17 ct17), sl17⟩) (c17 : PySem.W.codeIn K cd17 "region" = true) (k17 : PySem.W.keepIn K (.ref f17) = true)
    {f18 : Addr} {od18 an18 : Option Addr} {sl18 : Array (Option Value)} {oc18 kV18 dc18 pm18 cd18 ct18 : Value}
    (a18 : PySem.W.nsIn K mainGlobals "walk_to" = some (some (.ref f18))) (l18 : K.lookup f18 = some ⟨oc18, od18, .func (PySem.W.fnOf "walk_to" "walk_to" (defArgs s_walk_to) (defBody s_walk_to) (defScope s_walk_to) .none kV18 dc18 pm18 an18 cd18 ct18), sl18⟩) (c18 : PySem.W.codeIn K cd18 "walk_to" = true) (k18 : PySem.W.keepIn K (.ref f18) = true)
    {f19 : Addr} {od19 an19 : Option Addr} {sl19 : Array (Option Value)} {oc19 kV19 dc19 pm19 cd19 ct19 : Value}
    (a19 : PySem.W.nsIn K mainGlobals "is_apart" = some (some (.ref f19))) (l19 : K.lookup f19 = some ⟨oc19, od19, .func (PySem.W.fnOf "is_apart" "is_apart" (defArgs s_is_apart) (defBody s_is_apart) (defScope s_is_apart) .none kV19 dc19 pm19 an19 cd19 ct19), sl19⟩) (c19 : PySem.W.codeIn K cd19 "is_apart" = true) (k19 : PySem.W.keepIn K (.ref f19) = true)
    {f20 : Addr} {od20 an20 : Option Addr} {sl20 : Array (Option Value)} {oc20 kV20 dc20 pm20 cd20 ct20 : Value}
    (a20 : PySem.W.nsIn K mainGlobals "walk_lengths" = some (some (.ref f20))) (l20 : K.lookup f20 = some ⟨oc20, od20, .func (PySem.W.fnOf "walk_lengths" "walk_lengths" (defArgs s_walk_lengths) (defBody s_walk_lengths) (defScope s_walk_lengths) .none kV20 dc20 pm20 an20 cd20 ct20), sl20⟩) (c20 : PySem.W.codeIn K cd20 "walk_lengths" = true) (k20 : PySem.W.keepIn K (.ref f20) = true)
    {f21 : Addr} {od21 an21 : Option Addr} {sl21 : Array (Option Value)} {oc21 kV21 dc21 pm21 cd21 ct21 : Value}
    (a21 : PySem.W.nsIn K mainGlobals "fewest_and_most" = some (some (.ref f21))) (l21 : K.lookup f21 = some ⟨oc21, od21, .func (PySem.W.fnOf "fewest_and_most" "fewest_and_most" (defArgs s_fewest_and_most) (defBody s_fewest_and_most) (defScope s_fewest_and_most) .none kV21 dc21 pm21 an21 cd21 ct21), sl21⟩) (c21 : PySem.W.codeIn K cd21 "fewest_and_most" = true) (k21 : PySem.W.keepIn K (.ref f21) = true)
    {f22 : Addr} {od22 an22 : Option Addr} {sl22 : Array (Option Value)} {oc22 kV22 dc22 pm22 cd22 ct22 : Value}
    (a22 : PySem.W.nsIn K mainGlobals "_law_cell" = some (some (.ref f22))) (l22 : K.lookup f22 = some ⟨oc22, od22, .func (PySem.W.fnOf "_law_cell" "_law_cell" (defArgs s_l_cell) (defBody s_l_cell) (defScope s_l_cell) .none kV22 dc22 pm22 an22 cd22 ct22), sl22⟩) (c22 : PySem.W.codeIn K cd22 "_law_cell" = true) (k22 : PySem.W.keepIn K (.ref f22) = true)
    {f23 : Addr} {od23 an23 : Option Addr} {sl23 : Array (Option Value)} {oc23 kV23 dc23 pm23 cd23 ct23 : Value}
    (a23 : PySem.W.nsIn K mainGlobals "_law_hash" = some (some (.ref f23))) (l23 : K.lookup f23 = some ⟨oc23, od23, .func (PySem.W.fnOf "_law_hash" "_law_hash" (defArgs s_l_hash) (defBody s_l_hash) (defScope s_l_hash) .none kV23 dc23 pm23 an23 cd23 ct23), sl23⟩) (c23 : PySem.W.codeIn K cd23 "_law_hash" = true) (k23 : PySem.W.keepIn K (.ref f23) = true)
    {f24 : Addr} {od24 an24 : Option Addr} {sl24 : Array (Option Value)} {oc24 kV24 dc24 pm24 cd24 ct24 : Value}
    (a24 : PySem.W.nsIn K mainGlobals "_law_generator" = some (some (.ref f24))) (l24 : K.lookup f24 = some ⟨oc24, od24, .func (PySem.W.fnOf "_law_generator" "_law_generator" (defArgs s_l_generator) (defBody s_l_generator) (defScope s_l_generator) .none kV24 dc24 pm24 an24 cd24 ct24), sl24⟩) (c24 : PySem.W.codeIn K cd24 "_law_generator" = true) (k24 : PySem.W.keepIn K (.ref f24) = true)
    {f25 : Addr} {od25 an25 : Option Addr} {sl25 : Array (Option Value)} {oc25 kV25 dc25 pm25 cd25 ct25 : Value}
    (a25 : PySem.W.nsIn K mainGlobals "_law_random" = some (some (.ref f25))) (l25 : K.lookup f25 = some ⟨oc25, od25, .func (PySem.W.fnOf "_law_random" "_law_random" (defArgs s_l_random) (defBody s_l_random) (defScope s_l_random) .none kV25 dc25 pm25 an25 cd25 ct25), sl25⟩) (c25 : PySem.W.codeIn K cd25 "_law_random" = true) (k25 : PySem.W.keepIn K (.ref f25) = true)
    {f26 : Addr} {od26 an26 : Option Addr} {sl26 : Array (Option Value)} {oc26 kV26 dc26 pm26 cd26 ct26 : Value}
    (a26 : PySem.W.nsIn K mainGlobals "_law_shuffled" = some (some (.ref f26))) (l26 : K.lookup f26 = some ⟨oc26, od26, .func (PySem.W.fnOf "_law_shuffled" "_law_shuffled" (defArgs s_l_shuffled) (defBody s_l_shuffled) (defScope s_l_shuffled) .none kV26 dc26 pm26 an26 cd26 ct26), sl26⟩) (c26 : PySem.W.codeIn K cd26 "_law_shuffled" = true) (k26 : PySem.W.keepIn K (.ref f26) = true)
    {f27 : Addr} {od27 an27 : Option Addr} {sl27 : Array (Option Value)} {oc27 kV27 dc27 pm27 cd27 ct27 : Value}
    (a27 : PySem.W.nsIn K mainGlobals "_law_random_house" = some (some (.ref f27))) (l27 : K.lookup f27 = some ⟨oc27, od27, .func (PySem.W.fnOf "_law_random_house" "_law_random_house" (defArgs s_l_random_house) (defBody s_l_random_house) (defScope s_l_random_house) .none kV27 dc27 pm27 an27 cd27 ct27), sl27⟩) (c27 : PySem.W.codeIn K cd27 "_law_random_house" = true) (k27 : PySem.W.keepIn K (.ref f27) = true)
    {f28 : Addr} {od28 an28 : Option Addr} {sl28 : Array (Option Value)} {oc28 kV28 dc28 pm28 cd28 ct28 : Value}
    (a28 : PySem.W.nsIn K mainGlobals "_law_around" = some (some (.ref f28))) (l28 : K.lookup f28 = some ⟨oc28, od28, .func (PySem.W.fnOf "_law_around" "_law_around" (defArgs s_l_around) (defBody s_l_around) (defScope s_l_around) .none kV28 dc28 pm28 an28 cd28 ct28), sl28⟩) (c28 : PySem.W.codeIn K cd28 "_law_around" = true) (k28 : PySem.W.keepIn K (.ref f28) = true)
    {f29 : Addr} {od29 an29 : Option Addr} {sl29 : Array (Option Value)} {oc29 kV29 dc29 pm29 cd29 ct29 : Value}
    (a29 : PySem.W.nsIn K mainGlobals "_law_random_state" = some (some (.ref f29))) (l29 : K.lookup f29 = some ⟨oc29, od29, .func (PySem.W.fnOf "_law_random_state" "_law_random_state" (defArgs s_l_random_state) (defBody s_l_random_state) (defScope s_l_random_state) .none kV29 dc29 pm29 an29 cd29 ct29), sl29⟩) (c29 : PySem.W.codeIn K cd29 "_law_random_state" = true) (k29 : PySem.W.keepIn K (.ref f29) = true)
    {f30 : Addr} {od30 an30 : Option Addr} {sl30 : Array (Option Value)} {oc30 kV30 dc30 pm30 cd30 ct30 : Value}
    (a30 : PySem.W.nsIn K mainGlobals "_law_moves" = some (some (.ref f30))) (l30 : K.lookup f30 = some ⟨oc30, od30, .func (PySem.W.fnOf "_law_moves" "_law_moves" (defArgs s_l_moves) (defBody s_l_moves) (defScope s_l_moves) .none kV30 dc30 pm30 an30 cd30 ct30), sl30⟩) (c30 : PySem.W.codeIn K cd30 "_law_moves" = true) (k30 : PySem.W.keepIn K (.ref f30) = true)
    {f31 : Addr} {od31 an31 : Option Addr} {sl31 : Array (Option Value)} {oc31 kV31 dc31 pm31 cd31 ct31 : Value}
    (a31 : PySem.W.nsIn K mainGlobals "_law_after_move" = some (some (.ref f31))) (l31 : K.lookup f31 = some ⟨oc31, od31, .func (PySem.W.fnOf "_law_after_move" "_law_after_move" (defArgs s_l_after_move) (defBody s_l_after_move) (defScope s_l_after_move) .none kV31 dc31 pm31 an31 cd31 ct31), sl31⟩) (c31 : PySem.W.codeIn K cd31 "_law_after_move" = true) (k31 : PySem.W.keepIn K (.ref f31) = true)
    {f32 : Addr} {od32 an32 : Option Addr} {sl32 : Array (Option Value)} {oc32 kV32 dc32 pm32 cd32 ct32 : Value}
    (a32 : PySem.W.nsIn K mainGlobals "_law_play" = some (some (.ref f32))) (l32 : K.lookup f32 = some ⟨oc32, od32, .func (PySem.W.fnOf "_law_play" "_law_play" (defArgs s_l_play) (defBody s_l_play) (defScope s_l_play) .none kV32 dc32 pm32 an32 cd32 ct32), sl32⟩) (c32 : PySem.W.codeIn K cd32 "_law_play" = true) (k32 : PySem.W.keepIn K (.ref f32) = true)
    {f33 : Addr} {od33 an33 : Option Addr} {sl33 : Array (Option Value)} {oc33 kV33 dc33 pm33 cd33 ct33 : Value}
    (a33 : PySem.W.nsIn K mainGlobals "_law_region" = some (some (.ref f33))) (l33 : K.lookup f33 = some ⟨oc33, od33, .func (PySem.W.fnOf "_law_region" "_law_region" (defArgs s_l_region) (defBody s_l_region) (defScope s_l_region) .none kV33 dc33 pm33 an33 cd33 ct33), sl33⟩) (c33 : PySem.W.codeIn K cd33 "_law_region" = true) (k33 : PySem.W.keepIn K (.ref f33) = true)
    {f34 : Addr} {od34 an34 : Option Addr} {sl34 : Array (Option Value)} {oc34 kV34 dc34 pm34 cd34 ct34 : Value}
    (a34 : PySem.W.nsIn K mainGlobals "_law_regions" = some (some (.ref f34))) (l34 : K.lookup f34 = some ⟨oc34, od34, .func (PySem.W.fnOf "_law_regions" "_law_regions" (defArgs s_l_regions) (defBody s_l_regions) (defScope s_l_regions) .none kV34 dc34 pm34 an34 cd34 ct34), sl34⟩) (c34 : PySem.W.codeIn K cd34 "_law_regions" = true) (k34 : PySem.W.keepIn K (.ref f34) = true)
    {f35 : Addr} {od35 an35 : Option Addr} {sl35 : Array (Option Value)} {oc35 kV35 dc35 pm35 cd35 ct35 : Value}
    (a35 : PySem.W.nsIn K mainGlobals "_law_are_apart" = some (some (.ref f35))) (l35 : K.lookup f35 = some ⟨oc35, od35, .func (PySem.W.fnOf "_law_are_apart" "_law_are_apart" (defArgs s_l_are_apart) (defBody s_l_are_apart) (defScope s_l_are_apart) .none kV35 dc35 pm35 an35 cd35 ct35), sl35⟩) (c35 : PySem.W.codeIn K cd35 "_law_are_apart" = true) (k35 : PySem.W.keepIn K (.ref f35) = true)
    {f36 : Addr} {od36 an36 : Option Addr} {sl36 : Array (Option Value)} {oc36 kV36 dc36 pm36 cd36 ct36 : Value}
    (a36 : PySem.W.nsIn K mainGlobals "_law_distances" = some (some (.ref f36))) (l36 : K.lookup f36 = some ⟨oc36, od36, .func (PySem.W.fnOf "_law_distances" "_law_distances" (defArgs s_l_distances) (defBody s_l_distances) (defScope s_l_distances) .none kV36 dc36 pm36 an36 cd36 ct36), sl36⟩) (c36 : PySem.W.codeIn K cd36 "_law_distances" = true) (k36 : PySem.W.keepIn K (.ref f36) = true)
    {f37 : Addr} {od37 an37 : Option Addr} {sl37 : Array (Option Value)} {oc37 kV37 dc37 pm37 cd37 ct37 : Value}
    (a37 : PySem.W.nsIn K mainGlobals "_law_walk_ends" = some (some (.ref f37))) (l37 : K.lookup f37 = some ⟨oc37, od37, .func (PySem.W.fnOf "_law_walk_ends" "_law_walk_ends" (defArgs s_l_walk_ends) (defBody s_l_walk_ends) (defScope s_l_walk_ends) .none kV37 dc37 pm37 an37 cd37 ct37), sl37⟩) (c37 : PySem.W.codeIn K cd37 "_law_walk_ends" = true) (k37 : PySem.W.keepIn K (.ref f37) = true)
    {f38 : Addr} {od38 an38 : Option Addr} {sl38 : Array (Option Value)} {oc38 kV38 dc38 pm38 cd38 ct38 : Value}
    (a38 : PySem.W.nsIn K mainGlobals "_law_person_holds" = some (some (.ref f38))) (l38 : K.lookup f38 = some ⟨oc38, od38, .func (PySem.W.fnOf "_law_person_holds" "_law_person_holds" (defArgs s_l_person_holds) (defBody s_l_person_holds) (defScope s_l_person_holds) .none kV38 dc38 pm38 an38 cd38 ct38), sl38⟩) (c38 : PySem.W.codeIn K cd38 "_law_person_holds" = true) (k38 : PySem.W.keepIn K (.ref f38) = true)
    {f39 : Addr} {od39 an39 : Option Addr} {sl39 : Array (Option Value)} {oc39 kV39 dc39 pm39 cd39 ct39 : Value}
    (a39 : PySem.W.nsIn K mainGlobals "_law_holds" = some (some (.ref f39))) (l39 : K.lookup f39 = some ⟨oc39, od39, .func (PySem.W.fnOf "_law_holds" "_law_holds" (defArgs s_l_holds) (defBody s_l_holds) (defScope s_l_holds) .none kV39 dc39 pm39 an39 cd39 ct39), sl39⟩) (c39 : PySem.W.codeIn K cd39 "_law_holds" = true) (k39 : PySem.W.keepIn K (.ref f39) = true)
    {f40 : Addr} {od40 an40 : Option Addr} {sl40 : Array (Option Value)} {oc40 kV40 dc40 pm40 cd40 ct40 : Value}
    (a40 : PySem.W.nsIn K mainGlobals "law" = some (some (.ref f40))) (l40 : K.lookup f40 = some ⟨oc40, od40, .func (PySem.W.fnOf "law" "law" (defArgs s_law) (defBody s_law) (defScope s_law) .none kV40 dc40 pm40 an40 cd40 ct40), sl40⟩) (c40 : PySem.W.codeIn K cd40 "law" = true) (k40 : PySem.W.keepIn K (.ref f40) = true)
    (z0 : PySem.W.nsIn K mainGlobals "len" = some none)
    (z1 : PySem.W.nsIn K mainGlobals "isinstance" = some none)
    (z2 : PySem.W.nsIn K mainGlobals "enumerate" = some none)
    (z3 : PySem.W.nsIn K mainGlobals "range" = some none)
    (z4 : PySem.W.nsIn K mainGlobals "list" = some none)
    (z5 : PySem.W.nsIn K mainGlobals "set" = some none)
    (z6 : PySem.W.nsIn K mainGlobals "sorted" = some none)
    (z7 : PySem.W.nsIn K mainGlobals "max" = some none)
    (z8 : PySem.W.nsIn K mainGlobals "min" = some none)
    (z9 : PySem.W.nsIn K mainGlobals "tuple" = some none)
    (z10 : PySem.W.nsIn K mainGlobals "int" = some none)
    (z11 : PySem.W.nsIn K mainGlobals "bool" = some none)
    (z12 : PySem.W.nsIn K mainGlobals "sum" = some none)
    (z13 : PySem.W.nsIn K mainGlobals "repr" = some none)
    : ∃ fd : FuncData, (∀ (s : Shared) (v : Value), BindsTo s fd ⟨[v], []⟩ [("_law_script", v)]) ∧ ∀ base : Heap, K.In base → base.Ns mainGlobals mg → FnG l.prog w K mg base 12 fa fd ["_law_script"] (spLaw K) := by
  have e := hfa.symm.trans (PySem.W.mg_of X G a40)
  cases e
  have T : Bl mg := ⟨PySem.W.mg_none_of X G z0, PySem.W.mg_none_of X G z1, PySem.W.mg_none_of X G z2, PySem.W.mg_none_of X G z3, PySem.W.mg_none_of X G z4, PySem.W.mg_none_of X G z5, PySem.W.mg_none_of X G z6, PySem.W.mg_none_of X G z7, PySem.W.mg_none_of X G z8, PySem.W.mg_none_of X G z9, PySem.W.mg_none_of X G z10, PySem.W.mg_none_of X G z11, PySem.W.mg_none_of X G z12, PySem.W.mg_none_of X G z13⟩
  have D_is_whole : Def K mg "is_whole" s_is_whole := def_mk X G a0 l0 c0 k0
  have D_is_index : Def K mg "is_index" s_is_index := def_mk X G a1 l1 c1 k1
  have D_is_door : Def K mg "is_door" s_is_door := def_mk X G a2 l2 c2 k2
  have D_check_house : Def K mg "check_house" s_check_house := def_mk X G a3 l3 c3 k3
  have D_first_ring : Def K mg "first_ring" s_first_ring := def_mk X G a4 l4 c4 k4
  have D_find_root : Def K mg "find_root" s_find_root := def_mk X G a5 l5 c5 k5
  have D_need_house : Def K mg "need_house" s_need_house := def_mk X G a6 l6 c6 k6
  have D_need_room : Def K mg "need_room" s_need_room := def_mk X G a7 l7 c7 k7
  have D_exits_of : Def K mg "exits_of" s_exits_of := def_mk X G a8 l8 c8 k8
  have D_ways_from : Def K mg "ways_from" s_ways_from := def_mk X G a9 l9 c9 k9
  have D_steps_along : Def K mg "steps_along" s_steps_along := def_mk X G a10 l10 c10 k10
  have D_has_state_shape : Def K mg "has_state_shape" s_has_state_shape := def_mk X G a11 l11 c11 k11
  have D_check_state : Def K mg "check_state" s_check_state := def_mk X G a12 l12 c12 k12
  have D_need_state : Def K mg "need_state" s_need_state := def_mk X G a13 l13 c13 k13
  have D_need_person : Def K mg "need_person" s_need_person := def_mk X G a14 l14 c14 k14
  have D_doors_barring : Def K mg "doors_barring" s_doors_barring := def_mk X G a15 l15 c15 k15
  have D_region_ways : Def K mg "region_ways" s_region_ways := def_mk X G a16 l16 c16 k16
  have D_region : Def K mg "region" s_region := def_mk X G a17 l17 c17 k17
  have D_walk_to : Def K mg "walk_to" s_walk_to := def_mk X G a18 l18 c18 k18
  have D_is_apart : Def K mg "is_apart" s_is_apart := def_mk X G a19 l19 c19 k19
  have D_walk_lengths : Def K mg "walk_lengths" s_walk_lengths := def_mk X G a20 l20 c20 k20
  have D_fewest_and_most : Def K mg "fewest_and_most" s_fewest_and_most := def_mk X G a21 l21 c21 k21
  have D_l_cell : Def K mg "_law_cell" s_l_cell := def_mk X G a22 l22 c22 k22
  have D_l_hash : Def K mg "_law_hash" s_l_hash := def_mk X G a23 l23 c23 k23
  have D_l_generator : Def K mg "_law_generator" s_l_generator := def_mk X G a24 l24 c24 k24
  have D_l_random : Def K mg "_law_random" s_l_random := def_mk X G a25 l25 c25 k25
  have D_l_shuffled : Def K mg "_law_shuffled" s_l_shuffled := def_mk X G a26 l26 c26 k26
  have D_l_random_house : Def K mg "_law_random_house" s_l_random_house := def_mk X G a27 l27 c27 k27
  have D_l_around : Def K mg "_law_around" s_l_around := def_mk X G a28 l28 c28 k28
  have D_l_random_state : Def K mg "_law_random_state" s_l_random_state := def_mk X G a29 l29 c29 k29
  have D_l_moves : Def K mg "_law_moves" s_l_moves := def_mk X G a30 l30 c30 k30
  have D_l_after_move : Def K mg "_law_after_move" s_l_after_move := def_mk X G a31 l31 c31 k31
  have D_l_play : Def K mg "_law_play" s_l_play := def_mk X G a32 l32 c32 k32
  have D_l_region : Def K mg "_law_region" s_l_region := def_mk X G a33 l33 c33 k33
  have D_l_regions : Def K mg "_law_regions" s_l_regions := def_mk X G a34 l34 c34 k34
  have D_l_are_apart : Def K mg "_law_are_apart" s_l_are_apart := def_mk X G a35 l35 c35 k35
  have D_l_distances : Def K mg "_law_distances" s_l_distances := def_mk X G a36 l36 c36 k36
  have D_l_walk_ends : Def K mg "_law_walk_ends" s_l_walk_ends := def_mk X G a37 l37 c37 k37
  have D_l_person_holds : Def K mg "_law_person_holds" s_l_person_holds := def_mk X G a38 l38 c38 k38
  have D_l_holds : Def K mg "_law_holds" s_l_holds := def_mk X G a39 l39 c39 k39
  refine ⟨PySem.W.fnOf "law" "law" (defArgs s_law) (defBody s_law) (defScope s_law) .none kV40 dc40 pm40 an40 cd40 ct40, fun s v => .of_eq rfl, fun base _ _ => ?_⟩
  have C_is_whole : Cal l.prog w K mg base "is_whole" ["value"] 1 spWhole := ok_is_whole T D_is_whole
  have C_is_index : Cal l.prog w K mg base "is_index" ["value", "count"] 2 spIndex := ok_is_index T D_is_index C_is_whole
  have C_is_door : Cal l.prog w K mg base "is_door" ["value", "count"] 3 (spDoor K) := ok_is_door T D_is_door C_is_index
  have C_find_root : Cal l.prog w K mg base "find_root" ["links", "room"] 1 spFind := ok_find_root T D_find_root
  have C_need_room : Cal l.prog w K mg base "need_room" ["house", "room"] 3 (spNeedRoom K) := ok_need_room T D_need_room C_is_index
  have C_exits_of : Cal l.prog w K mg base "exits_of" ["house"] 1 (spExits K) := ok_exits_of T D_exits_of
  have C_ways_from : Cal l.prog w K mg base "ways_from" ["house", "room", "shut"] 2 (spWays K) := ok_ways_from T D_ways_from C_exits_of
  have C_steps_along : Cal l.prog w K mg base "steps_along" ["ways", "room"] 1 (spStepsT K) := ok_steps_along T D_steps_along
  have C_has_state_shape : Cal l.prog w K mg base "has_state_shape" ["house", "value"] 1 (spShape K) := ok_has_state_shape T D_has_state_shape
  have C_need_person : Cal l.prog w K mg base "need_person" ["state", "person"] 3 (spPerson K) := ok_need_person T D_need_person C_is_index
  have C_doors_barring : Cal l.prog w K mg base "doors_barring" ["state", "person"] 1 (spBarring K) := ok_doors_barring T D_doors_barring
  have C_region_ways : Cal l.prog w K mg base "region_ways" ["house", "state", "person"] 3 (spRegWays K) := ok_region_ways T D_region_ways C_ways_from C_doors_barring
  have C_fewest_and_most : Cal l.prog w K mg base "fewest_and_most" ["ways"] 1 (spFew K) := ok_fewest_and_most T D_fewest_and_most
  have C_l_cell : Cal l.prog w K mg base "_law_cell" ["_law_script", "_law_index"] 1 (spCell K) := ok_cell T D_l_cell
  have C_l_hash : Cal l.prog w K mg base "_law_hash" ["_law_seed", "_law_index"] 1 spHash := ok_hash T D_l_hash
  have C_l_generator : Cal l.prog w K mg base "_law_generator" ["_law_script", "_law_index"] 2 (spGen K) := ok_generator T D_l_generator C_l_cell
  have C_l_random : Cal l.prog w K mg base "_law_random" ["_law_generator_here", "_law_bound"] 2 spRand := ok_random T D_l_random C_l_hash
  have C_l_shuffled : Cal l.prog w K mg base "_law_shuffled" ["_law_generator_here", "_law_items"] 3 (spShuf K) := ok_shuffled T D_l_shuffled C_l_random
  have C_l_random_house : Cal l.prog w K mg base "_law_random_house" ["_law_generator_here", "_law_size"] 4 (spHouse K) := ok_random_house T D_l_random_house C_l_random C_l_shuffled
  have C_l_around : Cal l.prog w K mg base "_law_around" ["_law_layout"] 1 (spAround K) := ok_around T D_l_around
  have C_l_random_state : Cal l.prog w K mg base "_law_random_state" ["_law_generator_here", "_law_layout", "_law_count"] 3 (spRState K) := ok_random_state T D_l_random_state C_l_random
  have C_l_moves : Cal l.prog w K mg base "_law_moves" ["_law_layout", "_law_situation"] 1 (spMoves K) := ok_moves T D_l_moves
  have C_l_after_move : Cal l.prog w K mg base "_law_after_move" ["_law_situation", "_law_move"] 1 (spAfter K) := ok_after_move T D_l_after_move
  have C_l_play : Cal l.prog w K mg base "_law_play" ["_law_layout", "_law_situation", "_law_moves_here"] 2 (spPlay K) := ok_play T D_l_play C_l_moves C_l_after_move
  have C_l_region : Cal l.prog w K mg base "_law_region" ["_law_layout", "_law_situation", "_law_who"] 2 (spRegL K) := ok_l_region T D_l_region C_l_around
  have C_l_regions : Cal l.prog w K mg base "_law_regions" ["_law_layout", "_law_situation"] 3 (spRegsL K) := ok_l_regions T D_l_regions C_l_region
  have C_l_are_apart : Cal l.prog w K mg base "_law_are_apart" ["_law_regions_here"] 1 (spAre K) := ok_are_apart T D_l_are_apart
  have C_l_distances : Cal l.prog w K mg base "_law_distances" ["_law_layout", "_law_spot"] 2 (spDist K) := ok_distances T D_l_distances C_l_around
  have C_l_walk_ends : Cal l.prog w K mg base "_law_walk_ends" ["_law_around_here", "_law_barred", "_law_who", "_law_spot", "_law_previous"] 1 (spEnds K) := ok_walk_ends T D_l_walk_ends
  have C_first_ring : Cal l.prog w K mg base "first_ring" ["doors"] 2 (spRing K) := ok_first_ring T D_first_ring C_find_root
  have C_check_house : Cal l.prog w K mg base "check_house" ["value"] 4 (spRing K) := ok_check_house T D_check_house C_is_door C_first_ring
  have C_need_house : Cal l.prog w K mg base "need_house" ["house"] 5 (spRing K) := ok_need_house T D_need_house C_check_house
  have C_check_state : Cal l.prog w K mg base "check_state" ["house", "value"] 6 (spSt K) := ok_check_state T D_check_state C_need_house C_has_state_shape C_is_index
  have C_need_state : Cal l.prog w K mg base "need_state" ["house", "state"] 7 (spSt K) := ok_need_state T D_need_state C_check_state
  have C_region : CalK l.prog w K mg base "region" ["house", "state", "person"] 8 (spRegion K) ["person", "state", "house"] rev3 rev3 := ok_region T D_region C_need_state C_need_person C_region_ways
  have C_walk_to : CalK l.prog w K mg base "walk_to" ["house", "state", "person", "room"] 8 (spWalkTo K) ["room", "person", "state", "house"] rev4 rev4 := ok_walk_to T D_walk_to C_need_state C_need_person C_need_room C_ways_from C_doors_barring C_steps_along
  have C_is_apart : CalK l.prog w K mg base "is_apart" ["house", "state"] 8 (spApart K) ["state", "house"] rev2 rev2 := ok_is_apart T D_is_apart C_need_state C_region_ways
  have C_walk_lengths : CalK l.prog w K mg base "walk_lengths" ["house", "state"] 9 (spLens K) ["state", "house"] rev2 rev2 := ok_walk_lengths T D_walk_lengths C_is_apart.cal C_fewest_and_most C_region_ways
  have C_l_person_holds : Cal l.prog w K mg base "_law_person_holds" ["_law_layout", "_law_situation", "_law_traveller", "_law_chosen"] 9 (spPH K) := ok_person_holds T D_l_person_holds C_l_region C_region C_walk_to C_l_distances C_l_play
  have C_l_holds : CalG l.prog w K mg base "_law_holds" ["_law_generator_here", "_law_layout", "_law_situation"] 11 (spHolds K) := ok_holds T D_l_holds C_l_random C_l_regions C_l_are_apart C_l_around C_l_walk_ends C_l_person_holds C_is_apart C_walk_lengths
  exact ok_law T (fun_mk (st := s_law) l40 c40 k40) C_l_generator C_l_random C_l_random_house C_l_random_state C_l_holds
end K5

open PySem PySem.W PyProof.Rows
set_option maxHeartbeats 0 in
theorem PySem.Challenge.cw_lastthrough_k20_regions_and_walks_holds : PySem.Challenge.rw_lastthrough_k20_regions_and_walks.Holds := by
  w_on; o_law; k_head; (case hw => w_witness2)
  k_fill
  refine L2.walk_ofG (l := PySem.Challenge.rw_lastthrough_k20_regions_and_walks) (n := 63) (k := 12) (x := "_law_script") (sp := fun w => K5.spLaw _) rfl (by decide) rfl ⟨rfl, by decide, by decide⟩ (fun w h Y => PySem.W.kIn_of Y) ?F (fun _ _ a ns hl _ hS => ⟨a, ns, rfl, hS, hl, fun _ => rfl⟩)
  case F =>
    intro w mg fa h KX G hmg
    refine' K5.all_mk KX G hmg ?a0 ?l0 ?c0 ?k0 ?a1 ?l1 ?c1 ?k1 ?a2 ?l2 ?c2 ?k2 ?a3 ?l3 ?c3 ?k3 ?a4 ?l4 ?c4 ?k4 ?a5 ?l5 ?c5 ?k5 ?a6 ?l6 ?c6 ?k6 ?a7 ?l7 ?c7 ?k7 ?a8 ?l8 ?c8 ?k8 ?a9 ?l9 ?c9 ?k9 ?a10 ?l10 ?c10 ?k10 ?a11 ?l11 ?c11 ?k11 ?a12 ?l12 ?c12 ?k12 ?a13 ?l13 ?c13 ?k13 ?a14 ?l14 ?c14 ?k14 ?a15 ?l15 ?c15 ?k15 ?a16 ?l16 ?c16 ?k16 ?a17 ?l17 ?c17 ?k17 ?a18 ?l18 ?c18 ?k18 ?a19 ?l19 ?c19 ?k19 ?a20 ?l20 ?c20 ?k20 ?a21 ?l21 ?c21 ?k21 ?a22 ?l22 ?c22 ?k22 ?a23 ?l23 ?c23 ?k23 ?a24 ?l24 ?c24 ?k24 ?a25 ?l25 ?c25 ?k25 ?a26 ?l26 ?c26 ?k26 ?a27 ?l27 ?c27 ?k27 ?a28 ?l28 ?c28 ?k28 ?a29 ?l29 ?c29 ?k29 ?a30 ?l30 ?c30 ?k30 ?a31 ?l31 ?c31 ?k31 ?a32 ?l32 ?c32 ?k32 ?a33 ?l33 ?c33 ?k33 ?a34 ?l34 ?c34 ?k34 ?a35 ?l35 ?c35 ?k35 ?a36 ?l36 ?c36 ?k36 ?a37 ?l37 ?c37 ?k37 ?a38 ?l38 ?c38 ?k38 ?a39 ?l39 ?c39 ?k39 ?a40 ?l40 ?c40 ?k40 ?z0 ?z1 ?z2 ?z3 ?z4 ?z5 ?z6 ?z7 ?z8 ?z9 ?z10 ?z11 ?z12 ?z13
    (case a0 => k_is)
    (case l0 => k_is)
    (case c0 => k_is)
    (case k0 => k_is)
    (case a1 => k_is)
    (case l1 => k_is)
    (case c1 => k_is)
    (case k1 => k_is)
    (case a2 => k_is)
    (case l2 => k_is)
    (case c2 => k_is)
    (case k2 => k_is)
    (case a3 => k_is)
    (case l3 => k_is)
    (case c3 => k_is)
    (case k3 => k_is)
    (case a4 => k_is)
    (case l4 => k_is)
    (case c4 => k_is)
    (case k4 => k_is)
    (case a5 => k_is)
    (case l5 => k_is)
    (case c5 => k_is)
    (case k5 => k_is)
    (case a6 => k_is)
    (case l6 => k_is)
    (case c6 => k_is)
    (case k6 => k_is)
    (case a7 => k_is)
    (case l7 => k_is)
    (case c7 => k_is)
    (case k7 => k_is)
    (case a8 => k_is)
    (case l8 => k_is)
    (case c8 => k_is)
    (case k8 => k_is)
    (case a9 => k_is)
    (case l9 => k_is)
    (case c9 => k_is)
    (case k9 => k_is)
    (case a10 => k_is)
    (case l10 => k_is)
    (case c10 => k_is)
    (case k10 => k_is)
    (case a11 => k_is)
    (case l11 => k_is)
    (case c11 => k_is)
    (case k11 => k_is)
    (case a12 => k_is)
    (case l12 => k_is)
    (case c12 => k_is)
    (case k12 => k_is)
    (case a13 => k_is)
    (case l13 => k_is)
    (case c13 => k_is)
    (case k13 => k_is)
    (case a14 => k_is)
    (case l14 => k_is)
    (case c14 => k_is)
    (case k14 => k_is)
    (case a15 => k_is)
    (case l15 => k_is)
    (case c15 => k_is)
    (case k15 => k_is)
    (case a16 => k_is)
    (case l16 => k_is)
    (case c16 => k_is)
    (case k16 => k_is)
    (case a17 => k_is)
    (case l17 => k_is)
    (case c17 => k_is)
    (case k17 => k_is)
    (case a18 => k_is)
    (case l18 => k_is)
    (case c18 => k_is)
    (case k18 => k_is)
    (case a19 => k_is)
    (case l19 => k_is)
    (case c19 => k_is)
    (case k19 => k_is)
    (case a20 => k_is)
    (case l20 => k_is)
    (case c20 => k_is)
    (case k20 => k_is)
    (case a21 => k_is)
    (case l21 => k_is)
    (case c21 => k_is)
    (case k21 => k_is)
    (case a22 => k_is)
    (case l22 => k_is)
    (case c22 => k_is)
    (case k22 => k_is)
    (case a23 => k_is)
    (case l23 => k_is)
    (case c23 => k_is)
    (case k23 => k_is)
    (case a24 => k_is)
    (case l24 => k_is)
    (case c24 => k_is)
    (case k24 => k_is)
    (case a25 => k_is)
    (case l25 => k_is)
    (case c25 => k_is)
    (case k25 => k_is)
    (case a26 => k_is)
    (case l26 => k_is)
    (case c26 => k_is)
    (case k26 => k_is)
    (case a27 => k_is)
    (case l27 => k_is)
    (case c27 => k_is)
    (case k27 => k_is)
    (case a28 => k_is)
    (case l28 => k_is)
    (case c28 => k_is)
    (case k28 => k_is)
    (case a29 => k_is)
    (case l29 => k_is)
    (case c29 => k_is)
    (case k29 => k_is)
    (case a30 => k_is)
    (case l30 => k_is)
    (case c30 => k_is)
    (case k30 => k_is)
    (case a31 => k_is)
    (case l31 => k_is)
    (case c31 => k_is)
    (case k31 => k_is)
    (case a32 => k_is)
    (case l32 => k_is)
    (case c32 => k_is)
    (case k32 => k_is)
    (case a33 => k_is)
    (case l33 => k_is)
    (case c33 => k_is)
    (case k33 => k_is)
    (case a34 => k_is)
    (case l34 => k_is)
    (case c34 => k_is)
    (case k34 => k_is)
    (case a35 => k_is)
    (case l35 => k_is)
    (case c35 => k_is)
    (case k35 => k_is)
    (case a36 => k_is)
    (case l36 => k_is)
    (case c36 => k_is)
    (case k36 => k_is)
    (case a37 => k_is)
    (case l37 => k_is)
    (case c37 => k_is)
    (case k37 => k_is)
    (case a38 => k_is)
    (case l38 => k_is)
    (case c38 => k_is)
    (case k38 => k_is)
    (case a39 => k_is)
    (case l39 => k_is)
    (case c39 => k_is)
    (case k39 => k_is)
    (case a40 => k_is)
    (case l40 => k_is)
    (case c40 => k_is)
    (case k40 => k_is)
    (case z0 => k_is)
    (case z1 => k_is)
    (case z2 => k_is)
    (case z3 => k_is)
    (case z4 => k_is)
    (case z5 => k_is)
    (case z6 => k_is)
    (case z7 => k_is)
    (case z8 => k_is)
    (case z9 => k_is)
    (case z10 => k_is)
    (case z11 => k_is)
    (case z12 => k_is)
    (case z13 => k_is)

